import Derived.Test.YtgieeeeeiggoeaaGreatC15
import Derived.Deep.Upon
set_option maxRecDepth 100000
set_option maxHeartbeats 4000000
namespace Go.Proofs.YtgieeeeeiggoeaaGreat
open Go.RowKit Go.Shelf
attribute [local go_sem] Oper.semAt_some
def accOf (pre:List (Nat × Ent)):Int:=pre.foldl (fun _ y=>y.2.value) (-1)
theorem acc_put (key:Int)(es:List Ent)(k:Nat)(hk:k≤es.length):accOf (fitTo (isPut key) es k)=lastPut key (es.take k):=by
 induction k with
 | zero=>rfl
 | succ k ih =>
  have hlt:k<es.length:=by omega
  rw[fitTo_succ,take_snoc_ents es k hlt];have ih:=ih (by omega)
  unfold accOf lastPut at *
  rw[List.foldl_append,List.foldl_append,ih];unfold isPut
  by_cases h:(es.getD k Ent.zero).kind=1∧(es.getD k Ent.zero).key=key
  ·rw[if_pos (by rw[decide_eq_true h.1,decide_eq_true h.2];rfl)]
   show _=if _ then _ else _
   rw[if_pos h];rfl
  ·rw[if_neg (by intro h2;apply h;simpa using h2)]
   show _=if _ then _ else _
   rw[if_neg h];rfl
theorem keepF_set {ps:List (Addr × Value)}{W:World}{B:Nat}{cs:Array Value}{T:TypeId}(v:Value)(hB:W.heap[B]?=some (.cells cs T))(hT:T≠42)(hps:∀ q∈ps,q.1.block≠B):KeepF ps W (W.setCell ⟨B,0,none⟩ v):=by
 refine⟨fun k cs' T' fz hS hk => ?_,fun h q hq => ?_⟩
 ·have hne:k≠B:=by
   intro e;subst e;rw[hB] at hk
   injection hk with hk
   injection hk with _ hk
   subst hk;simp[entT] at hS
   exact hT hS
  rw[Below.heap_setCell _ _ _ k hne];exact hk
 ·rw[World.cell?_setCell_other _ _ _ _ (by intro e;exact hps q hq (by rw[← e]))]
  exact h q hq
theorem answer_in (n:Nat)(hn:Hid (6≤n))(g c:Nat)(es:List Ent)(P:Nat)(w:World)(hl:es.length≤1000)(hP:P<es.length)(hcap:es.length≤c)(hv:RowIs w g es) :
  CallsIn Fence.wide n Tryz.prog 296 #[.slice (some ⟨g,0,none⟩) es.length c,.int .i64 (P:Int)] w fun e w'=>e=.returned (.int .i64 (answerAt es P))∧Below w.heap.size w w':=by
 obtain⟨cur,fz,hg,hc⟩:=hv;obtain⟨c0,c1,c2,c3,c4⟩:=hc P hP
 have Hv:Hid (RowIs w g es):=⟨cur,fz,hg,hc⟩
 have HA:Hid (answerAt es P=accOf (fitList (isPut (es.getD P Ent.zero).key) (es.take P))):=hideA (by
  unfold answerAt fitList
  rw[acc_put _ _ _ (Nat.le_refl _),List.take_length])
 clear hc hg c0 c1 c2 c4;generalize (es.getD P Ent.zero).key=key at *
 have hPc:P≤c:=by omega
 have hPc':(P:Int)≤(c:Int):=by omega
 refine callsIn_of_wp_marks Tryz.func296 rfl trivial ?_ rfl
 simp only [Tryz.ntmps296,List.size_toArray,List.length_cons,List.length_nil,Nat.reduceAdd,Nat.reduceSub,Array.replicate_succ,Array.replicate_zero,List.push_toArray,List.append_toArray,List.nil_append,List.cons_append]
 gi_wp2_with fail;refine⟨trivial,by simp[Fence.wide],(fitting_any _ _ _ _ (some ⟨g,0,none⟩) P c rfl _).mono ?_⟩
 rintro e W ⟨rfl,rfl⟩;obtain⟨X1,hX1,hb1,hs1,c1,f1, -, -, -⟩:=box_more (Below.refl _ w) (.int .i64 key) 3
 rw[hX1];obtain⟨X2,hX2,hb2,hs2,c2,f2,k2,fr2, -⟩:=box_more hb1 (.int .i64 (-1)) 3
 rw[hX2];obtain⟨X5,hX5,hb5,hs5,c5,f5,k5,fr5, -⟩:=box_more hb2 (.slice (some ⟨g,0,none⟩) P c) 44
 rw[hX5];obtain⟨X,hX,hb,hs6,c6,f6,k6,fr6, -⟩:=box_more hb5 (.func (.func 298) #[] #[.pointer (some ⟨w.heap.size,0,none⟩)]) 132
 rw[hX];have HX2:X.heap[w.heap.size+1]?=some (.cells #[.int .i64 (-1)] 3):=by
  rw[← hX,Below.heap_alloc _ _ _ (by omega), ← hX5,Below.heap_alloc _ _ _ (by omega), ← hX2, ← hs1]
  exact hnw _ _
 clear hX hX1 hX2 hX5;rw[hs5,hs2,hs1] at c6
 rw[hs2,hs1] at c5
 rw[hs1] at c2
 have e1:=k6 _ _ (k5 _ _ (k2 _ _ c1))
 have e5:=k6 _ _ c5
 have hsz:X.heap.size=w.heap.size+4:=by omega
 have hX2s:X2.heap.size=w.heap.size+1+1:=by omega
 rw[hX2s];have hvX:Hid (LogB X (.slice (some ⟨g,0,none⟩) P c) (es.take P)):=hideA (.inr ⟨g,c,by rw[List.length_take,Nat.min_eq_left (by omega)],(Hv.out.keepS (KeepS.below hb)).take P⟩)
 clear k2 k5 k6 fr2 fr5 fr6 c1 c2 c5 f1 f2 f5 f6 hb1 hb2 hb5 hs1 hs2 hs5 hs6 hX2s;have hps:Hid (CellsOK ((⟨w.heap.size+1+1+1,0,none⟩,.func (.func 298) #[] #[.pointer (some ⟨w.heap.size,0,none⟩)]) :: [(⟨w.heap.size,0,none⟩,.int .i64 key)]) X):=hideA (by
  intro q hq;simp only [List.mem_cons,List.not_mem_nil,or_false] at hq
  rcases hq with rfl|rfl
  ·exact c6
  ·exact e1)
 gi_wp2_with fail;refine wpIn_rangeFunc_ownH rfl (by have:=hn.out;omega) (gf:=295) (lb:=#[.pointer (some ⟨w.heap.size+1+1,0,none⟩),.pointer (some ⟨w.heap.size+1+1+1,0,none⟩)]) rfl trivial (enters_of Tryz.func295 (by kernel_rfl) rfl)
  (fitting_stops (n-1) (w.heap.size+1+1) (w.heap.size+1+1+1) (.slice (some ⟨g,0,none⟩) P c) (es.take P) 298 #[.pointer (some ⟨w.heap.size,0,none⟩)] (isPut key) [(⟨w.heap.size,0,none⟩,.int .i64 key)] X (by rw[List.length_take];omega) (enters_of Tryz.func298 (by kernel_rfl) rfl)
   (fun W1 e h=>callsIn_wide.2 (answer1_any key w.heap.size e W1 (h _ List.mem_cons_self))) e5 hps.out hvX.out)
  KeepF.trans (fun W l o o' _ hl hc _=>keepF_put _ W l o o' hl hc) (Below.refl _ _) (fun _=>rfl)
  (fun pre W=>(Boxed W (w.heap.size+1) 3 (.int .i64 (accOf pre)))∧Below w.heap.size w W)
  (fun _ _ _=>False)
  (OwnFrom.and (Own.from (boxed_own (w.heap.size+1) 3 (fun pre=>.int .i64 (accOf pre))) _) (ownFrom_below (Nat.le_refl _) (by omega)))
  (fun c=>ownFrom_pure _ _)
  ⟨HX2,hb⟩
  (fun x a' W=>∃ b,W.cell? ⟨b,4,none⟩=some (.int .i64 x.2.value)∧a'={ tmps:=#[.slice (some ⟨g,0,none⟩) es.length c,.int .i64 (P:Int),undef,undef,.int .i64 0,.pointer (some ⟨w.heap.size,0,none⟩),.func (.func 298) #[] #[.pointer (some ⟨w.heap.size,0,none⟩)],
   .pointer (some ⟨w.heap.size+1,0,none⟩),undef,.pointer (some ⟨b,0,none⟩),.slice (some ⟨g,0,none⟩) es.length c,.int .i64 (P:Int),.pointer (some ⟨g,P*5,none⟩),.pointer (some ⟨g,P*5+3,none⟩),.int .i64 key,.func (.func 298) #[] #[.pointer (some ⟨w.heap.size,0,none⟩)],
   .slice (some ⟨g,0,none⟩) es.length c,.int .i64 (P:Int),.slice (some ⟨g,0,none⟩) P c,.func (.func 298) #[] #[.pointer (some ⟨w.heap.size,0,none⟩)],
   .func (.func 295) #[] #[.pointer (some ⟨w.heap.size+1+1,0,none⟩),.pointer (some ⟨w.heap.size+1+1+1,0,none⟩)],.int .i64 (x.1:Int),entV x.2,undef,undef,undef],defers:=[] })
  (fun x a'=>Own.from (fun s A B row hs hg hr=>by obtain⟨b,h1,h2⟩:=hs;exact⟨b,cell_kept h1 hg hr,h2⟩) _) ?assign ?body ?done ?stop
 case assign =>
  rintro l pre x W K ⟨hbx,hB⟩ hK;unfold entV
  gi_wp2
  refine hK _ _ ((KeepsOthers.alloc _ _).from _) (KeepF.below ((Below.refl _ _).alloc (Nat.le_refl _) _)) ⟨?_,hB.alloc hB.size _⟩ ⟨W.heap.size, ?_,rfl⟩
  ·exact (Below.heap_alloc _ _ _ (by have:=(Array.getElem?_eq_some_iff.1 (show W.heap[w.heap.size+1]?=_ from hbx)).1;omega)).trans hbx
  ·rw[coh (hnw _ _)];rfl
 case body =>
  rintro l pre x a' W hl2 - ⟨hbx,hB⟩ ⟨b,hcb,rfl⟩ _;have hbh:W.heap[w.heap.size+1]?=some (.cells #[.int .i64 (accOf pre)] 3):=hbx
  have hc7:W.cell? ⟨w.heap.size+1,0,none⟩=some (.int .i64 (accOf pre)):=coh hbh 0
  have hf7:W.frozen? ⟨w.heap.size+1,0,none⟩=false:=foh hbh 0
  have HB:=hideA hbh;clear hbh hbx;gi_wp2
  refine⟨(KeepsOthers.setCell _ _ _).from _,keepF_set _ HB.out (by decide) ?_, ?_,hB.setCell (p:=⟨w.heap.size+1,0,none⟩) (by simp) _⟩
  ·intro q hq
   simp only [List.mem_cons,List.not_mem_nil,or_false] at hq
   rcases hq with rfl|rfl
   ·show w.heap.size+1+1+1≠w.heap.size+1;omega
   ·show w.heap.size≠w.heap.size+1;omega
  ·show (W.setCell _ _).heap[w.heap.size+1]?=_
   rw[heap_setCell_same W _ 0 _ _ _ HB.out,show accOf (pre++[x])=x.2.value by simp[accOf]]
   rfl
 case done =>
  rintro D ys W hD rfl ⟨hbx,hB⟩ hK;have hbh:W.heap[w.heap.size+1]?=some (.cells #[.int .i64 (accOf (fitList (isPut key) (es.take P)))] 3):=hbx
  have hc7:W.cell? ⟨w.heap.size+1,0,none⟩=some (.int .i64 (accOf (fitList (isPut key) (es.take P)))):=coh hbh 0
  clear hbh hbx;gi_wp2
  refine⟨by simp,.inl ⟨_,_,rfl,run_takeDeferred hK, ?_⟩⟩
  refine⟨_, ?_,by rw[HA.out],hB.trans (belowK_b (w:=w) (Nat.le_refl _) W D _ _ (by omega) hK rfl rfl)⟩
  simp[results,Tryz.f296,go_sem]
 case stop =>
  rintro D c' pre W hD hpre hF hK;exact hF.elim
end Go.Proofs.YtgieeeeeiggoeaaGreat
namespace Go.Proofs.YtgieeeeeiggoeaaGreat
open Go.RowKit Go.Shelf
abbrev MsgV := Msg × Value × Value
def mcells (t:MsgV):List Value:=[.int .i64 t.1.kind,.int .i64 t.1.src,.int .i64 t.1.dst,.int .i64 t.1.epoch,.int .i64 t.1.ballot,.int .i64 t.1.vote,.int .i64 t.1.pos,.int .i64 t.1.value,t.2.1,t.2.2]
def ListsOwn (w:World)(ws:List MsgV):Prop:=∀ t∈ws,IntOwn w t.2.1 t.1.mems∧LogOwn w t.2.2 t.1.log
def MsgsOwn (w:World)(base:Nat)(v:Value)(ms:List Msg):Prop :=
 ∃ ws:List MsgV,ws.map Prod.fst=ms∧w.ownsRow base 134 10 v ms.length (ws.flatMap mcells)∧ListsOwn w ws
theorem MsgsOwn.nil (w:World)(base:Nat):MsgsOwn w base (.slice none 0 0) []:=⟨[],rfl,World.ownsRow_nil _ _ _ _,fun t h=>by cases h⟩
theorem ListsOwn.below {w w':World}{ws:List MsgV}(h:ListsOwn w ws)(hb:Below w.heap.size w w'):ListsOwn w' ws :=
 fun t ht=>⟨okp (h t ht).1 fun k _ hk=>hb.block k hk,okp (h t ht).2 fun k _ hk=>hb.block k hk⟩
theorem MsgsOwn.below {w w':World}{base:Nat}{v:Value}{ms:List Msg}(h:MsgsOwn w base v ms)(hb:Below w.heap.size w w'):MsgsOwn w' base v ms:=by
 obtain⟨ws,h1,h2,h3⟩:=h;exact⟨ws,h1,okp h2 fun k _ hk=>hb.block k hk,h3.below hb⟩
theorem MsgsOwn.one {w:World}{base g:Nat}(m:Msg)(vm vl:Value)(hg:w.heap[g]?=some (.cells (mcells (m,vm,vl)).toArray 134))(hb:base≤g)(h1:IntOwn w vm m.mems)(h2:LogOwn w vl m.log):MsgsOwn w base (.slice (some ⟨g,0,none⟩) 1 1) [m]:=by
 refine⟨[(m,vm,vl)],rfl,⟨rfl,.inr ⟨g,1,_,rfl,hb,hg,Nat.le_refl _,by unfold maxLen;omega,rfl,rfl⟩⟩, ?_⟩
 intro t ht;simp only [List.mem_cons,List.not_mem_nil,or_false] at ht
 subst ht;exact⟨h1,h2⟩
theorem IntOwn.nil (w:World):IntOwn w (.slice none 0 0) []:=World.ownsRow_nil _ _ _ _
theorem LogOwn.nil (w:World):LogOwn w (.slice none 0 0) []:=World.ownsRow_nil _ _ _ _
theorem ackAhead_any (b:Nat)(own:Int)(r:Rep)(vm vl:Value)(w:World)(h:RepAt w b own r vm vl)(ok:RepOK r) :
  Calls Tryz.prog 271 #[.pointer (some ⟨b,0,none⟩)] w fun e w'=>∃ v,e=.returned v∧MsgsOwn w' w.heap.size v (r.acks own)∧Below w.heap.size w w':=by
 have hb:=ahead_any b own r vm vl w h ok
 have HB:=hideA h.blk
 have HA:Hid (r.acks own=match prevOf r.mems own with
  | none=>[]
  | some a=>[{ kind:=3,src:=own,dst:=a,epoch:=r.epoch,pos:=r.commit }]):=hideA rfl
 clear h ok;cases hp:prevOf r.mems own with
 | none =>
  rw[hp] at hb HA
  go_enter Tryz.func271,Tryz.ntmps271
  go_wp2_with fail;refine hb.mono ?_
  rintro e w1 ⟨rfl,hb1⟩;go_wp2_with fail;go_ret;exact⟨_,rfl,by rw[HA.out];exact MsgsOwn.nil _ _,hb1⟩
 | some a =>
  rw[hp] at hb HA
  go_enter Tryz.func271,Tryz.ntmps271
  go_wp2_with fail;refine hb.mono ?_
  rintro e w1 ⟨rfl,hb1⟩;have c0:w1.cell? ⟨b,0,none⟩=some (.int .i64 own):=cell_later hb1 (coh HB.out 0)
  have c1:w1.cell? ⟨b,1,none⟩=some (.int .i64 r.epoch):=cell_later hb1 (coh HB.out 1)
  have c6:w1.cell? ⟨b,6,none⟩=some (.int .i64 (r.commit:Int)):=cell_later hb1 (coh HB.out 6)
  clear hb;go_upto_region 4 with fail
  go_region_held3 (fun w'=>w'.cell? ⟨b,0,none⟩=some (.int .i64 own)∧w'.cell? ⟨b,1,none⟩=some (.int .i64 r.epoch)∧w'.cell? ⟨b,6,none⟩=some (.int .i64 (r.commit:Int))) (first|(simp[go_sem];done)|(simp[go_sem, *];done)|go_keep) (fail)
  all_goals
   go_wp2_with fail;go_ret;exact⟨_,rfl,by rw[HA.out];exact MsgsOwn.one _ _ _ (hnw _ _) hb1.size (IntOwn.nil _) (LogOwn.nil _),(hb1.alloc hb1.size _).drew⟩
theorem heap_new2 (w:World)(o o2:Obj):((w.alloc o).alloc o2).heap[w.heap.size+1]?=some o2:=by
 have:=hnw (w.alloc o) o2
 rwa [World.size_alloc] at this
theorem ent_row {w:World}{g:Nat}(e:Ent)(hg:w.heap[g]?=some (.cells #[.int .i64 e.client,.int .i64 e.seq,.int .i64 e.kind,.int .i64 e.key,.int .i64 e.value] 42)):LogOwn w (.slice (some ⟨g,0,none⟩) 1 1) [e] :=
 ⟨rfl,.inr ⟨g,1,_,rfl,Nat.zero_le _,hg,Nat.le_refl _,by unfold maxLen;omega,rfl,rfl⟩⟩
theorem forward_any (b:Nat)(own:Int)(r:Rep)(vm vl:Value)(nx:Int)(P:Nat)(w:World)(h:RepAt w b own r vm vl)(ok:RepOK r)(hP:P<r.log.length) :
  Calls Tryz.prog 273 #[.pointer (some ⟨b,0,none⟩),.int .i64 nx,.int .i64 (P:Int)] w fun e w'=>∃ vl',e=.returned (mval (r.forward own nx P) (.slice none 0 0) vl')∧LogOwn w' vl' (r.forward own nx P).log∧Below w.heap.size w w':=by
 obtain⟨al,cl,rfl⟩:=osh h.hl
 have hlog:=LogAt.of_owns h.hl
 have HB:=hideA h.blk
 have c0:∀ o,(w.alloc o).cell? ⟨b,0,none⟩=some (.int .i64 own):=fun o=>cell_later ((Below.refl _ w).alloc (Nat.le_refl _) o) (coh h.blk 0)
 have c1:∀ o,(w.alloc o).cell? ⟨b,1,none⟩=some (.int .i64 r.epoch):=fun o=>cell_later ((Below.refl _ w).alloc (Nat.le_refl _) o) (coh h.blk 1)
 have c4:∀ o,(w.alloc o).cell? ⟨b,4,none⟩=some (.slice al r.log.length cl):=fun o=>cell_later ((Below.refl _ w).alloc (Nat.le_refl _) o) (coh h.blk 4)
 obtain⟨a',c',e',hc⟩:=hlog;cases e'
 obtain⟨g,off,rfl,e0,e1,e2,e3,e4⟩:=hc P hP
 have d0:=fun o=>cell_later ((Below.refl _ w).alloc (Nat.le_refl _) o) e0
 have d1:=fun o=>cell_later ((Below.refl _ w).alloc (Nat.le_refl _) o) e1
 have d2:=fun o=>cell_later ((Below.refl _ w).alloc (Nat.le_refl _) o) e2
 have d3:=fun o=>cell_later ((Below.refl _ w).alloc (Nat.le_refl _) o) e3
 have d4:=fun o=>cell_later ((Below.refl _ w).alloc (Nat.le_refl _) o) e4
 have hb2:∀ o o2,Below w.heap.size w ((w.alloc o).alloc o2):=fun o o2=>((Below.refl _ w).alloc (Nat.le_refl _) o).alloc (by simp) o2
 have f0:∀ o o2,((w.alloc o).alloc o2).cell? ⟨b,0,none⟩=some (.int .i64 own):=fun o o2=>cell_later (hb2 o o2) (coh HB.out 0)
 have f1:∀ o o2,((w.alloc o).alloc o2).cell? ⟨b,1,none⟩=some (.int .i64 r.epoch):=fun o o2=>cell_later (hb2 o o2) (coh HB.out 1)
 have f4:∀ o o2,((w.alloc o).alloc o2).cell? ⟨b,4,none⟩=some (.slice (some ⟨g,off,none⟩) r.log.length cl):=fun o o2=>cell_later (hb2 o o2) (coh HB.out 4)
 have g0:=fun o o2=>cell_later (hb2 o o2) e0
 have g1:=fun o o2=>cell_later (hb2 o o2) e1
 have g2:=fun o o2=>cell_later (hb2 o o2) e2
 have g3:=fun o o2=>cell_later (hb2 o o2) e3
 have g4:=fun o o2=>cell_later (hb2 o o2) e4
 have HF:Hid (r.forward own nx P={ kind:=2,src:=own,dst:=nx,epoch:=r.epoch,pos:=P,log:=[r.log.getD P Ent.zero] }):=hideA rfl
 have hl24:=ok.l
 have hbl:b<w.heap.size:=(Array.getElem?_eq_some_iff.1 HB.out).1
 clear h ok hc e0 e1 e2 e3 e4;rw[HF.out];generalize r.log.getD P Ent.zero=x at *
 go_enter Tryz.func273,Tryz.ntmps273
 go_wp2_with fail;go_region_held3 (fun w'=>w'.cell? ⟨b,0,none⟩=some (.int .i64 own)∧w'.cell? ⟨b,1,none⟩=some (.int .i64 r.epoch)∧w'.cell? ⟨b,4,none⟩=some (.slice (some ⟨g,off,none⟩) r.log.length cl)∧w'.cell? ⟨g,off+P*5,none⟩=some (.int .i64 x.client)∧w'.cell? ⟨g,off+P*5+1,none⟩=some (.int .i64 x.seq)∧w'.cell? ⟨g,off+P*5+2,none⟩=some (.int .i64 x.kind)∧w'.cell? ⟨g,off+P*5+3,none⟩=some (.int .i64 x.key)∧w'.cell? ⟨g,off+P*5+4,none⟩=some (.int .i64 x.value)) (first|(simp[go_sem];done)|(simp[go_sem, *];done)|go_keep) (fail)
 all_goals
  go_wp2_with fail;refine bodyPost_ret (v:=mval { kind:=2,src:=own,dst:=nx,epoch:=r.epoch,pos:=P,log:=[x] } (.slice none 0 0) (.slice (some ⟨w.heap.size+1,0,none⟩) 1 1)) (by simp[results,Tryz.results273,go_sem,mval]) rfl ?_
  exact⟨_,rfl,ent_row x (heap_new2 _ _ _),(hb2 _ _).drew⟩
theorem infoMsg : (Tryz.prog.info? 134).map (fun i=>(i.zero,i.size,i.bytes))=some (some (.agg #[.int .i64 0,.int .i64 0,.int .i64 0,.int .i64 0,.int .i64 0,.int .i64 0,.int .i64 0,.int .i64 0,.slice none 0 0,.slice none 0 0]),10,112):=by kernel_rfl
theorem mcells_one (t:MsgV)(h1:∃ a n c,t.2.1=.slice a n c)(h2:∃ a n c,t.2.2=.slice a n c):∀ u∈mcells t,u.oneCell'=true:=by
 obtain⟨m,vm,vl⟩:=t;obtain⟨a,n,c,rfl⟩:=h1;obtain⟨a',n',c',rfl⟩:=h2;intro u hu;simp only [mcells,List.mem_cons,List.not_mem_nil,or_false] at hu
 rcases hu with rfl|rfl|rfl|rfl|rfl|rfl|rfl|rfl|rfl|rfl<;>rfl
theorem flat_len (ws:List MsgV):(ws.flatMap mcells).length=ws.length*10:=by
 induction ws with
 | nil=>rfl
 | cons t l ih=>rw[List.flatMap_cons,List.length_append,ih,List.length_cons,show (mcells t).length=10 from rfl];omega
theorem append_msg (W:World)(base:Nat)(v:Value)(n:Nat)(ws:List MsgV)(t:MsgV)(g:Nat)(hown:W.ownsRow base 134 10 v n (ws.flatMap mcells))(hg:W.heap[g]?=some (.cells (mcells t).toArray 134))
  (hl:n≤100000) (hb:base≤W.heap.size) (h1:∃ a n c,t.2.1=.slice a n c) (h2:∃ a n c,t.2.2=.slice a n c) :
  ∃ g' cap W',(∀ ty,(Builtin.append_ #[97,97] ty #[v,.slice (some ⟨g,0,none⟩) 1 1]).run Tryz.prog W=.ok (.slice (some ⟨g',0,none⟩) (n+1) cap) W') ∧
   W'.ownsRow base 134 10 (.slice (some ⟨g',0,none⟩) (n+1) cap) (n+1) ((ws++[t]).flatMap mcells)∧W.grownBy W' v.ownBlock:=by
 obtain⟨i0,hi,hz0,hz1,hz2⟩:=info_parts infoMsg
 have hA:∀ ty,∃ g' cap W',(Builtin.append_ #[97,97] ty #[v,.slice (some ⟨g,0,none⟩) 1 1]).run Tryz.prog W=.ok (.slice (some ⟨g',0,none⟩) (n+1) cap) W' ∧
   W'.ownsRow base 134 10 (.slice (some ⟨g',0,none⟩) (n+1) cap) (n+1) ((ws++[t]).flatMap mcells)∧W.grownBy W' v.ownBlock:=fun ty=>by
  obtain⟨g',cap,W',hr,h2,h3, -, -⟩:=run_append_lies (P:=Tryz.prog) W 97 ty base 134 i0 _ 10 112 Tryz.underlying97 hi hz0 hz1 hz2 rfl (by decide) v n (ws.flatMap mcells) hown ⟨g,0,none⟩ 1 1 (mcells t) rfl
   (fun j u hj=>World.news_of_block hg j u (by simpa using hj)) (mcells_one t h1 h2) (by omega) (by unfold maxLen;omega) (by omega) hb _ rfl
  exact⟨g',cap,W',hr,by rw[List.flatMap_append];simpa using h2,h3⟩
 obtain⟨g',cap,W',hr,h2,h3⟩:=hA 0
 refine⟨g',cap,W',fun ty => ?_,h2,h3⟩
 rw[← hr];rfl
theorem oia {l n:Nat}{ops:Array Oper}{o:Oper}{a:Act}{W:World}{K:Act→World→Prop}{Q:Exit→Act→World→Prop}{E:Prop}(hg:o.guard=none)(s x:Operand)(t:TypeId)
  (hop:o.op=Op.call { callee:=Callee.builtin Builtin.append,args:=#[s,x],argTypes:=#[t,t] }) (v u v':Value) (W':World) (hs:a.eval s=v) (hx:a.eval x=u)
  (hrun:∀ ty,(Builtin.append_ #[t,t] ty #[v,u]).run Tryz.prog W=.ok v' W') (h:K (a.put o.dst v') W') :
  if Region.wanted o (yielded ops a.tmps)=true then Oper.wpIn (Fence.wide.inRound l) n Tryz.prog o a W K Q else E:=by
 have hw:Region.wanted o (yielded ops a.tmps)=true:=by simp[Region.wanted,hg]
 rw[if_pos hw];unfold Oper.wpIn
 refine⟨?_, ?_⟩
 ·simp[Oper.about,hop,resolve,Target.leads,Sem.run_pure]
 ·rw[Oper.semAt_plain _ _ _ (by rw[hop];intro c hc';cases hc')]
  simp[execOp,hop,resolve,invoke,builtin,hs,hx,hrun,Result.andThen]
  exact h
theorem op_append {ops:Array Oper}{o:Oper}{a:Act}{W:World}{K:Act→World→Prop}{Q:Exit→Act→World→Prop}{E:Prop}(hg:o.guard=none)(s x:Operand)(t:TypeId)
  (hop:o.op=Op.call { callee:=Callee.builtin Builtin.append,args:=#[s,x],argTypes:=#[t,t] }) (v u v':Value) (W':World) (hs:a.eval s=v) (hx:a.eval x=u)
  (hrun:∀ ty,(Builtin.append_ #[t,t] ty #[v,u]).run Tryz.prog W=.ok v' W') (h:K (a.put o.dst v') W') :
  if Region.wanted o (yielded ops a.tmps)=true then Oper.wp Tryz.prog o a W K Q else E:=by
 have hw:Region.wanted o (yielded ops a.tmps)=true:=by simp[Region.wanted,hg]
 rw[if_pos hw];unfold Oper.wp execOp
 simp only [hop,resolve,invoke,builtin,Sem.run_bind,Sem.run_pure,Result.andThen_ok,List.map_toArray,List.map_cons,List.map_nil,hs,hx,hrun]
 exact h
theorem flat_one (ws:List MsgV)(h:∀ t∈ws,(∃ a n c,t.2.1=.slice a n c)∧∃ a n c,t.2.2=.slice a n c):∀ u∈ws.flatMap mcells,u.oneCell'=true:=by
 intro u hu;rw[List.mem_flatMap] at hu
 obtain⟨t,ht,hu⟩:=hu;exact mcells_one t (h t ht).1 (h t ht).2 u hu
theorem append_msgs (W:World)(base base2:Nat)(v v2:Value)(n n2:Nat)(ws ws2:List MsgV)(hown:W.ownsRow base 134 10 v n (ws.flatMap mcells))(hown2:W.ownsRow base2 134 10 v2 n2 (ws2.flatMap mcells))(hls:ListsOwn W ws2)
  (hl:n+n2≤100000) (hb:base≤W.heap.size) :
  ∃ v3 W3,(∀ ty,(Builtin.append_ #[97,97] ty #[v,v2]).run Tryz.prog W=.ok v3 W3)∧W3.ownsRow base 134 10 v3 (n+n2) ((ws++ws2).flatMap mcells)∧W.grownBy W3 v.ownBlock∧∃ a c,v3=.slice a (n+n2) c:=by
 obtain⟨i0,hi,hz0,hz1,hz2⟩:=info_parts infoMsg
 by_cases h0:n2=0
 ·subst h0
  obtain rfl:ws2=[]:=by
   have:=hown2.1
   rw[flat_len] at this
   exact List.eq_nil_of_length_eq_zero (by omega)
  obtain⟨a,c,rfl,hle⟩:=own_cap hown
  obtain⟨a2,c2,rfl⟩:=osh hown2
  refine⟨.slice a n c,W,fun ty => ?_,by simpa using hown,⟨rfl,rfl,rfl,Nat.le_refl _,fun _ _ _=>rfl⟩,a,c,by simp⟩
  refine run_append_nothing W 97 97 ty 134 i0 Tryz.underlying97 hi a n c hle _ ?_
  cases a2 with
  | none=>exact Src.ofNil W Tryz.underlying97 c2
  | some ad=>exact Src.ofSlice W Tryz.underlying97 ad 0 c2 [] (by simp) (fun j u hj=>by simp at hj) (fun u hu=>by cases hu)
 ·obtain⟨g2,cap2,hv2, -, -⟩:=hown2.form (by omega)
  subst hv2;have hA:∀ ty,∃ g' cap W',(Builtin.append_ #[97,97] ty #[v,.slice (some ⟨g2,0,none⟩) n2 cap2]).run Tryz.prog W=.ok (.slice (some ⟨g',0,none⟩) (n+n2) cap) W' ∧
    W'.ownsRow base 134 10 (.slice (some ⟨g',0,none⟩) (n+n2) cap) (n+n2) ((ws++ws2).flatMap mcells)∧W.grownBy W' v.ownBlock:=fun ty=>by
   obtain⟨g',cap,W',hr,h2,h3, -, -⟩:=run_append_lies (P:=Tryz.prog) W 97 ty base 134 i0 _ 10 112 Tryz.underlying97 hi hz0 hz1 hz2 rfl (by decide) v n (ws.flatMap mcells) hown ⟨g2,0,none⟩ n2 cap2 (ws2.flatMap mcells) hown2.1
    (fun j u hj=>hown2.cells rfl j u hj) (flat_one ws2 (fun t ht=>by
     obtain⟨a,c,h1⟩:=osh (hls t ht).1
     obtain⟨a',c',h2⟩:=osh (hls t ht).2
     exact⟨⟨_,_,_,h1⟩,⟨_,_,_,h2⟩⟩)) (by omega) (by unfold maxLen;omega) (by omega) hb _ rfl
   exact⟨g',cap,W',hr,by rw[List.flatMap_append];exact h2,h3⟩
  obtain⟨g',cap,W',hr,h2,h3⟩:=hA 0
  refine⟨_,W',fun ty => ?_,h2,h3,_,_,rfl⟩
  rw[← hr];rfl
theorem rdy1 {F:Fence}{n:Nat}{P:Program}{md:Region.Mode}{ops:Array Oper}{Q:Exit→Act→World→Prop}{fuel:Nat}{listed:Array Bool}{a:Act}{w:World}(i:Nat){o:Oper}(hr:Region.ready md ops listed=[i])(ho:ops[i]?=some o)
  (h:∀ K':Act→World→Prop,(∀ a w,wpAnyIn F n P md ops Q fuel (listed.setIfInBounds i true) a w→K' a w)→if Region.wanted o (yielded ops a.tmps)=true then Oper.wpIn F n P o a w K' Q else (∀ f,o.about P w a.eval=some f→F.fn f)∧K' (a.put o.dst undef) w):wpAnyIn F n P md ops Q (fuel+1) listed a w :=
 wpAnyIn_ready (rs:=[i]) hr (by simp) (.cons (i:=i) ho h .nil)
attribute [local go_sem] Oper.semAt_some
def fromList (n p:Nat):List (Fin n):=(List.finRange n).drop p
def fromTo (n p k:Nat):List (Fin n):=(fromList n p).take k
theorem fromList_length (n p:Nat):(fromList n p).length=n-p:=by simp[fromList]
theorem fromTo_succ (n p k:Nat)(h:p+k<n):fromTo n p (k+1)=fromTo n p k++[⟨p+k,h⟩]:=by
 unfold fromTo
 rw[List.take_succ_eq_append_getElem (by rw[fromList_length];omega)]
 congr 2
 simp[fromList]
theorem fromTo_prefix (n p k:Nat):fromTo n p k <+: fromList n p:=List.take_prefix _ _
theorem fromTo_length (n p k:Nat)(h:p+k≤n):(fromTo n p k).length=k:=by unfold fromTo;rw[List.length_take,fromList_length];omega
def placeV (es:List Ent)(y:Fin es.length):Array Value:=#[.int .i64 (y.val:Int),entV (es.getD y.val Ent.zero)]
theorem from1_in (n l B0 B1:Nat)(v:Value)(es:List Ent)(p:Nat)(hl:es.length≤1000)(hp:p≤es.length)
  (J Jx:List (Fin es.length)→World→Prop) (W:World)
  (hY:∀ pre (y:Fin es.length) W1,J pre W1→pre.length<(fromList es.length p).length→YieldAt Fence.wide (n-1) Tryz.prog l (placeV es y) W1 fun e W' =>
   (e=.returned (.bool true)∧J (pre++[y]) W'∧KeepF [(⟨B1,0,none⟩,v)] W1 W')∨(e=.returned (.bool false)∧Jx (pre++[y]) W'))
  (h0:W.cell? ⟨B0,0,none⟩=some (.int .i64 (p:Int))) (hps:CellsOK [(⟨B1,0,none⟩,v)] W) (hv:LogB W v es) (hJ0:J [] W) :
  CallsIn Fence.wide n Tryz.prog 281 #[.func (.yield l) #[] #[],.pointer (some ⟨B0,0,none⟩),.pointer (some ⟨B1,0,none⟩)] W fun e W'=>(∃ v,e=.returned v) ∧
   ((∃ ys,ys=fromList es.length p∧J ys W')∨(∃ pre,pre <+: fromList es.length p∧Jx pre W')):=by
 obtain⟨a,c,rfl⟩:=hv.shape;have HV:=hideA hv;have HP:=hideA hps;have HY:=hideA hY;clear hv hY hps;have Hl:Hid ((fromList es.length p).length=es.length-p):=hideA (fromList_length _ _)
 refine callsIn_of_wp Tryz.func281 rfl trivial ?_ rfl
 simp only [Tryz.ntmps281,List.size_toArray,List.length_cons,List.length_nil,Nat.reduceAdd,Nat.reduceSub,Array.replicate_succ,Array.replicate_zero,List.push_toArray,List.append_toArray,List.nil_append,List.cons_append]
 gi_wp2_with fail;gi_loopw [4] (fun i wr=>∃ k:Nat,k≤es.length-p∧i=.int .i64 ((p:Int)+k)∧J (fromTo es.length p k) wr∧Hid (LogB wr (.slice a es.length c) es)∧Hid (CellsOK [(⟨B1,0,none⟩,.slice a es.length c)] wr)) (fun i _=>es.length-(intOf i).toNat)
 case atStart=>exact⟨0,Nat.zero_le _,by simp,hJ0,HV,HP⟩
 case round =>
  obtain⟨k,hk,rfl,hJk,hR,hP⟩:=hrel;have hB1:wr.cell? ⟨B1,0,none⟩=some (.slice a es.length c):=hP.out _ List.mem_cons_self
  by_cases hlt:p+k<es.length
  ·have hR1:=hR.out
   rcases hR1 with ⟨h0, -⟩|⟨g,c',e',hrow⟩
   ·rw[h0] at hlt;simp at hlt
   cases e'
   obtain⟨cur,fz,hg,hc⟩:=hrow;obtain⟨c0,c1,c2,c3,c4⟩:=hc (p+k) hlt
   have ht:Hid (fromTo es.length p (k+1)=fromTo es.length p k++[⟨p+k,hlt⟩]):=hideA (fromTo_succ es.length p k hlt)
   have Hpre:=hideA (fromTo_prefix es.length p (k+1))
   obtain⟨fn,tmps,assign,body,hy,hRd⟩:=HY.out (fromTo es.length p k) ⟨p+k,hlt⟩ _ hJk (by rw[fromTo_length _ _ _ (by omega),Hl.out];omega)
   dsimp only [placeV,entV] at hy
   have hcast:((p+k:Nat):Int)=(p:Int)+(k:Int):=by omega
   rw[hcast] at hy
   have hk1:(p:Int)+(k:Int)<(es.length:Int):=by omega
   have hk0:(0:Int)≤(p:Int)+(k:Int):=by omega
   have hkn:((p:Int)+(k:Int)).toNat=p+k:=by omega
   clear hc hg;generalize es.getD (p+k) Ent.zero=x at c0 c1 c2 c3 c4 hy
   gi_wp2
   refine⟨by simp[Fence.wide],hRd.mono ?_⟩
   rintro e W3 (⟨rfl,hJ3,hk3⟩|⟨rfl,hJx3⟩)
   ·gi_wp2
    go_roundw
    case rel=>exact⟨k+1,by omega,by go_num,by rw[ht.out];exact hJ3,hideA (hR.out.keepS hk3.1),hideA (hk3.2 hP.out)⟩
    case measure=>simp[intOf];omega
   ·gi_wp2
    refine bodyPost_ret (results_none rfl _ _ _) rfl ?_
    exact⟨⟨_,rfl⟩,.inr ⟨_,by rw[← ht.out];exact Hpre.out,hJx3⟩⟩
  ·obtain rfl:k=es.length-p:=by omega
   have hk1:¬ (p:Int)+((es.length-p:Nat):Int)<(es.length:Int):=by omega
   gi_wp2
   go_end0
   exact⟨⟨_,rfl⟩,.inl (by rw[show fromTo es.length p (es.length-p)=fromList es.length p from List.take_of_length_le (by rw[fromList_length];exact Nat.le_refl _)] at hJk;exact hJk)⟩
theorem from_stops (n B0 B1:Nat)(v:Value)(es:List Ent)(p:Nat)(w:World)(hl:es.length≤1000)(hp:p≤es.length)
  (h0:w.cell? ⟨B0,0,none⟩=some (.int .i64 (p:Int))) (hps:CellsOK [(⟨B1,0,none⟩,v)] w) (hv:LogB w v es) :
  SeqStopsK Fence.wide n Tryz.prog 281 #[.pointer (some ⟨B0,0,none⟩),.pointer (some ⟨B1,0,none⟩)] (placeV es) (KeepF [(⟨B1,0,none⟩,v)]) (fun ys=>ys=fromList es.length p) (fun pre=>pre <+: fromList es.length p) (fromList es.length p).length w :=
 fun l J Jx W hW _ _ hY hJ0=>from1_in n l B0 B1 v es p hl hp J Jx W hY (cell_later hW h0) (hps.below hW) (hv.below hW) hJ0
theorem from_any (m:Nat)(v:Value)(p:Int)(a:Option Addr)(n c:Nat)(hv:v=.slice a n c)(W:World) :
  CallsIn Fence.wide m Tryz.prog 272 #[v,.int .i64 p] W fun r W'=>r=.returned (.func (.func 281) #[] #[.pointer (some ⟨W.heap.size+1,0,none⟩),.pointer (some ⟨W.heap.size,0,none⟩)])∧W'=(W.alloc (.cells #[v] 44)).alloc (.cells #[.int .i64 p] 3):=by
 subst hv;refine callsIn_wide.2 ?_
 go_enter Tryz.func272,Tryz.ntmps272
 go_wp2
 go_ret;exact⟨rfl,rfl⟩
end Go.Proofs.YtgieeeeeiggoeaaGreat
