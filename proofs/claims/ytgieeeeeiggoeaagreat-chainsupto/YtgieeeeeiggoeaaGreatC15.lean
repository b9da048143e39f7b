import Derived.Test.YtgieeeeeiggoeaaGreatC14
import Derived.Deep.RegionHeld3
import Derived.BigRegion
import Derived.BigQuiet
import Derived.Test.YtgieeeeeiggoeaaGreatC02
set_option maxRecDepth 100000
set_option maxHeartbeats 4000000
namespace Go.Proofs.YtgieeeeeiggoeaaGreat
open Go.RowKit Go.Shelf
def IntOwn (w:World)(v:Value)(l:List Int):Prop:=w.ownsRow 0 3 1 v l.length (ints l)
def LogOwn (w:World)(v:Value)(es:List Ent):Prop:=w.ownsRow 0 42 5 v es.length (ints (entsNums es))
structure RepAt (w:World)(b:Nat)(own:Int)(r:Rep)(vm vl:Value):Prop where
 blk:w.heap[b]?=some (.cells #[.int .i64 own,.int .i64 r.epoch,.int .i64 r.lock,vm,vl,.int .i64 (r.base:Int),.int .i64 (r.commit:Int)] 219)
 hm:IntOwn w vm r.mems
 hl:LogOwn w vl r.log
structure RepOK (r:Rep):Prop where
 m:r.mems.length≤5
 l:r.log.length≤24
 c:r.commit≤r.log.length
theorem RepAt.below {w w':World}{b:Nat}{own:Int}{r:Rep}{vm vl:Value}(h:RepAt w b own r vm vl)(hb:Below w.heap.size w w'):RepAt w' b own r vm vl :=
 ⟨(hb.block b (Array.getElem?_eq_some_iff.1 h.blk).1).trans h.blk,okp h.hm fun k _ hk=>hb.block k hk,okp h.hl fun k _ hk=>hb.block k hk⟩
theorem own_cap {w:World}{base size n:Nat}{e:TypeId}{v:Value}{xs:List Value}(h:w.ownsRow base e size v n xs):∃ a c,v=.slice a n c∧n≤c:=by
 rcases h.2 with ⟨rfl,rfl⟩|⟨g,cap,cur,rfl,_,_,hn,_⟩
 ·exact⟨_,_,rfl,Nat.le_refl _⟩
 ·exact⟨_,_,rfl,hn⟩
theorem isLive_any (b:Nat)(own:Int)(r:Rep)(vm vl:Value)(w:World)(h:RepAt w b own r vm vl)(ok:RepOK r) :
  Calls Tryz.prog 263 #[.pointer (some ⟨b,0,none⟩)] w fun e w'=>e=.returned (.bool (r.live own))∧∃ q,w'=w.drewN q:=by
 have c0:=coh h.blk 0
 have c1:=coh h.blk 1
 have c2:=coh h.blk 2
 have c3:=coh h.blk 3
 have HC:Hid (∀ W,Below w.heap.size w W→Calls Tryz.prog 121 #[vm,.int .i64 own] W fun e w'=>e=.returned (.bool (decide (own∈r.mems)))∧w'=W):=hideA fun W hb=>contains_ints vm r.mems own W ((IntsAt.of_owns h.hm).below hb) (by have:=ok.m;omega)
 obtain⟨am,cm,rfl⟩:=osh h.hm
 have HL:Hid (r.live own=(decide (own∈r.mems) && decide (r.lock≤r.epoch))):=hideA rfl
 clear h ok;generalize decide (own∈r.mems)=inn at *
 generalize r.live own=lv at *
 go_enter Tryz.func263,Tryz.ntmps263
 go_wp2_with fail;cases inn with
 | false =>
  have:lv=false:=by rw[HL.out];rfl
  subst this;go_quiet ((go_at_call 121;refine (HC.out _ (below_drewN (Below.refl _ _) _)).mono ?_;rintro e w9 ⟨rfl,rfl⟩;exact⟨rfl,_,rfl⟩))
  go_wp2
  go_ret;exact⟨rfl,_,rfl⟩
 | true =>
  have:lv=decide (r.lock≤r.epoch):=by rw[HL.out];rfl
  subst this;go_quiet ((go_at_call 121;refine (HC.out _ (below_drewN (Below.refl _ _) _)).mono ?_;rintro e w9 ⟨rfl,rfl⟩;exact⟨rfl,_,rfl⟩))
  go_wp2
  go_ret;exact⟨rfl,_,rfl⟩
theorem behind_any (b:Nat)(own:Int)(r:Rep)(vm vl:Value)(w:World)(h:RepAt w b own r vm vl)(ok:RepOK r) :
  Calls Tryz.prog 270 #[.pointer (some ⟨b,0,none⟩)] w fun e w'=>e=.returned (.tuple #[.int .i64 ((nextOf r.mems own).getD 0),.bool (nextOf r.mems own).isSome])∧Below w.heap.size w w':=by
 have c0:=coh h.blk 0
 have c3:=coh h.blk 3
 obtain⟨am,cm,rfl,hcap⟩:=own_cap h.hm
 have HC:Hid (∀ W,Below w.heap.size w W→Calls Tryz.prog 280 #[.slice am r.mems.length cm,.int .i64 own] W fun e w'=>e=.returned (.tuple #[.int .i64 ((nextOf r.mems own).getD 0),.bool (nextOf r.mems own).isSome])∧Below w.heap.size w w'∧w'.cell? ⟨b,0,none⟩=some (.int .i64 own)∧w'.cell? ⟨b,3,none⟩=some (.slice am r.mems.length cm)):=hideA fun W hb=>(next_any am cm r.mems own W (by have:=ok.m;omega) hcap ((IntsAt.of_owns h.hm).below hb)).mono (by
  rintro e w' ⟨rfl,hb'⟩;have hbb:=hb.trans (hb'.mono hb.size)
  exact⟨rfl,hbb,cell_later hbb c0,cell_later hbb c3⟩)
 clear h ok;generalize (nextOf r.mems own).getD 0=x at *
 generalize (nextOf r.mems own).isSome=y at *
 go_enter Tryz.func270,Tryz.ntmps270
 go_wp2_with fail;go_region_held3 (fun w'=>w'.cell? ⟨b,0,none⟩=some (.int .i64 own)∧w'.cell? ⟨b,3,none⟩=some (.slice am r.mems.length cm)) (first|(simp[go_sem];done)|(simp[go_sem, *];done)|go_keep) (first|(go_at_call 280;refine (HC.out _ (by first|exact Below.refl _ _|exact (Below.refl _ _).drew)).mono ?_;rintro e w9 ⟨rfl,hb9,g0,g3⟩))
 all_goals
  go_wp2_with fail;go_ret2
  exact⟨rfl,hb9⟩
theorem ahead_any (b:Nat)(own:Int)(r:Rep)(vm vl:Value)(w:World)(h:RepAt w b own r vm vl)(ok:RepOK r) :
  Calls Tryz.prog 275 #[.pointer (some ⟨b,0,none⟩)] w fun e w'=>e=.returned (.tuple #[.int .i64 ((prevOf r.mems own).getD 0),.bool (prevOf r.mems own).isSome])∧Below w.heap.size w w':=by
 have c0:=coh h.blk 0
 have c3:=coh h.blk 3
 obtain⟨am,cm,rfl, -⟩:=own_cap h.hm
 have HC:Hid (∀ W,Below w.heap.size w W→Calls Tryz.prog 285 #[.slice am r.mems.length cm,.int .i64 own] W fun e w'=>e=.returned (.tuple #[.int .i64 ((prevOf r.mems own).getD 0),.bool (prevOf r.mems own).isSome])∧Below w.heap.size w w'∧w'.cell? ⟨b,0,none⟩=some (.int .i64 own)∧w'.cell? ⟨b,3,none⟩=some (.slice am r.mems.length cm)):=hideA fun W hb=>(previous_any am cm r.mems own W (by have:=ok.m;omega) ((IntsAt.of_owns h.hm).below hb)).mono (by
  rintro e w' ⟨rfl,hb'⟩;have hbb:=hb.trans (hb'.mono hb.size)
  exact⟨rfl,hbb,cell_later hbb c0,cell_later hbb c3⟩)
 clear h ok;generalize (prevOf r.mems own).getD 0=x at *
 generalize (prevOf r.mems own).isSome=y at *
 go_enter Tryz.func275,Tryz.ntmps275
 go_wp2_with fail;go_region_held3 (fun w'=>w'.cell? ⟨b,0,none⟩=some (.int .i64 own)∧w'.cell? ⟨b,3,none⟩=some (.slice am r.mems.length cm)) (first|(simp[go_sem];done)|(simp[go_sem, *];done)|go_keep) (first|(go_at_call 285;refine (HC.out _ (by first|exact Below.refl _ _|exact (Below.refl _ _).drew)).mono ?_;rintro e w9 ⟨rfl,hb9,g0,g3⟩))
 all_goals
  go_wp2_with fail;go_ret2
  exact⟨rfl,hb9⟩
theorem isTail_any (b:Nat)(own:Int)(r:Rep)(vm vl:Value)(w:World)(h:RepAt w b own r vm vl)(ok:RepOK r) :
  Calls Tryz.prog 264 #[.pointer (some ⟨b,0,none⟩)] w fun e w'=>e=.returned (.bool (!(nextOf r.mems own).isSome))∧Below w.heap.size w w':=by
 have hb:=behind_any b own r vm vl w h ok
 clear h ok;generalize (nextOf r.mems own).getD 0=x at *
 generalize (nextOf r.mems own).isSome=y at *
 go_enter Tryz.func264,Tryz.ntmps264
 go_wp2_with fail;refine hb.mono ?_
 rintro e w1 ⟨rfl,hb1⟩;go_wp2_with fail;go_ret;exact⟨rfl,hb1⟩
theorem isFull_any (b:Nat)(own:Int)(r:Rep)(vm vl:Value)(w:World)(h:RepAt w b own r vm vl) :
  Calls Tryz.prog 277 #[.pointer (some ⟨b,0,none⟩)] w fun e w'=>e=.returned (.bool (decide ((24:Int)≤(r.log.length:Int))))∧w'=w:=by
 have c4:=coh h.blk 4
 obtain⟨al,cl,rfl⟩:=osh h.hl
 clear h;go_enter Tryz.func277,Tryz.ntmps277
 go_wp2_with fail;go_ret;exact⟨rfl,rfl⟩
def mval (m:Msg)(vm vl:Value):Value:=.agg #[.int .i64 m.kind,.int .i64 m.src,.int .i64 m.dst,.int .i64 m.epoch,.int .i64 m.ballot,.int .i64 m.vote,.int .i64 m.pos,.int .i64 m.value,vm,vl]
theorem isOfNow_any (b:Nat)(own:Int)(r:Rep)(vm vl:Value)(m:Msg)(mm ml:Value)(w:World)(h:RepAt w b own r vm vl)(ok:RepOK r) :
  Calls Tryz.prog 276 #[.pointer (some ⟨b,0,none⟩),mval m mm ml] w fun e w'=>e=.returned (.bool (r.live own && decide (m.epoch=r.epoch)))∧Below w.heap.size w w':=by
 have HC:Hid (∀ W,Below w.heap.size w W→Calls Tryz.prog 263 #[.pointer (some ⟨b,0,none⟩)] W fun e w'=>e=.returned (.bool (r.live own))∧∃ q,w'=W.drewN q):=hideA fun W hb=>isLive_any b own r vm vl W (h.below hb) ok
 have c1:∀ o,(w.alloc o).cell? ⟨b,1,none⟩=some (.int .i64 r.epoch):=fun o=>cell_later ((Below.refl _ w).alloc (Nat.le_refl _) o) (coh h.blk 1)
 clear h ok;unfold mval
 have HD:Hid ((r.live own && decide (m.epoch=r.epoch))=(r.live own && (m.epoch == r.epoch))):=hideA rfl
 rw[HD.out];generalize r.live own=lv at *
 go_enter Tryz.func276,Tryz.ntmps276
 go_wp2_with fail;cases lv with
 | false =>
  go_quiet ((go_at_call 263;refine (HC.out _ (below_drewN ((Below.refl _ _).alloc (Nat.le_refl _) _) _)).mono ?_;rintro e w9 ⟨rfl,q9,rfl⟩;exact⟨rfl,_,World.drewN_drewN _ _ _⟩))
  go_wp2
  go_ret;exact⟨rfl,below_drewN ((Below.refl _ _).alloc (Nat.le_refl _) _) _⟩
 | true =>
  go_quiet ((go_at_call 263;refine (HC.out _ (below_drewN ((Below.refl _ _).alloc (Nat.le_refl _) _) _)).mono ?_;rintro e w9 ⟨rfl,q9,rfl⟩;exact⟨rfl,_,World.drewN_drewN _ _ _⟩))
  go_wp2
  go_ret;exact⟨rfl,below_drewN ((Below.refl _ _).alloc (Nat.le_refl _) _) _⟩
attribute [local go_sem] Oper.semAt_some
def entV (e:Ent):Value:=.agg #[.int .i64 e.client,.int .i64 e.seq,.int .i64 e.kind,.int .i64 e.key,.int .i64 e.value]
def LogB (w:World)(v:Value)(es:List Ent):Prop:=(es=[]∧∃ a c,v=.slice a 0 c)∨(∃ g c,v=.slice (some ⟨g,0,none⟩) es.length c∧RowIs w g es)
def entT : TypeId→Bool:=fun T=>T == 42
theorem RowIs.keepS {A B:World}{g:Nat}{es:List Ent}(h:RowIs A g es)(k:KeepS entT A B):RowIs B g es:=by
 obtain⟨cur,fz,h1,h2⟩:=h;have h3:=k g cur 42 fz rfl h1
 have e:B.heap[g]?=A.heap[g]?:=h3.trans h1.symm
 refine⟨cur,fz,h3,fun i hi => ?_⟩
 rw[cell_same e,cell_same e,cell_same e,cell_same e,cell_same e];exact h2 i hi
theorem LogB.keepS {A B:World}{v:Value}{es:List Ent}(h:LogB A v es)(k:KeepS entT A B):LogB B v es:=by
 rcases h with h|⟨g,c,rfl,h⟩
 ·exact .inl h
 ·exact .inr ⟨g,c,rfl,h.keepS k⟩
theorem LogB.below {A B:World}{v:Value}{es:List Ent}(h:LogB A v es)(k:Below A.heap.size A B):LogB B v es:=h.keepS (KeepS.below k)
theorem LogB.of_owns {w:World}{base:Nat}{v:Value}{es:List Ent}(h:w.ownsRow base 42 5 v es.length (ints (entsNums es))):LogB w v es:=by
 rcases h.2 with ⟨rfl,h0⟩|⟨g,cap,cur,rfl,_⟩
 ·exact .inl ⟨List.eq_nil_of_length_eq_zero h0,_,_,rfl⟩
 ·exact .inr ⟨g,cap,rfl,RowIs.of_owns h⟩
theorem LogB.shape {w:World}{v:Value}{es:List Ent}(h:LogB w v es):∃ a c,v=.slice a es.length c:=by
 rcases h with ⟨rfl,a,c,rfl⟩|⟨g,c,rfl,_⟩
 ·exact⟨a,c,rfl⟩
 ·exact⟨_,c,rfl⟩
theorem RowIs.take {w:World}{g:Nat}{es:List Ent}(h:RowIs w g es)(k:Nat):RowIs w g (es.take k):=by
 obtain⟨cur,fz,h1,h2⟩:=h;refine⟨cur,fz,h1,fun i hi => ?_⟩
 rw[List.length_take] at hi
 have e:(es.take k).getD i Ent.zero=es.getD i Ent.zero:=by simp[List.getD,List.getElem?_take_of_lt (show i<k by omega)]
 rw[e];exact h2 i (by omega)
def fitAt (P:Ent→Bool)(es:List Ent)(i:Nat):Option (Nat × Ent):=if P (es.getD i Ent.zero) then some (i,es.getD i Ent.zero) else none
def fitTo (P:Ent→Bool)(es:List Ent)(k:Nat):List (Nat × Ent):=(List.range k).filterMap (fitAt P es)
def fitList (P:Ent→Bool)(es:List Ent):List (Nat × Ent):=fitTo P es es.length
theorem fitTo_succ (P:Ent→Bool)(es:List Ent)(k:Nat):fitTo P es (k+1)=fitTo P es k++(if P (es.getD k Ent.zero) then [(k,es.getD k Ent.zero)] else []):=by
 unfold fitTo
 rw[List.range_succ,List.filterMap_append];congr 1
 rw[List.filterMap_cons,List.filterMap_nil];unfold fitAt
 split<;>rename_i h<;>split at h<;>simp_all
theorem fitTo_prefix (P:Ent→Bool)(es:List Ent)(k:Nat)(hk:k≤es.length):fitTo P es k <+: fitList P es:=by
 unfold fitList fitTo
 obtain⟨d,hd⟩:∃ d,es.length=k+d:=⟨es.length-k,by omega⟩
 rw[hd,List.range_add,List.filterMap_append];exact List.prefix_append _ _
def CellsOK (ps:List (Addr × Value))(W:World):Prop:=∀ q∈ps,W.cell? q.1=some q.2
theorem CellsOK.below {ps:List (Addr × Value)}{A B:World}(h:CellsOK ps A)(hb:Below A.heap.size A B):CellsOK ps B:=fun q hq=>cell_later hb (h q hq)
def KeepF (ps:List (Addr × Value))(A B:World):Prop:=KeepS entT A B∧(CellsOK ps A→CellsOK ps B)
theorem KeepF.trans {ps:List (Addr × Value)}{A B C:World}(h:KeepF ps A B)(k:KeepF ps B C):KeepF ps A C:=⟨h.1.trans k.1,fun x=>k.2 (h.2 x)⟩
theorem KeepF.below {ps:List (Addr × Value)}{A B:World}(h:Below A.heap.size A B):KeepF ps A B:=⟨KeepS.below h,fun x=>x.below h⟩
theorem keepF_put (ps:List (Addr × Value))(W:World)(l:Nat)(o o':Obj)(hl:W.heap[l]?=some o)(hc:o.isCells=false):KeepF ps W (W.putObj l o') :=
 ⟨keepS_put entT W l o o' hl hc,fun h q hq=>(keepS_put allT W l o o' hl hc).cell (h q hq)⟩
theorem fitting1_in (n l B0 B1:Nat)(v:Value)(es:List Ent)(gf:Nat)(gb:Array Value)(P:Ent→Bool)(ps:List (Addr × Value))(hl:es.length≤1000)
  (J Jx:List (Nat × Ent)→World→Prop) (W:World) (hJ:AbidesFrom W.heap.size J)
  (eg:∀ args w,(callFunc gf args).run Tryz.prog w=.ok (.enter gf args) w)
  (hF:∀ W1 e,CellsOK ps W1→CallsIn Fence.wide (n-1) Tryz.prog gf (#[entV e]++gb) W1 fun r W'=>r=.returned (.bool (P e))∧Below W1.heap.size W1 W')
  (hY:∀ pre (y:Nat × Ent) W1,J pre W1→pre.length<(fitList P es).length→YieldAt Fence.wide (n-1) Tryz.prog l #[.int .i64 y.1,entV y.2] W1 fun e W' =>
   (e=.returned (.bool true)∧J (pre++[y]) W'∧KeepF ((⟨B1,0,none⟩,.func (.func gf) #[] gb) :: ps) W1 W')∨(e=.returned (.bool false)∧Jx (pre++[y]) W'))
  (h0:W.cell? ⟨B0,0,none⟩=some v) (hps:CellsOK ((⟨B1,0,none⟩,.func (.func gf) #[] gb) :: ps) W) (hv:LogB W v es) (hJ0:J [] W) :
  CallsIn Fence.wide n Tryz.prog 295 #[.func (.yield l) #[] #[],.pointer (some ⟨B0,0,none⟩),.pointer (some ⟨B1,0,none⟩)] W fun e W'=>(∃ v,e=.returned v) ∧
   ((∃ ys,ys=fitList P es∧J ys W')∨(∃ pre,pre <+: fitList P es∧Jx pre W')):=by
 rcases hv with ⟨rfl,a,c,rfl⟩|⟨g,c,rfl,hv⟩
 ·refine callsIn_of_wp Tryz.func295 rfl trivial ?_ rfl
  simp only [Tryz.ntmps295,List.size_toArray,List.length_cons,List.length_nil,Nat.reduceAdd,Nat.reduceSub,Array.replicate_succ,Array.replicate_zero,List.push_toArray,List.append_toArray,List.nil_append,List.cons_append]
  gi_wp2_with fail;gi_loopw [8] (fun i wr=>i=.int .i64 0∧J [] wr) (fun _ _=>0)
  case atStart=>exact⟨rfl,hJ0⟩
  case round =>
   obtain⟨rfl,hJs⟩:=hrel;gi_wp2
   go_end0
   exact⟨⟨_,rfl⟩,.inl ⟨_,rfl,hJs⟩⟩
 ·have HV:=hideA hv
  have HP:=hideA hps;have HF:=hideA hF;have HY:=hideA hY;clear hv hF hY hps;refine callsIn_of_wp Tryz.func295 rfl trivial ?_ rfl
  simp only [Tryz.ntmps295,List.size_toArray,List.length_cons,List.length_nil,Nat.reduceAdd,Nat.reduceSub,Array.replicate_succ,Array.replicate_zero,List.push_toArray,List.append_toArray,List.nil_append,List.cons_append]
  gi_wp2_with fail;gi_loopw [8] (fun i wr=>∃ k:Nat,k≤es.length∧i=.int .i64 k∧J (fitTo P es k) wr∧Hid (RowIs wr g es)∧Hid (CellsOK ((⟨B1,0,none⟩,.func (.func gf) #[] gb) :: ps) wr)) (fun i _=>es.length-(intOf i).toNat)
  case atStart=>exact⟨0,Nat.zero_le _,rfl,hJ0,HV,HP⟩
  case round =>
   obtain⟨k,hk,rfl,hJk,hR,hP⟩:=hrel;by_cases hlt:k<es.length
   ·obtain⟨cur,fz,hg,hc⟩:=hR.out
    obtain⟨c0,c1,c2,c3,c4⟩:=hc k hlt
    have hfn:wr.cell? ⟨B1,0,none⟩=some (.func (.func gf) #[] gb):=hP.out _ List.mem_cons_self
    have hlB:B1<wr.heap.size:=by
     rcases Nat.lt_or_ge B1 wr.heap.size with h|h
     ·exact h
     ·simp[World.cell?,Array.getElem?_eq_none h] at hfn
    have hs:=hideA (fitTo_succ P es k)
    have Hpre:=hideA (fitTo_prefix P es (k+1) (by omega))
    generalize es.getD k Ent.zero=x at *
    clear hc hg;gi_wp2_with fail;obtain⟨A,hA,hbA,hszA,qA, -⟩:=boxed wr #[.int .i64 x.client,.int .i64 x.seq,.int .i64 x.kind,.int .i64 x.key,.int .i64 x.value] 42
    rw[hA];clear hA;have hPA:=hP.out.below hbA
    refine⟨trivial,by simp[Fence.wide],(HF.out A x (fun q hq=>hPA q (List.mem_cons_of_mem _ hq))).mono ?_⟩
    rintro e A2 ⟨rfl,hbA2⟩;have hb2:Below wr.heap.size wr A2:=hbA.trans (hbA2.mono hbA.size)
    have hJ2:=hJ _ _ _ none hJk (grown_of_below hb2) (fun r e=>by cases e)
    have hR2:=hideA (hR.out.keepS (KeepS.below hb2))
    have hP2:=hideA (hP.out.below hb2)
    cases hpx:P x with
    | false =>
     have ht:Hid (fitTo P es (k+1)=fitTo P es k):=hideA (by rw[hs.out,hpx];simp)
     gi_wp2
     refine⟨fun f h=>(by cases h), ?_⟩
     gi_wp2
     go_roundw
     case rel=>exact⟨k+1,by omega,by go_num,by rw[ht.out];exact hJ2,hR2,hP2⟩
     case measure=>simp[intOf];omega
    | true =>
     have ht:Hid (fitTo P es (k+1)=fitTo P es k++[(k,x)]):=hideA (by rw[hs.out,hpx];simp)
     have d0:=cell_later hbA2 (qA 0)
     have d1:=cell_later hbA2 (qA 1)
     have d2:=cell_later hbA2 (qA 2)
     have d3:=cell_later hbA2 (qA 3)
     have d4:=cell_later hbA2 (qA 4)
     obtain⟨fn,tmps,assign,body,hy,hRd⟩:=HY.out (fitTo P es k) (k,x) _ hJ2 (by
      have:=Hpre.out.length_le
      rw[ht.out,List.length_append] at this
      simp at this
      omega)
     clear qA;dsimp only [entV] at hy
     gi_wp2
     refine⟨by simp[Fence.wide],hRd.mono ?_⟩
     rintro e W3 (⟨rfl,hJ3,hk3⟩|⟨rfl,hJx3⟩)
     ·gi_wp2
      go_roundw
      case rel=>exact⟨k+1,by omega,by go_num,by rw[ht.out];exact hJ3,hideA (hR2.out.keepS hk3.1),hideA (hk3.2 hP2.out)⟩
      case measure=>simp[intOf];omega
     ·gi_wp2
      refine bodyPost_ret (results_none rfl _ _ _) rfl ?_
      exact⟨⟨_,rfl⟩,.inr ⟨_,by rw[← ht.out];exact Hpre.out,hJx3⟩⟩
   ·obtain rfl:k=es.length:=by omega
    gi_wp2
    go_end0
    exact⟨⟨_,rfl⟩,.inl ⟨_,rfl,hJk⟩⟩
theorem fitting_stops (n B0 B1:Nat)(v:Value)(es:List Ent)(gf:Nat)(gb:Array Value)(P:Ent→Bool)(ps:List (Addr × Value))(w:World)(hl:es.length≤1000)
  (eg:∀ args w,(callFunc gf args).run Tryz.prog w=.ok (.enter gf args) w)
  (hF:∀ W1 e,CellsOK ps W1→CallsIn Fence.wide (n-1) Tryz.prog gf (#[entV e]++gb) W1 fun r W'=>r=.returned (.bool (P e))∧Below W1.heap.size W1 W')
  (h0:w.cell? ⟨B0,0,none⟩=some v) (hps:CellsOK ((⟨B1,0,none⟩,.func (.func gf) #[] gb) :: ps) w) (hv:LogB w v es) :
  SeqStopsK Fence.wide n Tryz.prog 295 #[.pointer (some ⟨B0,0,none⟩),.pointer (some ⟨B1,0,none⟩)] (fun y:Nat × Ent=>#[Value.int .i64 (y.1:Int),entV y.2]) (KeepF ((⟨B1,0,none⟩,.func (.func gf) #[] gb) :: ps)) (fun ys=>ys=fitList P es) (fun pre=>pre <+: fitList P es) (fitList P es).length w :=
 fun l J Jx W hW hJ _ hY hJ0=>fitting1_in n l B0 B1 v es gf gb P ps hl J Jx W hJ eg hF hY (cell_later hW h0) (hps.below hW) (hv.below hW) hJ0
end Go.Proofs.YtgieeeeeiggoeaaGreat
namespace Go.Proofs.YtgieeeeeiggoeaaGreat
open Go.RowKit Go.Shelf
attribute [local go_sem] Oper.semAt_some
theorem fitList_cons (P:Ent→Bool)(a:Ent)(t:List Ent):fitList P (a :: t)=(if P a then [(0,a)] else [])++(fitList P t).map (fun y=>(y.1+1,y.2)):=by
 unfold fitList fitTo
 rw[List.length_cons,List.range_succ_eq_map,List.filterMap_cons,List.filterMap_map];have e1:fitAt P (a :: t) 0=if P a then some (0,a) else none:=rfl
 have e2:(List.range t.length).filterMap (fitAt P (a :: t) ∘ Nat.succ)=((List.range t.length).filterMap (fitAt P t)).map (fun y=>(y.1+1,y.2)):=by
  rw[List.map_filterMap];congr 1
  funext i
  show fitAt P (a :: t) (i+1)=_
  unfold fitAt
  rw[show (a :: t).getD (i+1) Ent.zero=t.getD i Ent.zero from rfl]
  split<;>rfl
 rw[e1,e2];by_cases h:P a=true
 ·simp[h]
 ·simp[h]
theorem fit_head (P:Ent→Bool)(es:List Ent):(fitList P es).head?=if es.any P then some (es.findIdx P,es.getD (es.findIdx P) Ent.zero) else none:=by
 induction es with
 | nil=>rfl
 | cons a t ih =>
  rw[fitList_cons,List.any_cons,List.findIdx_cons];by_cases h:P a=true
  ·simp[h]
  ·simp only [h,Bool.false_eq_true, ↓reduceIte,List.nil_append,Bool.false_or,cond_false]
   rw[List.head?_map,ih]
   by_cases h2:t.any P=true
   ·rw[if_pos h2,if_pos h2];rfl
   ·rw[if_neg h2,if_neg h2];rfl
def isIt (c s:Int)(x:Ent):Bool:=decide (x.client=c) && decide (x.seq=s)
def findAt (es:List Ent)(c s:Int):Int:=if es.any (isIt c s) then (es.findIdx (isIt c s):Int) else 0
def isLat (c s:Int)(x:Ent):Bool:=decide (x.client=c) && decide (s<x.seq)
def isPut (k:Int)(x:Ent):Bool:=decide (x.kind=1) && decide (x.key=k)
theorem find1_any (c s:Int)(Bc Bs:Nat)(e:Ent)(W:World)(hc:W.cell? ⟨Bc,0,none⟩=some (.int .i64 c))(hs:W.cell? ⟨Bs,0,none⟩=some (.int .i64 s)) :
  Calls Tryz.prog 289 #[entV e,.pointer (some ⟨Bc,0,none⟩),.pointer (some ⟨Bs,0,none⟩)] W fun r W'=>r=.returned (.bool (isIt c s e))∧Below W.heap.size W W':=by
 have d0:=fun o=>cell_later ((Below.refl _ W).alloc (Nat.le_refl _) o) hc
 have d1:=fun o=>cell_later ((Below.refl _ W).alloc (Nat.le_refl _) o) hs
 unfold entV
 by_cases h1:e.client=c
 ·go_enter Tryz.func289,Tryz.ntmps289
  go_wp2
  go_ret;exact⟨by simp[isIt,h1]<;>rfl,(Below.refl _ _).alloc (Nat.le_refl _) _⟩
 ·have h1d:(e.client == c)=false:=by simp[h1]
  go_enter Tryz.func289,Tryz.ntmps289
  go_wp2
  go_ret;exact⟨by simp[isIt,h1]<;>rfl,(Below.refl _ _).alloc (Nat.le_refl _) _⟩
theorem later1_any (c s:Int)(Bc Bs:Nat)(e:Ent)(W:World)(hc:W.cell? ⟨Bc,0,none⟩=some (.int .i64 c))(hs:W.cell? ⟨Bs,0,none⟩=some (.int .i64 s)) :
  Calls Tryz.prog 292 #[entV e,.pointer (some ⟨Bc,0,none⟩),.pointer (some ⟨Bs,0,none⟩)] W fun r W'=>r=.returned (.bool (isLat c s e))∧Below W.heap.size W W':=by
 have d0:=fun o=>cell_later ((Below.refl _ W).alloc (Nat.le_refl _) o) hc
 have d1:=fun o=>cell_later ((Below.refl _ W).alloc (Nat.le_refl _) o) hs
 unfold entV
 by_cases h1:e.client=c
 ·go_enter Tryz.func292,Tryz.ntmps292
  go_wp2
  go_ret;exact⟨by simp[isLat,h1]<;>rfl,(Below.refl _ _).alloc (Nat.le_refl _) _⟩
 ·have h1d:(e.client == c)=false:=by simp[h1]
  go_enter Tryz.func292,Tryz.ntmps292
  go_wp2
  go_ret;exact⟨by simp[isLat,h1]<;>rfl,(Below.refl _ _).alloc (Nat.le_refl _) _⟩
theorem answer1_any (k:Int)(Bk:Nat)(e:Ent)(W:World)(hk:W.cell? ⟨Bk,0,none⟩=some (.int .i64 k)) :
  Calls Tryz.prog 298 #[entV e,.pointer (some ⟨Bk,0,none⟩)] W fun r W'=>r=.returned (.bool (isPut k e))∧Below W.heap.size W W':=by
 have d0:=fun o=>cell_later ((Below.refl _ W).alloc (Nat.le_refl _) o) hk
 unfold entV
 by_cases h1:e.kind=1
 ·go_enter Tryz.func298,Tryz.ntmps298
  go_wp2
  go_ret;exact⟨by simp[isPut,h1]<;>rfl,(Below.refl _ _).alloc (Nat.le_refl _) _⟩
 ·have h1d:(e.kind == 1)=false:=by simp[h1]
  go_enter Tryz.func298,Tryz.ntmps298
  go_wp2
  go_ret;exact⟨by simp[isPut,h1]<;>rfl,(Below.refl _ _).alloc (Nat.le_refl _) _⟩
theorem fitting_any (m:Nat)(v:Value)(gf:Nat)(gb:Array Value)(a:Option Addr)(n c:Nat)(hv:v=.slice a n c)(W:World) :
  CallsIn Fence.wide m Tryz.prog 290 #[v,.func (.func gf) #[] gb] W fun r W'=>r=.returned (.func (.func 295) #[] #[.pointer (some ⟨W.heap.size,0,none⟩),.pointer (some ⟨W.heap.size+1,0,none⟩)])∧W'=(W.alloc (.cells #[v] 44)).alloc (.cells #[.func (.func gf) #[] gb] 132):=by
 subst hv;refine callsIn_wide.2 ?_
 go_enter Tryz.func290,Tryz.ntmps290
 go_wp2
 go_ret;exact⟨rfl,rfl⟩
theorem box_more {w W:World}(hb:Below w.heap.size w W)(u:Value)(T:TypeId):∃ X,W.alloc (.cells #[u] T)=X∧Below w.heap.size w X∧X.heap.size=W.heap.size+1∧X.cell? ⟨W.heap.size,0,none⟩=some u∧X.frozen? ⟨W.heap.size,0,none⟩=false ∧
  (∀ (k:Nat) (v:Value),W.cell? ⟨k,0,none⟩=some v→X.cell? ⟨k,0,none⟩=some v)∧(∀ (k:Nat) (v:Value),W.cell? ⟨k,0,none⟩=some v→X.frozen? ⟨k,0,none⟩=W.frozen? ⟨k,0,none⟩)∧Below W.heap.size W X:=by
 obtain⟨X,hX,hbX,hsX,q,f⟩:=boxed W #[u] T
 refine⟨X,hX,hb.trans (hbX.mono hb.size),hsX,q 0,f 0,fun k v h=>cell_later hbX h,fun k v h => ?_,hbX⟩
 have hk:k<W.heap.size:=by
  rcases Nat.lt_or_ge k W.heap.size with h'|h'
  ·exact h'
  ·simp[World.cell?,Array.getElem?_eq_none h'] at h
 exact hbX.frozen (p:=⟨k,0,none⟩) hk
theorem find_in (n:Nat)(hn:Hid (6≤n))(v:Value)(es:List Ent)(c s:Int)(w:World)(hl:es.length≤1000)(hv:LogB w v es) :
  CallsIn Fence.wide n Tryz.prog 282 #[v,.int .i64 c,.int .i64 s] w fun e w'=>e=.returned (.tuple #[.int .i64 (findAt es c s),.bool (es.any (isIt c s))])∧Below w.heap.size w w':=by
 have hv1:=hv
 obtain⟨a,cc,rfl⟩:=hv1.shape;have Hh:=hideA (fit_head (isIt c s) es)
 obtain⟨N,hN⟩:∃ N,N=w.heap.size:=⟨_,rfl⟩
 refine callsIn_of_wp_marks Tryz.func282 rfl trivial ?_ rfl
 simp only [Tryz.ntmps282,List.size_toArray,List.length_cons,List.length_nil,Nat.reduceAdd,Nat.reduceSub,Array.replicate_succ,Array.replicate_zero,List.push_toArray,List.append_toArray,List.nil_append,List.cons_append]
 gi_wp2_with fail;refine⟨trivial,by simp[Fence.wide],(fitting_any _ _ _ _ a es.length cc rfl _).mono ?_⟩
 rintro e W ⟨rfl,rfl⟩;obtain⟨X1,hX1,hb1,hs1,c1,f1, -, -, -⟩:=box_more (Below.refl _ w) (.int .i64 c) 3
 rw[hX1];obtain⟨X2,hX2,hb2,hs2,c2,f2,k2,fr2, -⟩:=box_more hb1 (.int .i64 s) 3
 rw[hX2];obtain⟨X3,hX3,hb3,hs3,c3,f3,k3,fr3, -⟩:=box_more hb2 (.int .i64 0) 3
 rw[hX3];obtain⟨X4,hX4,hb4,hs4,c4,f4,k4,fr4, -⟩:=box_more hb3 (.bool false) 4
 rw[hX4];obtain⟨X5,hX5,hb5,hs5,c5,f5,k5,fr5, -⟩:=box_more hb4 (.slice a es.length cc) 44
 rw[hX5];obtain⟨X,hX,hb,hs6,c6,f6,k6,fr6, -⟩:=box_more hb5 (.func (.func 289) #[] #[.pointer (some ⟨w.heap.size,0,none⟩),.pointer (some ⟨w.heap.size+1,0,none⟩)]) 132
 rw[hX];clear hX hX1 hX2 hX3 hX4 hX5;rw[hs5,hs4,hs3,hs2,hs1] at c6 f6
 rw[hs4,hs3,hs2,hs1] at c5
 rw[hs3,hs2,hs1] at c4 f4
 rw[hs2,hs1] at c3 f3
 rw[hs1] at c2
 have e1:=k6 _ _ (k5 _ _ (k4 _ _ (k3 _ _ (k2 _ _ c1))))
 have e2:=k6 _ _ (k5 _ _ (k4 _ _ (k3 _ _ c2)))
 have e3:=k6 _ _ (k5 _ _ (k4 _ _ c3))
 have g3:=(fr6 _ _ (k5 _ _ (k4 _ _ c3))).trans ((fr5 _ _ (k4 _ _ c3)).trans ((fr4 _ _ c3).trans f3))
 have e4:=k6 _ _ (k5 _ _ c4)
 have g4:=(fr6 _ _ (k5 _ _ c4)).trans ((fr5 _ _ c4).trans f4)
 have e5:=k6 _ _ c5
 have hsz:X.heap.size=w.heap.size+6:=by omega
 have hX4s:X4.heap.size=w.heap.size+1+1+1+1:=by omega
 rw[hX4s];have hvX:=hideA (hv.below hb)
 clear k2 k3 k4 k5 k6 fr2 fr3 fr4 fr5 fr6 c1 c2 c3 c4 c5 f1 f2 f3 f4 f5 f6 hb1 hb2 hb3 hb4 hb5 hs1 hs2 hs3 hs4 hs5 hs6 hX4s hv hv1;have hps:Hid (CellsOK ((⟨w.heap.size+1+1+1+1+1,0,none⟩,.func (.func 289) #[] #[.pointer (some ⟨w.heap.size,0,none⟩),.pointer (some ⟨w.heap.size+1,0,none⟩)]) :: [(⟨w.heap.size,0,none⟩,.int .i64 c),(⟨w.heap.size+1,0,none⟩,.int .i64 s)]) X):=hideA (by
  intro q hq;simp only [List.mem_cons,List.not_mem_nil,or_false] at hq
  rcases hq with rfl|rfl|rfl
  ·exact c6
  ·exact e1
  ·exact e2)
 gi_wp2_with fail;refine wpIn_rangeFunc_ownF rfl (by have:=hn.out;omega) (gf:=295) (lb:=#[.pointer (some ⟨w.heap.size+1+1+1+1,0,none⟩),.pointer (some ⟨w.heap.size+1+1+1+1+1,0,none⟩)]) rfl trivial (enters_of Tryz.func295 (by kernel_rfl) rfl)
  (fitting_stops (n-1) (w.heap.size+1+1+1+1) (w.heap.size+1+1+1+1+1) (.slice a es.length cc) es 289 #[.pointer (some ⟨w.heap.size,0,none⟩),.pointer (some ⟨w.heap.size+1,0,none⟩)] (isIt c s) [(⟨w.heap.size,0,none⟩,.int .i64 c),(⟨w.heap.size+1,0,none⟩,.int .i64 s)] X hl (enters_of Tryz.func289 (by kernel_rfl) rfl)
   (fun W1 e h=>callsIn_wide.2 (find1_any c s w.heap.size (w.heap.size+1) e W1 (h _ List.mem_cons_self) (h _ (List.mem_cons_of_mem _ List.mem_cons_self)))) e5 hps.out hvX.out)
  KeepF.trans (fun W l o o' _ hl hc _=>keepF_put _ W l o o' hl hc) (Below.refl _ _) (fun _=>rfl)
  (fun pre W=>(pre=[]∧W.cell? ⟨w.heap.size+1+1,0,none⟩=some (.int .i64 0)∧W.frozen? ⟨w.heap.size+1+1,0,none⟩=false∧W.cell? ⟨w.heap.size+1+1+1,0,none⟩=some (.bool false)∧W.frozen? ⟨w.heap.size+1+1+1,0,none⟩=false)∧Below w.heap.size w W)
  (fun c pre W=>(c=.ret∧∃ y:Nat × Ent,pre=[y]∧W.cell? ⟨w.heap.size+1+1,0,none⟩=some (.int .i64 (y.1:Int))∧W.cell? ⟨w.heap.size+1+1+1,0,none⟩=some (.bool true))∧Below w.heap.size w W)
  (OwnFrom.and (Own.from (fun s A B row hs hg hr=>⟨hs.1,cell_kept hs.2.1 hg hr,(frozen_kept hs.2.1 hg hr).trans hs.2.2.1,cell_kept hs.2.2.2.1 hg hr,(frozen_kept hs.2.2.2.1 hg hr).trans hs.2.2.2.2⟩) _) (ownFrom_below (Nat.le_refl _) (by omega)))
  (fun c=>OwnFrom.and (Own.from (fun s A B row hs hg hr=>by obtain⟨h1,y,h2,h3,h4⟩:=hs;exact⟨h1,y,h2,cell_kept h3 hg hr,cell_kept h4 hg hr⟩) _) (ownFrom_below (Nat.le_refl _) (by omega)))
  ⟨⟨rfl,e3,g3,e4,g4⟩,hb⟩
  (fun x=>{ tmps:=#[.slice a es.length cc,.int .i64 c,.int .i64 s,undef,.pointer (some ⟨w.heap.size,0,none⟩),.pointer (some ⟨w.heap.size+1,0,none⟩),.pointer (some ⟨w.heap.size+1+1,0,none⟩),.pointer (some ⟨w.heap.size+1+1+1,0,none⟩),
   .func (.func 289) #[] #[.pointer (some ⟨w.heap.size,0,none⟩),.pointer (some ⟨w.heap.size+1,0,none⟩)],.int .i64 (x.1:Int),.func (.func 289) #[] #[.pointer (some ⟨w.heap.size,0,none⟩),.pointer (some ⟨w.heap.size+1,0,none⟩)],.slice a es.length cc,.func (.func 289) #[] #[.pointer (some ⟨w.heap.size,0,none⟩),.pointer (some ⟨w.heap.size+1,0,none⟩)],
   .func (.func 295) #[] #[.pointer (some ⟨w.heap.size+1+1+1+1,0,none⟩),.pointer (some ⟨w.heap.size+1+1+1+1+1,0,none⟩)],.int .i64 (x.1:Int),entV x.2,undef],defers:=[] }) ?assign ?body ?done ?stop
 case assign =>
  intro l x W K hK;gi_wp2
  exact hK
 case body =>
  rintro l pre x W ⟨⟨rfl,hca,hfa,hcb,hfb⟩,hB⟩ _;gi_wp2_with fail;have h2:=two_set (.int .i64 (x.1:Int)) (.bool true) (by omega) hca hcb
  exact⟨(KeepsOthers.setCell _ _ _).trans (KeepsOthers.setCell _ _ _),⟨rfl,x,rfl,h2.1,h2.2⟩,(hB.setCell (p:=⟨w.heap.size+1+1,0,none⟩) (by simp;omega) _).setCell (p:=⟨w.heap.size+1+1+1,0,none⟩) (by simp;omega) _⟩
 case done =>
  rintro D ys W hD hys ⟨⟨rfl,hca,hfa,hcb,hfb⟩,hB⟩ hK;have hany:Hid (findAt es c s=0∧es.any (isIt c s)=false):=hideA (by
   have h:=Hh.out
   rw[← hys] at h
   by_cases h2:es.any (isIt c s)=true
   ·rw[if_pos h2] at h;cases h
   ·exact⟨by unfold findAt;rw[if_neg h2],by simpa using h2⟩)
  gi_wp2
  have hK':=((KeepsOthers.setCell W ⟨w.heap.size+1+1,0,none⟩ (.int .i64 0)).trans (KeepsOthers.setCell _ ⟨w.heap.size+1+1+1,0,none⟩ (.bool false))).same D _ hK rfl
  have h2:=two_set (.int .i64 0) (.bool false) (by omega) hca hcb
  refine⟨by simp,.inl ⟨_,_,rfl,run_takeDeferred hK', ?_⟩⟩
  have hc5:=cell_kept h2.1 (grownBy_putObj' _ D (.deferred none)) (fun r e=>by cases e;exact⟨_,hK',rfl⟩)
  have hc6:=cell_kept h2.2 (grownBy_putObj' _ D (.deferred none)) (fun r e=>by cases e;exact⟨_,hK',rfl⟩)
  refine⟨.tuple #[.int .i64 0,.bool false], ?_,by rw[hany.out.1,hany.out.2],((hB.setCell (p:=⟨w.heap.size+1+1,0,none⟩) (by simp;omega) _).setCell (p:=⟨w.heap.size+1+1+1,0,none⟩) (by simp;omega) _).trans (belowK_b (w:=w) (Nat.le_refl _) _ D _ _ (by omega) hK' rfl rfl)⟩
  simp[results,Tryz.f282,go_sem,hc5,hc6]
 case stop =>
  rintro D c' pre W hD hpre ⟨⟨rfl,y,rfl,hca,hcb⟩,hB⟩ hK;have HL:Hid (findAt es c s=y.1∧es.any (isIt c s)=true):=hideA (by
   have h:=Hh.out
   obtain⟨t,ht⟩:=hpre;rw[← ht] at h
   by_cases h2:es.any (isIt c s)=true
   ·rw[if_pos h2] at h
    injection h with h
    exact⟨by unfold findAt;rw[if_pos h2,h],h2⟩
   ·rw[if_neg h2] at h;cases h)
  gi_wp2
  refine⟨by simp,.inl ⟨_,_,rfl,run_takeDeferred hK, ?_⟩⟩
  have hc5:=cell_kept hca (grownBy_putObj' _ D (.deferred none)) (fun r e=>by cases e;exact⟨_,hK,rfl⟩)
  have hc6:=cell_kept hcb (grownBy_putObj' _ D (.deferred none)) (fun r e=>by cases e;exact⟨_,hK,rfl⟩)
  refine⟨.tuple #[.int .i64 (y.1:Int),.bool true], ?_,by rw[HL.out.1,HL.out.2],hB.trans (belowK_b (w:=w) (Nat.le_refl _) W D _ _ (by omega) hK rfl rfl)⟩
  simp[results,Tryz.f282,go_sem,hc5,hc6]
end Go.Proofs.YtgieeeeeiggoeaaGreat
