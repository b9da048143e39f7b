import Derived.Test.YtgieeeeeiggoeaaGreatD14
import Derived.Deep.Upon
import Derived.Deep.OwnRows
import Derived.Test.YtgieeeeeiggoeaaGreatD15
set_option maxRecDepth 100000
set_option maxHeartbeats 2000000
namespace Go.Proofs.YtgieeeeeiggoeaaGreat
open Go.RowKit Go.Shelf
open Tryz
variable {a:Act}{K:Act->World->Prop}{ops:Array Oper}{Q:Exit->Act->World->Prop}{ps:List (Nat × TypeId × Value)}{ms:List aK}{xs:List Value}{B2 b base g n size:Nat}{S:Nat->Prop}{o:Oper}{E:Prop}{r:aR}{e:TypeId}{v vl vm:Value}{A B W w w' w1:World}
abbrev gy := aK × Value × Value
def cd (t:gy):List Value:=[.int .i64 t.1.kind,.int .i64 t.1.src,.int .i64 t.1.dst,.int .i64 t.1.ah,.int .i64 t.1.ak,.int .i64 t.1.aO,.int .i64 t.1.pos,.int .i64 t.1.value,t.2.1,t.2.2]
def mH (w:World)(ws:List gy):Prop:=∀ t∈ws,bd w t.2.1 t.1.af/\bw w t.2.2 t.1.log
def a_ (w:World)(base:Nat)(v:Value)(ms:List aK):Prop :=
 ∃ ws:List gy,ws.map Prod.fst=ms/\w.ownsRow base 134 10 v ms.length (ws.flatMap cd)/\mH w ws
theorem a_.nil (w:World)(base:Nat):a_ w base (.slice none 0 0) []:=⟨[],rfl,bE _ _ _ _,fun t h=>by cases h⟩
theorem mH.below {ws:List gy}(h:mH w ws)(hb:ai w w'):mH w' ws :=
 fun t ht=>⟨aS (h t ht).1 fun k _ hk=>hb.block k hk,aS (h t ht).2 fun k _ hk=>hb.block k hk⟩
theorem a_.below (h:a_ w base v ms)(hb:ai w w'):a_ w' base v ms:=by
 obtain⟨ws,h1,h2,h3⟩:=h;exact⟨ws,h1,aS h2 fun k _ hk=>hb.block k hk,h3.below hb⟩
theorem a_.one (m:aK)(vm vl:Value)(hg:w.heap[g]?=some (.cells (cd (m,vm,vl)).toArray 134))(hb:base<=g)(h1:bd w vm m.af)(h2:bw w vl m.log):a_ w base (.slice (some g) 1 1) [m]:=by
 refine⟨[(m,vm,vl)],rfl,⟨rfl,.inr ⟨g,1,_,rfl,hb,hg,aG _,by unfold maxLen;omega,rfl,rfl⟩⟩, ?_⟩
 intro t ht;simp only [gK,iP,or_false] at ht;subst ht;exact⟨h1,h2⟩
theorem bd.nil (w:World):bd w (.slice none 0 0) []:=bE _ _ _ _
theorem bw.nil (w:World):bw w (.slice none 0 0) []:=bE _ _ _ _
theorem tB (b:Nat)(own:Int)(r:aR)(vm vl:Value)(w:World)(h:dh w b own r vm vl)(ok:gH r) :
  Calls prog 271 #[b] w fun e w'=>∃ v,e=.returned v/\a_ w' w.heap.size v (r.c_ own)/\ai w w':=by
 have hb:=CU b own r vm vl w h ok;have HB:=ae h.blk;have HA:Hid (r.c_ own=match dY r.af own with
  | none=>[]
  | some a=>[{ kind:=3,src:=own,dst:=a,ah:=r.ah,pos:=r.aU }]):=ae rfl
 clear h ok;cases hp:dY r.af own with
 | none =>
  rw[hp] at hb HA;go_enter func271,ntmps271;go_wp2_with fail;refine hb.mono ?_
  rintro e w1 ⟨rfl,hb1⟩;go_wp2_with fail;go_ret;exact⟨_,rfl,by rw[HA.out];exact a_.nil _ _,hb1⟩
 | some a =>
  rw[hp] at hb HA;go_enter func271,ntmps271;go_wp2_with fail;refine hb.mono ?_
  rintro e w1 ⟨rfl,hb1⟩;have c0:w1.cell? (b,0)=some (.int .i64 own):=aF hb1 (aj HB.out 0);have c1:w1.cell? (b,1)=some (.int .i64 r.ah):=aF hb1 (aj HB.out 1);have c6:w1.cell? (b,6)=some (.int .i64 (r.aU:Int)):=aF hb1 (aj HB.out 6);clear hb;go_upto_region 4 with fail
  go_region_held3 (fun w'=>w'.cell? (b,0)=some (.int .i64 own)/\w'.cell? (b,1)=some (.int .i64 r.ah)/\w'.cell? (b,6)=some (.int .i64 (r.aU:Int))) (first|(simp[go_sem];done)|(simp[go_sem, *];done)|go_keep) (fail)
  all_goals
   go_wp2_with fail;go_ret;exact⟨_,rfl,by rw[HA.out];exact a_.one _ _ _ (hnw _ _) hb1.size (bd.nil _) (bw.nil _),(hb1.alloc hb1.size _).drew⟩
theorem kX (w:World)(o o2:Obj):((w.alloc o).alloc o2).heap[w.heap.size+1]?=some o2:=by
 have:=hnw (w.alloc o) o2
 rwa [eJ] at this
theorem L6 (e:aH)(hg:w.heap[g]?=some (.cells #[e.client,e.seq,e.kind,e.key,e.value] 42)):bw w (.slice (some g) 1 1) [e] :=
 ⟨rfl,.inr ⟨g,1,_,rfl,bl _,hg,aG _,by unfold maxLen;omega,rfl,rfl⟩⟩
theorem D2 (b:Nat)(own:Int)(r:aR)(vm vl:Value)(nx:Int)(P:Nat)(w:World)(h:dh w b own r vm vl)(ok:gH r)(hP:P<r.log.length) :
  Calls prog 273 #[b,.int .i64 nx,.int .i64 (P:Int)] w fun e w'=>∃ bD,e=.returned (bL (r.forward own nx P) (.slice none 0 0) bD)/\bw w' bD (r.forward own nx P).log/\ai w w':=by
 obtain⟨al,cl,rfl⟩:=aM h.hl;have dy:=eM.cM h.hl;have HB:=ae h.blk;have c0:∀ o,(w.alloc o).cell? (b,0)=some (.int .i64 own):=fun o=>aF ((ax _ w).alloc (aG _) o) (aj h.blk 0);have c1:∀ o,(w.alloc o).cell? (b,1)=some (.int .i64 r.ah):=fun o=>aF ((ax _ w).alloc (aG _) o) (aj h.blk 1);have c4:∀ o,(w.alloc o).cell? (b,4)=some (.slice al r.log.length cl):=fun o=>aF ((ax _ w).alloc (aG _) o) (aj h.blk 4);obtain⟨a',c',e',hc⟩:=dy;cases e';obtain⟨g,off,rfl,e0,e1,e2,e3,e4⟩:=hc P hP;have d0:=fun o=>aF ((ax _ w).alloc (aG _) o) e0;have d1:=fun o=>aF ((ax _ w).alloc (aG _) o) e1;have d2:=fun o=>aF ((ax _ w).alloc (aG _) o) e2;have d3:=fun o=>aF ((ax _ w).alloc (aG _) o) e3;have d4:=fun o=>aF ((ax _ w).alloc (aG _) o) e4;have hb2:∀ o o2,ai w ((w.alloc o).alloc o2):=fun o o2=>((ax _ w).alloc (aG _) o).alloc (by simp) o2
 have f0:∀ o o2,((w.alloc o).alloc o2).cell? (b,0)=some (.int .i64 own):=fun o o2=>aF (hb2 o o2) (aj HB.out 0);have f1:∀ o o2,((w.alloc o).alloc o2).cell? (b,1)=some (.int .i64 r.ah):=fun o o2=>aF (hb2 o o2) (aj HB.out 1);have f4:∀ o o2,((w.alloc o).alloc o2).cell? (b,4)=some (.slice (some ⟨g,off,none⟩) r.log.length cl):=fun o o2=>aF (hb2 o o2) (aj HB.out 4);have g0:=fun o o2=>aF (hb2 o o2) e0;have g1:=fun o o2=>aF (hb2 o o2) e1;have g2:=fun o o2=>aF (hb2 o o2) e2;have g3:=fun o o2=>aF (hb2 o o2) e3;have g4:=fun o o2=>aF (hb2 o o2) e4;have HF:Hid (r.forward own nx P={ kind:=2,src:=own,dst:=nx,ah:=r.ah,pos:=P,log:=[r.log.getD P aH.zero] }):=ae rfl;have ja:=ok.l;have hbl:b<w.heap.size:=(aQ HB.out);clear h ok hc e0 e1 e2 e3 e4;rw[HF.out];generalize r.log.getD P aH.zero=x at *;go_enter func273,ntmps273;go_wp2_with fail;go_region_held3 (fun w'=>w'.cell? (b,0)=some (.int .i64 own)/\w'.cell? (b,1)=some (.int .i64 r.ah)/\w'.cell? (b,4)=some (.slice (some ⟨g,off,none⟩) r.log.length cl)/\w'.cell? ⟨g,off+P*5,none⟩=some (.int .i64 x.client)/\w'.cell? ⟨g,off+P*5+1,none⟩=some (.int .i64 x.seq)/\w'.cell? ⟨g,off+P*5+2,none⟩=some (.int .i64 x.kind)/\w'.cell? ⟨g,off+P*5+3,none⟩=some (.int .i64 x.key)/\w'.cell? ⟨g,off+P*5+4,none⟩=some (.int .i64 x.value)) (first|(simp[go_sem];done)|(simp[go_sem, *];done)|go_keep) (fail)
 all_goals
  go_wp2_with fail;refine dB (v:=bL { kind:=2,src:=own,dst:=nx,ah:=r.ah,pos:=P,log:=[x] } (.slice none 0 0) (.slice (some ⟨w.heap.size+1,0,none⟩) 1 1)) (by simp[results,results273,go_sem,bL]) rfl ?_
  exact⟨_,rfl,L6 x (kX _ _ _),(hb2 _ _).drew⟩
theorem GL (b:Nat)(own:Int)(r:aR)(vm vl:Value)(P:Nat)(w:World)(h:dh w b own r vm vl)(ok:gH r)(hP:P<r.log.length)(hcl:∀ x∈r.log,0<=x.client/\x.client<=3) :
  Calls prog 291 #[b,.int .i64 (P:Int)] w fun e w'=>e=.returned (bL (r.dm own P) (.slice none 0 0) (.slice none 0 0))/\ai w w':=by
 have ja:=ok.l;obtain⟨al,cl,rfl,hcap⟩:=rK h.hl;have HB:=ae h.blk;obtain⟨g,cap,hv, -, -⟩:=h.hl.form (by omega)
 cases hv;have hrow:=gR.cM h.hl;have HR:=ae hrow;obtain⟨cur,fz,hg,hc⟩:=hrow;obtain⟨e0,e1,e2,e3,e4⟩:=hc P hP;have hx:=hcl (r.log.getD P aH.zero) (by rw[List.getD,bU hP];exact List.getElem_mem hP)
 have hb2:∀ o o2,ai w ((w.alloc o).alloc o2):=fun o o2=>((ax _ w).alloc (aG _) o).alloc (by simp) o2
 have HC:Hid (∀ W o1 o2,W=((w.alloc (.cells o1 134)).alloc (.cells o2 42)).drew->Calls prog 296 #[.slice (some g) r.log.length cl,.int .i64 (P:Int)] W fun e w'=>e=.returned (.int .i64 (jj r.log P))/\ai w w'/\w'.cell? (b,0)=some (.int .i64 own)/\w'.cell? (b,4)=some (.slice (some g) r.log.length cl)/\(∀ j,w'.cell? ⟨w.heap.size+1,j,none⟩=o2[j]?)/\w'.heap[w.heap.size]?=some (.cells o1 134)):=ae fun W o1 o2 hW=>by
  have hb:ai w W:=by rw[hW];exact (hb2 _ _).drew
  have h1:W.heap[w.heap.size+1]?=some (.cells o2 42):=by rw[hW];exact kX _ _ _
  have h0:W.heap[w.heap.size]?=some (.cells o1 134):=by rw[hW];exact (j6 _ _ _ (by simp)).trans (hnw _ _)
  refine (ei.1 (Kg 6 (ae (by omega)) g cl r.log P W (by omega) hP hcap (HR.out.nM (fL.below hb)))).mono ?_
  rintro e w' ⟨rfl,hb'⟩;have hbb:=hb.trans (hb'.mono hb.size);refine⟨rfl,hbb,aF hbb (aj HB.out 0),aF hbb (aj HB.out 4),fun j => ?_,(hb'.block _ (aQ h0)).trans h0⟩
  exact aj ((hb'.block _ (aQ h1)).trans h1) j
 have HF:Hid (r.dm own P={ kind:=4,src:=own,dst:=300+(r.log.getD P aH.zero).client,pos:=(r.log.getD P aH.zero).seq,value:=jj r.log P }):=ae rfl;have c4:∀ o,(w.alloc o).cell? (b,4)=some (.slice (some g) r.log.length cl):=fun o=>aF ((ax _ w).alloc (aG _) o) (aj h.blk 4);have d0:=fun o=>aF ((ax _ w).alloc (aG _) o) e0;have d1:=fun o=>aF ((ax _ w).alloc (aG _) o) e1;have d2:=fun o=>aF ((ax _ w).alloc (aG _) o) e2;have d3:=fun o=>aF ((ax _ w).alloc (aG _) o) e3;have d4:=fun o=>aF ((ax _ w).alloc (aG _) o) e4;have f0:∀ o o2,((w.alloc o).alloc o2).cell? (b,0)=some (.int .i64 own):=fun o o2=>aF (hb2 o o2) (aj HB.out 0);have f4:∀ o o2,((w.alloc o).alloc o2).cell? (b,4)=some (.slice (some g) r.log.length cl):=fun o o2=>aF (hb2 o o2) (aj HB.out 4);have hbl:b<w.heap.size:=(aQ HB.out);have hne1:¬ b=w.heap.size:=by omega
 have hne2:¬ w.heap.size=b:=by omega
 have hwr:IntKind.i64.wrap (300+(r.log.getD P aH.zero).client)=300+(r.log.getD P aH.zero).client:=by rw[dV];omega
 clear h ok hc e0 e1 e2 e3 e4 hg hcl;rw[HF.out];generalize r.log.getD P aH.zero=x at *;generalize jj r.log P=ans at *;go_enter func291,ntmps291;go_wp2_with fail;go_region_held3 (fun w'=>w'.cell? (b,0)=some (.int .i64 own)/\w'.cell? (b,4)=some (.slice (some g) r.log.length cl)/\w'.cell? (w.heap.size+1,0)=some (.int .i64 x.client)/\w'.cell? (w.heap.size+1,1)=some (.int .i64 x.seq)) (first|(simp[go_sem];done)|(simp[go_sem, *];done)|go_keep) (first|(go_at_call 296;refine (HC.out _ _ _ rfl).mono ?_;rintro e w9 ⟨rfl,gT,g0,g4,gE,gN⟩;have VA:=gE 0;have VB:=gE 1;have gM:=fun j=>aj gN j;have gF:=fun j=>aW gN j))
 all_goals
  go_wp2_with fail;refine dB (v:=bL { kind:=4,src:=own,dst:=300+x.client,pos:=x.seq,value:=ans } (.slice none 0 0) (.slice none 0 0)) (by simp[results,results291,go_sem,bL,gM]) rfl ⟨rfl, ?_⟩
  iterate 10 refine eE ?_ (by simp) _
  exact gT
theorem Tn (b:Nat)(own:Int)(r:aR)(vm vl:Value)(P:Nat)(w:World)(h:dh w b own r vm vl)(ok:gH r)(hP:P<r.log.length)(hcl:∀ x∈r.log,0<=x.client/\x.client<=3) :
  Calls prog 283 #[b,.int .i64 (P:Int)] w fun e w'=>∃ v,e=.returned v/\a_ w' w.heap.size v (if P<r.aU then [r.dm own P] else [])/\ai w w':=by
 have hr:=GL b own r vm vl P w h ok hP hcl;have c6:=au h.blk 6;have hm:Hid ((r.dm own P).af=[]/\(r.dm own P).log=[]):=ae ⟨rfl,rfl⟩;clear h ok hcl;by_cases hc:P<r.aU
 ·have hc1:¬ (r.aU:Int)<=(P:Int):=by omega
  rw[if_pos hc];generalize r.dm own P=m at *;unfold bL at hr;go_enter func283,ntmps283;go_wp2_with fail;refine hr.mono ?_
  rintro e w1 ⟨rfl,hb1⟩;go_wp2_with fail;go_ret;exact⟨_,rfl,a_.one m (.slice none 0 0) (.slice none 0 0) (hnw _ _) hb1.size (by rw[hm.out.1];exact bd.nil _) (by rw[hm.out.2];exact bw.nil _),hb1.alloc hb1.size _⟩
 ·have hc1:(r.aU:Int)<=(P:Int):=by omega
  rw[if_neg hc];go_enter func283,ntmps283;go_wp2_with fail;go_ret;exact⟨_,rfl,a_.nil _ _,ax _ _⟩
theorem Fo : (prog.info? 134).map (fun i=>(i.zero,i.size,i.bytes))=some (some (.agg #[(),(),(),(),(),(),(),(),true,true]),10,112):=by kernel_rfl
theorem FQ (t:gy)(h1:∃ a n c,t.2.1=.slice a n c)(h2:∃ a n c,t.2.2=.slice a n c):∀ u∈cd t,u.oneCell'=true:=by
 obtain⟨m,vm,vl⟩:=t;obtain⟨a,n,c,rfl⟩:=h1;obtain⟨a',n',c',rfl⟩:=h2;intro u hu;simp only [cd,gK,iP,or_false] at hu;rcases hu with rfl|rfl|rfl|rfl|rfl|rfl|rfl|rfl|rfl|rfl<;>rfl
theorem Mx (ws:List gy):(ws.flatMap cd).length=ws.length*10:=by
 induction ws with
 | nil=>rfl
 | cons t l ih=>rw[List.flatMap_cons,bG,ih,eu,show (cd t).length=10 from rfl];omega
theorem yS (W:World)(base:Nat)(v:Value)(n:Nat)(ws:List gy)(t:gy)(g:Nat)(hown:W.ownsRow base 134 10 v n (ws.flatMap cd))(hg:W.heap[g]?=some (.cells (cd t).toArray 134))
  (hl:n<=100000) (hb:base<=W.heap.size) (h1:∃ a n c,t.2.1=.slice a n c) (h2:∃ a n c,t.2.2=.slice a n c) :
  ∃ g' cap W',(∀ ty,(Builtin.append_ #[97,97] ty #[v,.slice (some g) 1 1]).run prog W=.ok (.slice (some ⟨g',0,none⟩) (n+1) cap) W') /\
   W'.ownsRow base 134 10 (.slice (some ⟨g',0,none⟩) (n+1) cap) (n+1) ((ws++[t]).flatMap cd)/\W.grownBy W' v.ownBlock:=by
 obtain⟨i0,hi,hz0,hz1,hz2⟩:=info_parts Fo;have hA:∀ ty,∃ g' cap W',(Builtin.append_ #[97,97] ty #[v,.slice (some g) 1 1]).run prog W=.ok (.slice (some ⟨g',0,none⟩) (n+1) cap) W' /\
   W'.ownsRow base 134 10 (.slice (some ⟨g',0,none⟩) (n+1) cap) (n+1) ((ws++[t]).flatMap cd)/\W.grownBy W' v.ownBlock:=fun ty=>by
  obtain⟨g',cap,W',hr,h2,h3, -, -⟩:=run_append_lies (P:=prog) W 97 ty base 134 i0 _ 10 112 underlying97 hi hz0 hz1 hz2 rfl (by decide) v n (ws.flatMap cd) hown ⟨g,0,none⟩ 1 1 (cd t) rfl
   (fun j u hj=>World.news_of_block hg j u (by simpa using hj)) (FQ t h1 h2) (by omega) (by unfold maxLen;omega) (by omega) hb _ rfl
  exact⟨g',cap,W',hr,by rw[List.flatMap_append];simpa using h2,h3⟩
 obtain⟨g',cap,W',hr,h2,h3⟩:=hA 0;refine⟨g',cap,W',fun ty => ?_,h2,h3⟩
 rw[<- hr];rfl
theorem Gc {l n:Nat}{ops:Array Oper}{a:Act}{W:World}{K:Act->World->Prop}{Q:Exit->Act->World->Prop}{E:Prop}(hg:o.guard=none)(s x:Operand)(t:TypeId)
  (hop:o.op=Op.call { callee:=Callee.builtin Builtin.append,args:=#[s,x],argTypes:=#[t,t] }) (v u v':Value) (W':World) (hs:a.eval s=v) (hx:a.eval x=u)
  (hrun:∀ ty,(Builtin.append_ #[t,t] ty #[v,u]).run prog W=.ok v' W') (h:K (a.put o.dst v') W') :
  if Region.wanted o (yielded ops a.tmps)=true then Oper.wpIn (Fence.wide.inRound l) n prog o a W K Q else E:=by
 have hw:Region.wanted o (yielded ops a.tmps)=true:=by simp[Region.wanted,hg]
 rw[if_pos hw];unfold Oper.wpIn;refine⟨?_, ?_⟩
 ·simp[Oper.about,hop,resolve,Target.leads,Sem.run_pure]
 ·rw[Oper.semAt_plain _ _ _ (by rw[hop];intro c hc';cases hc')]
  simp[execOp,hop,resolve,invoke,builtin,hs,hx,hrun,Result.andThen];exact h
theorem jq {ops:Array Oper}{a:Act}{W:World}{K:Act->World->Prop}{Q:Exit->Act->World->Prop}{E:Prop}(hg:o.guard=none)(s x:Operand)(t:TypeId)
  (hop:o.op=Op.call { callee:=Callee.builtin Builtin.append,args:=#[s,x],argTypes:=#[t,t] }) (v u v':Value) (W':World) (hs:a.eval s=v) (hx:a.eval x=u)
  (hrun:∀ ty,(Builtin.append_ #[t,t] ty #[v,u]).run prog W=.ok v' W') (h:K (a.put o.dst v') W') :
  if Region.wanted o (yielded ops a.tmps)=true then Oper.wp prog o a W K Q else E:=by
 have hw:Region.wanted o (yielded ops a.tmps)=true:=by simp[Region.wanted,hg]
 rw[if_pos hw];unfold Oper.wp execOp;simp only [hop,resolve,invoke,builtin,Sem.run_bind,Sem.run_pure,Result.andThen_ok,List.map_toArray,List.map_cons,List.map_nil,hs,hx,hrun];exact h
theorem My (ws:List gy)(h:∀ t∈ws,(∃ a n c,t.2.1=.slice a n c)/\∃ a n c,t.2.2=.slice a n c):∀ u∈ws.flatMap cd,u.oneCell'=true:=by
 intro u hu;rw[List.mem_flatMap] at hu;obtain⟨t,ht,hu⟩:=hu;exact FQ t (h t ht).1 (h t ht).2 u hu
theorem C2 (W:World)(base qJ:Nat)(v v2:Value)(n n2:Nat)(ws lS:List gy)(hown:W.ownsRow base 134 10 v n (ws.flatMap cd))(hown2:W.ownsRow qJ 134 10 v2 n2 (lS.flatMap cd))(hls:mH W lS)
  (hl:n+n2<=100000) (hb:base<=W.heap.size) :
  ∃ v3 W3,(∀ ty,(Builtin.append_ #[97,97] ty #[v,v2]).run prog W=.ok v3 W3)/\W3.ownsRow base 134 10 v3 (n+n2) ((ws++lS).flatMap cd)/\W.grownBy W3 v.ownBlock/\∃ a c,v3=.slice a (n+n2) c:=by
 obtain⟨i0,hi,hz0,hz1,hz2⟩:=info_parts Fo;by_cases h0:n2=0
 ·subst h0
  obtain rfl:lS=[]:=by
   have:=hown2.1;rw[Mx] at this;exact List.eq_nil_of_length_eq_zero (by omega)
  obtain⟨a,c,rfl,hle⟩:=rK hown;obtain⟨a2,c2,rfl⟩:=aM hown2;refine⟨.slice a n c,W,fun ty => ?_,by simpa using hown,⟨rfl,rfl,rfl,aG _,fun _ _ _=>rfl⟩,a,c,by simp⟩
  refine run_append_nothing W 97 97 ty 134 i0 underlying97 hi a n c hle _ ?_
  cases a2 with
  | none=>exact Src.ofNil W underlying97 c2
  | some ad=>exact Src.ofSlice W underlying97 ad 0 c2 [] (by simp) (fun j u hj=>by simp at hj) (fun u hu=>by cases hu)
 ·obtain⟨g2,cap2,hv2, -, -⟩:=hown2.form (by omega)
  subst hv2;have hA:∀ ty,∃ g' cap W',(Builtin.append_ #[97,97] ty #[v,.slice (some g2) n2 cap2]).run prog W=.ok (.slice (some ⟨g',0,none⟩) (n+n2) cap) W' /\
    W'.ownsRow base 134 10 (.slice (some ⟨g',0,none⟩) (n+n2) cap) (n+n2) ((ws++lS).flatMap cd)/\W.grownBy W' v.ownBlock:=fun ty=>by
   obtain⟨g',cap,W',hr,h2,h3, -, -⟩:=run_append_lies (P:=prog) W 97 ty base 134 i0 _ 10 112 underlying97 hi hz0 hz1 hz2 rfl (by decide) v n (ws.flatMap cd) hown ⟨g2,0,none⟩ n2 cap2 (lS.flatMap cd) hown2.1
    (fun j u hj=>hown2.cells rfl j u hj) (My lS (fun t ht=>by
     obtain⟨a,c,h1⟩:=aM (hls t ht).1;obtain⟨a',c',h2⟩:=aM (hls t ht).2;exact⟨⟨_,_,_,h1⟩,⟨_,_,_,h2⟩⟩)) (by omega) (by unfold maxLen;omega) (by omega) hb _ rfl
   exact⟨g',cap,W',hr,by rw[List.flatMap_append];exact h2,h3⟩
  obtain⟨g',cap,W',hr,h2,h3⟩:=hA 0;refine⟨_,W',fun ty => ?_,h2,h3,_,_,rfl⟩
  rw[<- hr];rfl
theorem dr {F:Fence}{P:Program}{md:Region.Mode}{fuel:Nat}{listed:Array Bool}(i:Nat)(hr:Region.ready md ops listed=[i])(ho:ops[i]?=some o)
  (h:∀ K':Act->World->Prop,(∀ a w,wpAnyIn F n P md ops Q fuel (listed.setIfInBounds i true) a w->K' a w)->if Region.wanted o (yielded ops a.tmps)=true then Oper.wpIn F n P o a w K' Q else (∀ f,o.about P w a.eval=some f->F.fn f)/\K' (a.put o.dst undef) w):wpAnyIn F n P md ops Q (fuel+1) listed a w :=
 wpAnyIn_ready (rs:=[i]) hr (by simp) (.cons (i:=i) ho h .nil)
structure kp (w:World)(B2:Nat)(ps:List (Nat × TypeId × Value))(ms:List aK)(W:World)(v:Value)(ws:List gy):Prop where
 sent:W.heap[B2]?=some (.cells #[v] 97)
 row:W.ownsRow w.heap.size 134 10 v ms.length (ws.flatMap cd)
 msgs:ws.map Prod.fst=ms
 lists:mH W ws
 boxes:∀ q∈ps,W.heap[q.1]?=some (.cells #[q.2.2] q.2.1)
 be:ai w W
theorem Bf (hc:∀ (k:Nat) (cs:Array Value) (T:TypeId) (fz:Nat × Nat),A.heap[k]?=some (Obj.cells cs T fz)->B.heap[k]?=some (Obj.cells cs T fz))(h:A.ownsRow base e size v n xs):B.ownsRow base e size v n xs:=by
 refine⟨h.1, ?_⟩
 rcases h.2 with h0|⟨g,cap,cur,rfl,hb,hg,rest⟩
 ·exact .inl h0
 ·exact .inr ⟨g,cap,cur,rfl,hb,hc g cur e _ hg,rest⟩
theorem kp.keep {ws:List gy}(h:kp w B2 ps ms A v ws)
  (hc:∀ (k:Nat) (cs:Array Value) (T:TypeId) (fz:Nat × Nat),A.heap[k]?=some (Obj.cells cs T fz)->B.heap[k]?=some (Obj.cells cs T fz)) (hb:ai w B):kp w B2 ps ms B v ws where
 sent:=hc _ _ _ _ h.sent
 row:=Bf hc h.row
 msgs:=h.msgs
 lists:=fun t ht=>⟨Bf hc (h.lists t ht).1,Bf hc (h.lists t ht).2⟩
 boxes:=fun q hq=>hc _ _ _ _ (h.boxes q hq)
 be:=hb
theorem Dx {row:Option Nat}(hg:A.grownBy B row)(hr:∀ r,row=some r->∃ o:Obj,A.heap[r]?=some o/\o.isCells=false):∀ (k:Nat) (cs:Array Value) (T:TypeId) (fz:Nat × Nat),A.heap[k]?=some (Obj.cells cs T fz)->B.heap[k]?=some (Obj.cells cs T fz):=by
 intro k cs T fz h;refine (hg.block k (aQ h) (fun e => ?_)).trans h
 obtain⟨o,ho,hc⟩:=hr k e.symm;rw[h] at ho;injection ho with ho
 subst ho;cases hc
theorem kp.own {α : Type}(f:List α -> List aK){B0:Nat}(hB:w.heap.size<=B0):OwnFrom B0 (fun pre W=>∃ v ws,kp w B2 ps (f pre) W v ws):=by
 rintro pre A B row ⟨v,ws,h⟩ hg hr;refine⟨v,ws,h.keep (Dx hg (fun r e=>(hr r e).2)) ?_⟩
 exact h.be.grown hg h.be.size (fun k hk=>bP hB (hr k hk).1)
theorem bK (h:w.ownsRow base e size v n xs){k:Nat}(hk:v.ownBlock=some k):∃ cs,w.heap[k]?=some (.cells cs e)/\base<=k:=by
 rcases h.2 with ⟨rfl,_⟩|⟨g,_,cur,rfl,hb,hg,_⟩
 ·cases hk
 ·have:g=k:=by simpa [Value.ownBlock] using hk
  subst this;exact⟨cur,hg,hb⟩
theorem kp.step {W5 W7:World}{v':Value}{ws:List gy}(t:gy)(h:kp w B2 ps ms W v ws)
  (hb5:ai W W5) (hI:bd W5 t.2.1 t.1.af) (hL:bw W5 t.2.2 t.1.log)
  (hg:(W5.alloc (.cells (cd t).toArray 134)).grownBy W7 v.ownBlock) (ho:W7.ownsRow w.heap.size 134 10 v' (ms.length+1) ((ws++[t]).flatMap cd))
  (hps:∀ q∈ps,q.1≠B2/\q.2.1≠134) (hB2:w.heap.size<=B2) :
  W7.cell? (B2,0)=some v/\W7.frozen? (B2,0)=false/\kp w B2 ps (ms++[t.1]) (W7.setCell B2 v') v' (ws++[t])/\KeepsOthers W (W7.setCell B2 v') /\
   fL qO W (W7.setCell B2 v'):=by
 have uC:∀ k,v.ownBlock=some k->∃ cs,W.heap[k]?=some (.cells cs 134)/\w.heap.size<=k:=fun k hk=>bK h.row hk;have h7:∀ k,k<W.heap.size->v.ownBlock≠some k->W7.heap[k]?=W.heap[k]?:=fun k hk hne=>by
  rw[hg.block k (by rw[eJ];have:=hb5.size;omega) (fun e=>hne e.symm),j6 _ _ k (by have:=hb5.size;omega)]
  exact hb5.block k hk
 have h57:∀ k,k<W5.heap.size->v.ownBlock≠some k->W7.heap[k]?=W5.heap[k]?:=fun k hk hne=>by
  rw[hg.block k (by rw[eJ];omega) (fun e=>hne e.symm),j6 _ _ k hk]
 have F5:∀ (k:Nat) (cs:Array Value) (T:TypeId),W.heap[k]?=some (Obj.cells cs T)->T≠134->v.ownBlock≠some k:=fun k cs T hk hT e=>by
  obtain⟨cs',h',_⟩:=uC k e;rw[hk] at h';injection h' with h'
  injection h' with _ h'
  exact hT h'
 have Ed:B2<W.heap.size:=(aQ h.sent);have wW:W7.heap[B2]?=some (.cells #[v] 97):=(h7 B2 Ed (F5 B2 _ _ h.sent (by decide))).trans h.sent
 have hne':v'.ownBlock≠some B2:=fun e=>by
  obtain⟨cs',h',_⟩:=bK ho e;rw[wW] at h';injection h' with h'
  injection h' with _ h'
  exact absurd h' (by decide)
 have other:∀ k,k≠B2->(W7.setCell B2 v').heap[k]?=W7.heap[k]?:=fun k hk=>cJ _ _ _ k hk;have rows:∀ {T:TypeId} {size n:Nat} {u:Value} {xs:List Value},T≠134->T≠97->W5.ownsRow 0 T size u n xs->(W7.setCell B2 v').ownsRow 0 T size u n xs:=by
  intro T size n u xs hT1 Nf iB;refine⟨iB.1, ?_⟩
  rcases iB.2 with h0|⟨g,cap,cur,rfl,hb,hgg,rest⟩
  ·exact .inl h0
  ·refine .inr ⟨g,cap,cur,rfl,hb, ?_,rest⟩
   have hg5:g<W5.heap.size:=(aQ hgg);have n1:v.ownBlock≠some g:=fun e=>by
    obtain⟨cs',h',_⟩:=uC g e;rw[<- hb5.block g (aQ h'),hgg] at h';injection h' with h'
    injection h' with _ h'
    exact hT1 h'
   have n2:g≠B2:=fun e=>by
    subst e;rw[hb5.block g Ed,h.sent] at hgg;injection hgg with h'
    injection h' with _ h'
    exact Nf h'.symm
   rw[other g n2,h57 g hg5 n1];exact hgg
 have De:W.heap.size<=W7.heap.size:=by have:=hg.size;rw[eJ] at this;have:=hb5.size;omega
 refine⟨?_, ?_, ?_, ?_, ?_⟩
 ·rw[aj wW];rfl
 ·exact aW wW 0
 ·refine⟨?_, ?_, ?_, ?_, ?_, ?_⟩
  ·rw[bV W7 B2 0 _ _ _ wW];rfl
  ·rw[bG]
   exact bu ho hne' _
  ·rw[gw,h.msgs]
   rfl
  ·intro t' ht'
   rw[fE] at ht';rcases ht' with ht'|ht'
   ·have hl:=h.lists t' ht'
    exact⟨rows (by decide) (by decide) (aS hl.1 fun k _ hk=>hb5.block k hk),rows (by decide) (by decide) (aS hl.2 fun k _ hk=>hb5.block k hk)⟩
   ·simp only [gK,iP,or_false] at ht'
    subst ht';exact⟨rows (by decide) (by decide) hI,rows (by decide) (by decide) hL⟩
  ·intro q hq
   have hq0:=h.boxes q hq;rw[other q.1 (hps q hq).1,h7 q.1 (aQ hq0) (F5 _ _ _ hq0 (hps q hq).2)];exact hq0
  ·refine eE ?_ (by show w.heap.size<=B2;exact hB2) _
   refine⟨hg.os.trans (hb5.os.trans h.be.os),hg.tape.trans (hb5.tape.trans h.be.tape),hg.output.trans (hb5.output.trans h.be.output),bP h.be.size De,fun k hk => ?_⟩
   rw[h7 k (j5 hk h.be.size) (fun e=>by obtain⟨_,_,h'⟩:=uC k e;omega)]
   exact h.be.block k hk
 ·refine⟨by simpa using De,fun k o hk ho => ?_⟩
  have n1:v.ownBlock≠some k:=fun e=>by
   obtain⟨cs',h',_⟩:=uC k e;rw[hk] at h';injection h' with h'
   subst h';cases ho
  have n2:k≠B2:=fun e=>by
   subst e;rw[h.sent] at hk;injection hk with hk
   subst hk;cases ho
  rw[other k n2,h7 k (aQ hk) n1];exact hk
 ·intro k cs T fz hS hk
  have hT:T=42:=by simpa [qO] using hS
  subst hT;have n1:v.ownBlock≠some k:=fun e=>by
   obtain⟨cs',h',_⟩:=uC k e;rw[hk] at h';injection h' with h'
   injection h' with _ h'
   exact absurd h' (by decide)
  have n2:k≠B2:=fun e=>by
   subst e;rw[h.sent] at hk;injection hk with hk
   injection hk with _ hk
   exact absurd hk (by decide)
  rw[other k n2,h7 k (aQ hk) n1];exact hk
def lz (b:Nat)(vm vl:Value)(k:Nat):Prop:=k=b\/vm.ownBlock=some k\/vl.ownBlock=some k
def bO (w:World)(v v':Value):Prop:=∀ k,v'.ownBlock=some k->v.ownBlock=some k\/w.heap.size<=k
theorem bO.refl (w:World)(v:Value):bO w v v:=fun _ h=>.inl h
def eB (w w':World)(b:Nat)(own:Int)(vm vl:Value)(r':aR):Prop:=∃ bN bD,dh w' b own r' bN bD/\Moved w w' (lz b vm vl)/\bO w vm bN/\bO w vl bD
theorem eB.still {own:Int}(h:dh w b own r vm vl)(hb:ai w w'):eB w w' b own vm vl r :=
 ⟨vm,vl,h.below hb,(Moved.refl w _).below hb,bO.refl _ _,bO.refl _ _⟩
theorem bO.trans {v1 v2:Value}(h:bO w v v1)(h':bO w1 v1 v2)(hs:w.heap.size<=w1.heap.size):bO w v v2:=by
 intro k hk;rcases h' k hk with h1|h1
 ·exact h k h1
 ·exact .inr (bP hs h1)
theorem eB.then {w2:World}{own:Int}{Hz Hw:Value}{r2:aR}(hm:Moved w w1 (lz b vm vl))(g1:bO w vm Hz)(g2:bO w vl Hw)(h:eB w1 w2 b own Hz Hw r2):eB w w2 b own vm vl r2:=by
 obtain⟨UO,vq,h1,h2,h3,h4⟩:=h;refine⟨UO,vq,h1,hm.trans h2 ?_,g1.trans h3 hm.size,g2.trans h4 hm.size⟩
 intro k hk hS;rcases hS with rfl|hS|hS
 ·exact .inl rfl
 ·rcases g1 k hS with h|h
  ·exact .inr (.inl h)
  ·omega
 ·rcases g2 k hS with h|h
  ·exact .inr (.inr h)
  ·omega
theorem aY {cs:Array Value}{T:TypeId}(hb:w.heap[b]?=some (.cells cs T))(hv:w.ownsRow base e size v n xs)(he:e≠T):v.ownBlock≠some b:=by
 intro e1;obtain⟨cs',h',_⟩:=bK hv e1;rw[hb] at h';injection h' with h'
 injection h' with _ h'
 exact he h'.symm
theorem dh.set {own:Int}(h:dh w b own r vm vl)(j:Nat)(u:Value)(r':aR)(bN bD:Value)
  (hcs:(#[.int .i64 own,.int .i64 r.ah,.int .i64 r.lock,vm,vl,.int .i64 (r.base:Int),.int .i64 (r.aU:Int)]:Array Value).setIfInBounds j u=#[.int .i64 own,.int .i64 r'.ah,.int .i64 r'.lock,bN,bD,.int .i64 (r'.base:Int),.int .i64 (r'.aU:Int)])
  (h1:bd w bN r'.af) (h2:bw w bD r'.log):dh (w.setCell ⟨b,j,none⟩ u) b own r' bN bD:=by
 refine⟨?_, ?_, ?_⟩
 ·rw[bV w b j _ _ _ h.blk,hcs]
 ·exact bu h1 (aY h.blk h1 (by decide)) _
 ·exact bu h2 (aY h.blk h2 (by decide)) _
theorem Rc {j:Nat}{u:Value}(hb:S b):Moved w (w.setCell ⟨b,j,none⟩ u) S:=(Moved.refl w S).setCell ⟨b,j,none⟩ hb u
theorem a_.moved (h:a_ w base v ms)(hm:Moved w w' S)(hS:∀ k,S k->k<base)(hl:∀ ws:List gy,mH w ws->mH w' ws):a_ w' base v ms:=by
 obtain⟨ws,h1,h2,h3⟩:=h;refine⟨ws,h1,hm.owns h2 (fun k hk => ?_),hl ws h3⟩
 intro hs;have:=hS k hs;obtain⟨_,_,h'⟩:=bK h2 hk;omega
theorem zx (p n:Nat)(f:Nat->aK):(ju n p).map (fun y=>f y.val)=(fc p n).map f:=by
 unfold ju fc;rw[List.map_drop,List.map_map];apply List.ext_getElem
 ·simp
 ·intro i h1 h2
  simp
end Go.Proofs.YtgieeeeeiggoeaaGreat
namespace Go.Proofs.YtgieeeeeiggoeaaGreat
open Go.RowKit
open Tryz
def ia (a:Int)(n:Nat):List Int:=(List.range n).map (fun (i:Nat)=>a+(i:Int))
theorem Tq (a:Int)(k:Nat):ia a (k+1)=ia a k++[a+(k:Int)]:=by
 unfold ia;rw[List.range_succ,gw];rfl
theorem rU (a:Int)(n:Nat):(ia a n).length=n:=by simp[ia]
def qj (a:Int)(n k:Nat):List Value:=aJ (ia a k)++List.replicate (n-k) (.int .i64 0)
theorem Q7 (a:Int)(n k:Nat)(hk:k<n):(qj a n k)[k]?=some (.int .i64 0):=by
 unfold qj;rw[kH (by rw[fP,rU];omega),fP,rU,Nat.sub_self,List.getElem?_replicate,if_pos (by omega)]
theorem Q8 (a:Int)(n k:Nat)(hk:k<n):(qj a n k).set k (.int .i64 (a+(k:Int)))=qj a n (k+1):=by
 unfold qj;rw[Tq,lP _ _ (by rw[fP,rU];omega),fP,rU,Nat.sub_self]
 obtain⟨d,hd⟩:∃ d,n-k=d+1:=⟨n-k-1,by omega⟩
 rw[hd,List.replicate_succ,fT,show n-(k+1)=d by omega,pk]
 simp[aJ]
theorem xq (a:Int)(n:Nat)(w:World)(hn:n<=5)(ha:0<=a/\a<=1000) :
  Calls prog 106 #[.int .i64 a,.int .i64 (n:Int)] w fun e w'=>∃ c,e=.returned (.slice (some w.heap.size) n c)/\w'.ownsRow w.heap.size 3 1 (.slice (some w.heap.size) n c) n (aJ (ia a n))/\ai w w':=by
 have hmk:=run_make_row' (P:=prog) 29 3 (.int .i64 0) 8 underlying29 rD rfl .i64 .i64 n (by omega) (by omega)
 go_enter func106,ntmps106;go_wp2_with fail;go_loopw [11] (fun i wr=>∃ k:Nat,k<=n/\i=.int .i64 k/\(∃ cs:Array Value,wr.heap[w.heap.size]?=some (.cells cs 3)/\cs.toList=qj a n k)/\ai w wr) (fun i _=>n-(intOf i).toNat)
 case atStart =>
  refine⟨0,bl _,rfl,⟨_,hnw _ _, ?_⟩,(ax _ w).alloc (aG _) _⟩
  apply List.ext_getElem?;intro i;unfold qj madeCells;simp only [Array.toList_map,Array.toList_range,fe,ia,aJ,List.range_zero,List.map_nil,fH,Nat.sub_zero,List.getElem?_replicate]
  by_cases hi:i<n
  ·rw[List.getElem?_range hi,if_pos hi]
   simp[Nat.mod_one]
  ·rw[List.getElem?_eq_none (by simpa using hi),if_neg hi]
   rfl
 case round =>
  obtain⟨k,hk,rfl,⟨cs,hcs,hl⟩,hb⟩:=hrel;by_cases hlt:k<n
  ·have hk1:(k:Int)<(n:Int):=by omega
   have ck:wr.cell? ⟨w.heap.size,k,none⟩=some (.int .i64 0):=(aj hcs k).trans (by rw[<- Array.getElem?_toList,hl,Q7 a n k hlt])
   have fk:=aW hcs k;have hw:IntKind.i64.wrap (a+(k:Int))=a+(k:Int):=by rw[dV];omega
   have HC:=ae (aP hcs hl);clear hcs hl;go_wp2_with fail;go_roundw
   case rel=>exact⟨k+1,by omega,by go_num,⟨_,bV _ _ _ _ _ _ HC.out.1,by rw[Array.toList_setIfInBounds,HC.out.2,Q8 a n k hlt]⟩,hb.setCell (by exact aG _) _⟩
   case measure=>simp[intOf];omega
  ·obtain rfl:k=n:=by omega
   have HC:=ae (aP hcs hl);clear hcs hl;go_wp2_with fail;go_ret;have hcl:cs.toList=aJ (ia a k):=by rw[HC.out.2];unfold qj;simp
   have hsz:cs.size=k:=by rw[<- Array.length_toList,hcl,fP,rU]
   refine⟨k,rfl,⟨by rw[fP,rU,Nat.mul_one],.inr ⟨w.heap.size,k,cs,rfl,aG _,HC.out.1,aG _,by unfold maxLen;omega,by omega, ?_⟩⟩,hb⟩
   rw[hcl];exact jF (by rw[fP,rU];omega)
end Go.Proofs.YtgieeeeeiggoeaaGreat
namespace Go.Proofs.YtgieeeeeiggoeaaGreat
open Go.RowKit Go.Shelf
open Tryz
theorem UY (k f t ep ba vo po va:Int)(am al:Option Addr)(cm cl:Nat)(ms:List Int)(es:List aH)(base:Nat)(w:World)(hmem:bJ w (.slice am ms.length cm) ms)
  (dy:w.ownsRow base 42 5 (.slice al es.length cl) es.length (aJ (bk es))) :
  Calls prog 67 #[.agg #[.int .i64 k,.int .i64 f,.int .i64 t,.int .i64 ep,.int .i64 ba,.int .i64 vo,.int .i64 po,.int .i64 va,.slice am ms.length cm,.slice al es.length cl]] w fun e w'=>ai w w'/\e=.returned (.tuple #[.string (bs (eh k [f,t,ep,ba,vo,po,va] ms es).1),.int .i64 (eh k [f,t,ep,ba,vo,po,va] ms es).2]):=by
 obtain⟨W,hW,hbW,uE,q, -⟩:=fI w #[.int .i64 k,.int .i64 f,.int .i64 t,.int .i64 ep,.int .i64 ba,.int .i64 vo,.int .i64 po,.int .i64 va,.slice am ms.length cm,.slice al es.length cl] 134;have wS:=hmem.below hbW;have wQ:=aS dy fun k _ hk=>hbW.block k hk;have q0:=q 0;have q1:=q 1;have q2:=q 2;have q3:=q 3;have q4:=q 4;have q5:=q 5;have q6:=q 6;have q7:=q 7;have q8:=q 8;have q9:=q 9;have hws:w.heap.size<W.heap.size:=by omega
 clear q uE;by_cases hlong:1<=k/\k<=16/\ms.length<=5/\es.length<=24
 ·obtain⟨h1,h2,h3,h4⟩:=hlong
  go_enter func67,ntmps67;go_wp2_with fail;clear hW;refine (ei.1 (Nj 3 (ae (by omega)) k f t ep ba vo po va _ _ ms es base W wS wQ h1 h2 h3 h4)).mono ?_
  rintro e W2 ⟨rfl,hb2⟩;have hbw2:=hbW.trans (hb2.mono hbW.size);cases hok:jD k [f,t,ep,ba,vo,po,va] ms es with
  | false =>
   have hE:Hid (eh k [f,t,ep,ba,vo,po,va] ms es=([],1)):=qM hok;clear hok q0 q1 q2 q3 q4 q5 q6 q7 q8 q9;go_wp2_with fail;go_ret2;exact⟨hbw2,pv hE rfl⟩
  | true =>
   have hE:Hid (eh k [f,t,ep,ba,vo,po,va] ms es=(bX k [f,t,ep,ba,vo,po,va] ms es++h_ (bX k [f,t,ep,ba,vo,po,va] ms es),0)):=qN hok;have r0:=aF hb2 q0;have r1:=aF hb2 q1;have r2:=aF hb2 q2;have r3:=aF hb2 q3;have r4:=aF hb2 q4;have r5:=aF hb2 q5;have r6:=aF hb2 q6;have r7:=aF hb2 q7;have r8:=aF hb2 q8;have r9:=aF hb2 q9;have Js:=ae hok;clear hok q0 q1 q2 q3 q4 q5 q6 q7 q8 q9;go_wp2_with fail;refine (ei.1 (U1 3 (ae (by omega)) k f t ep ba vo po va am al cm cl ms es base _ (wS.below hb2) (aS wQ fun k _ hk=>hb2.block k hk) Js)).mono ?_
   rintro e W3 ⟨rfl,hb3⟩;have hbd:=sr k [f,t,ep,ba,vo,po,va] ms es;have hl1:(bX k [f,t,ep,ba,vo,po,va] ms es).length<=1000:=by rw[hbd];simp only [eu,fG];omega
   clear hbd r0 r1 r2 r3 r4 r5 r6 r7 r8 r9;have hadd:=ji (bX k [f,t,ep,ba,vo,po,va] ms es) (h_ (bX k [f,t,ep,ba,vo,po,va] ms es)) (by rw[rX];omega)
   generalize bX k [f,t,ep,ba,vo,po,va] ms es=BD at *;go_wp2_with fail;refine (BR (bs BD) _ (by rw[iy];unfold maxLen;omega)).mono ?_
   rintro e W4 ⟨rfl,hb4⟩;rw[gS];go_wp2_with fail;go_ret2;refine⟨hbw2.trans ((hb3.trans (hb4.mono hb3.size)).mono hbw2.size), ?_⟩
   rw[hE.out];rfl
 ·have hE:Hid (eh k [f,t,ep,ba,vo,po,va] ms es=([],1)):=qM (qn fun h=>hlong h.1)
  go_enter func67,ntmps67;go_wp2_with fail;clear hW;refine (Nk k f t ep ba vo po va am al ms.length cm es.length cl W hlong).mono ?_
  rintro e W2 ⟨rfl,hb2⟩;clear q0 q1 q2 q3 q4 q5 q6 q7 q8 q9;go_wp2_with fail;go_ret2;exact⟨hbW.trans (hb2.mono hbW.size),pv hE rfl⟩
theorem UX (k f t ep ba vo po va:Int)(mem log:Value)(ms:List Int)(es:List aH)(base:Nat)(w:World)(hmem:bJ w mem ms)(dy:w.ownsRow base 42 5 log es.length (aJ (bk es))) :
  Calls prog 67 #[.agg #[.int .i64 k,.int .i64 f,.int .i64 t,.int .i64 ep,.int .i64 ba,.int .i64 vo,.int .i64 po,.int .i64 va,mem,log]] w fun e w'=>ai w w'/\e=.returned (.tuple #[.string (bs (eh k [f,t,ep,ba,vo,po,va] ms es).1),.int .i64 (eh k [f,t,ep,ba,vo,po,va] ms es).2]):=by
 have ru:=hmem;obtain⟨am,cm,rfl, -⟩:=ru;obtain⟨al,cl,rfl⟩:=aM dy;exact UY k f t ep ba vo po va am al cm cl ms es base w hmem dy
end Go.Proofs.YtgieeeeeiggoeaaGreat
