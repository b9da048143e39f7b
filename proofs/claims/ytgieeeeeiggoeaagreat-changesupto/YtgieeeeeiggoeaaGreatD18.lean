import Derived.Test.YtgieeeeeiggoeaaGreatD17
set_option maxRecDepth 100000
set_option maxHeartbeats 8000000
namespace Go.Proofs.YtgieeeeeiggoeaaGreat
open Go.RowKit Go.Shelf
open Tryz
attribute [local go_sem] Oper.semAt_some
theorem LF (n:Nat)(hn:Hid (6<=n))(b:Nat)(own:Int)(r:aR)(vm vl:Value)(w:World)(h:dh w b own r vm vl)(ok:gH r)(kB:∀ x∈r.log,0<=x.client/\x.client<=3) :
  CallsIn Fence.wide n prog 286 #[b] w fun e w'=>∃ v,e=.returned v/\eB w w' b own vm vl (r.mJ own).1/\a_ w' w.heap.size v (r.mJ own).2:=by
 have ja:=ok.l;have hcl:=ok.c;have mixed:prog.follows Departure.mixedOrders=true:=by kernel_rfl
 have hbl:b<w.heap.size:=(aQ h.blk);refine callsIn_of_wp_marks func286 rfl trivial ?_ rfl
 simp only [ntmps286,jr,eu,fG,Nat.reduceAdd,Nat.reduceSub,jG,jH,jJ,jI,fH,js];gi_wp2_with fail;obtain⟨X4,ky,hb4,hs4, -, -, -, -,wO⟩:=iI (ax _ w) (.pointer (some b)) 129;have H4:X4.heap[w.heap.size]?=some (.cells #[b] 129):=by rw[<- ky];exact hnw _ _
 rw[ky];obtain⟨X5,jV,hb5,hs5, -, -, -, -,dt⟩:=iI hb4 (.slice none 0 0) 97;have H5:X5.heap[w.heap.size+1]?=some (.cells #[true] 97):=by rw[<- jV, <- hs4];exact hnw _ _
 rw[jV];clear ky jV;have qB:X5.heap[w.heap.size]?=some (.cells #[b] 129):=(dt.block _ (by omega)).trans H4
 have ub:=h.below hb5;obtain⟨al,cl,rfl,hcap⟩:=rK h.hl;have d1:=au qB 0;have d4:=au ub.blk 4;have d6:=au ub.blk 6;have hlB:=iv.cM h.hl;have HC:Hid (∀ W,W=X5.drew->Calls prog 272 #[.slice al r.log.length cl,.int .i64 (r.aU:Int)] W fun e w'=>e=.returned (.func (.func 281) #[] #[.pointer (some ⟨X5.heap.size+1,0,none⟩),X5.heap.size])/\ai X5 w'/\w'.heap.size=X5.heap.size+2 /\
   w'.heap[X5.heap.size]?=some (.cells #[.slice al r.log.length cl] 44)/\w'.heap[X5.heap.size+1]?=some (.cells #[.int .i64 (r.aU:Int)] 3)):=ae fun W hW=>by
  refine (ei.1 (D7 0 _ _ al r.log.length cl rfl W)).mono ?_
  rintro e w' ⟨rfl,rfl⟩;subst hW;refine⟨rfl,(((ax _ X5).drew).alloc (aG _) _).alloc (by simp) _,by simp, ?_,kX _ _ _⟩
  exact (j6 _ _ _ (by simp)).trans (hnw _ _)
 clear H4 hb4 wO dt;refine wpIn_wide.2 ?_
 go_region_held3 (fun w'=>w'.cell? (w.heap.size,0)=some (.pointer (some b))/\w'.cell? (b,4)=some (.slice al r.log.length cl)/\w'.cell? (b,6)=some (.int .i64 (r.aU:Int))) (first|(simp[go_sem];done)|(simp[go_sem, *];done)|go_keep) (first|(go_at_call 272;refine (HC.out _ rfl).mono ?_;rintro e X6 ⟨rfl,hb6,hs6,qC,ti⟩;have t1:=aF hb6 d1;have t4:=aF hb6 d4;have t6:=aF hb6 d6))
 gi_wp2_with fail;have zQ:X5.heap.size=w.heap.size+1+1:=by omega
 rw[zQ] at qC ti hs6;have nG:ai w X6:=hb5.trans (hb6.mono hb5.size);have HI0:kp w (w.heap.size+1) [(w.heap.size,129,.pointer (some b)),(w.heap.size+1+1,44,.slice al r.log.length cl)] [] X6 (.slice none 0 0) []:=by
  refine⟨(hb6.block _ (by omega)).trans H5,bE _ _ _ _,rfl,fun t ht=>(by cases ht), ?_,nG⟩
  intro q hq;simp only [gK,iP,or_false] at hq;rcases hq with rfl|rfl
  ·exact (hb6.block _ (aQ qB)).trans qB
  ·exact qC
 refine wpIn_rangeFunc_ownF rfl (by have:=hn.out;omega) (gf:=281) (lb:=#[.pointer (some ⟨w.heap.size+1+1+1,0,none⟩),.pointer (some ⟨w.heap.size+1+1,0,none⟩)]) rfl trivial (enters_of func281 (by kernel_rfl) rfl)
  (D8 (n-1) (w.heap.size+1+1+1) (w.heap.size+1+1) (.slice al r.log.length cl) r.log r.aU X6 (by omega) hcl (aj ti 0) (fun q hq=>by simp only [gK,iP,or_false] at hq;subst hq;exact aj qC 0) (hlB.below nG))
  iW.trans (fun W l o o' _ hl hc _=>uM _ W l o o' hl hc) (ax _ _) (fun _=>rfl)
  (fun pre W=>∃ v ws,kp w (w.heap.size+1) [(w.heap.size,129,.pointer (some b)),(w.heap.size+1+1,44,.slice al r.log.length cl)] (pre.map (fun y:Fin r.log.length=>r.dm own y.val)) W v ws)
  (fun _ _ _=>False)
  (kp.own (fun pre=>pre.map (fun y:Fin r.log.length=>r.dm own y.val)) (by have:=nG.size;omega))
  (fun c=>ownFrom_pure _ _)
  ⟨_,_,HI0⟩
  (fun x=>{ tmps:=#[.pointer (some b),.pointer (some w.heap.size),.slice none 0 0,.pointer (some ⟨w.heap.size+1,0,none⟩),.int .i64 (x.val:Int),.pointer (some b),.pointer (some b),.pointer (some ⟨b,4,none⟩),.slice al r.log.length cl,.pointer (some b),.pointer (some b),.pointer (some ⟨b,6,none⟩),.int .i64 (r.aU:Int),
   .func (.func 281) #[] #[.pointer (some ⟨w.heap.size+1+1+1,0,none⟩),.pointer (some ⟨w.heap.size+1+1,0,none⟩)],.int .i64 (x.val:Int),eP (r.log.getD x.val aH.zero),undef,undef,undef,undef,undef,undef,undef,undef,undef,undef,undef,undef,undef,undef,undef,undef,undef,undef],defers:=[] }) ?assign ?bX ?done ?stop
 case assign =>
  intro l x W K hK;unfold uY;generalize eP (r.log.getD x.val aH.zero)=u at *;gi_wp2;exact hK
 case bX =>
  rintro l pre x W ⟨v,ws,I⟩ hpl;have hln:=qS r.log.length r.aU;have c5:=au I.sent 0;have f5:W.frozen? (w.heap.size+1,0)=false:=aW I.sent 0;have c0:=au (I.boxes _ fS) 0;have HR:=ae (h.below I.be);have HI:=ae I;have Hn:Hid ((pre.map (fun y:Fin r.log.length=>r.dm own y.val)).length<=24):=ae (by rw[fF];omega)
  have HC:Hid (∀ W',W'=W.drew->CallsIn (Fence.wide.inRound l) (n-1-1-1) prog 291 #[b,.int .i64 (x.val:Int)] W' fun e W5=>e=.returned (bL (r.dm own x.val) (.slice none 0 0) (.slice none 0 0))/\ai W W5):=ae fun W' hW'=>by
   subst hW';refine (CallsIn.inRound l (ei.2 (GL b own r vm _ x.val W.drew (HR.out.below (ax _ _).drew) ok x.isLt kB))).mono ?_
   rintro e W5 ⟨rfl,h2⟩;exact⟨rfl,((ax _ _).drew).trans h2⟩
  clear I;generalize eP (r.log.getD x.val aH.zero)=u at *;have Hm:Hid ((pre++[x]).map (fun y:Fin r.log.length=>r.dm own y.val)=pre.map (fun y:Fin r.log.length=>r.dm own y.val)++[r.dm own x.val]):=ae (by simp)
  have pG:Hid ((r.dm own x.val).af=[]/\(r.dm own x.val).log=[]):=ae ⟨rfl,rfl⟩;generalize r.dm own x.val=m at *;have HW:Hid (∀ W5,ai W W5->∃ g' cap' W7,(∀ ty,(Builtin.append_ #[97,97] ty #[v,.slice (some W5.heap.size) 1 1]).run prog (W5.alloc (.cells #[m.kind,m.src,m.dst,m.ah,m.ak,m.aO,m.pos,m.value,true,true] 134))=.ok (.slice (some ⟨g',0,none⟩) (pre.length+1) cap') W7) /\
    W7.cell? (w.heap.size+1,0)=some v/\W7.frozen? (w.heap.size+1,0)=false/\W5.cell? (w.heap.size+1,0)=some v/\(∀ o,(W5.alloc o).cell? (w.heap.size+1,0)=some v) /\
    (KeepsOthers W (W7.setCell ⟨w.heap.size+1,0,none⟩ (.slice (some ⟨g',0,none⟩) (pre.length+1) cap'))/\iW [(⟨w.heap.size+1+1,0,none⟩,.slice al r.log.length cl)] W (W7.setCell ⟨w.heap.size+1,0,none⟩ (.slice (some ⟨g',0,none⟩) (pre.length+1) cap')) /\
     ∃ v ws,kp w (w.heap.size+1) [(w.heap.size,129,.pointer (some b)),(w.heap.size+1+1,44,.slice al r.log.length cl)] ((pre++[x]).map (fun y:Fin r.log.length=>r.dm own y.val)) (W7.setCell ⟨w.heap.size+1,0,none⟩ (.slice (some ⟨g',0,none⟩) (pre.length+1) cap')) v ws)):=ae (by
   intro W5 dt;have I:=HI.out;have hrow:=I.row;rw[fF] at hrow;have hbig:=dt.size;have Ff:=I.be.size;obtain⟨g',cap',W7,hrun,Au,Aj⟩:=yS (W5.alloc (.cells #[m.kind,m.src,m.dst,m.ah,m.ak,m.aO,m.pos,m.value,true,true] 134)) w.heap.size v pre.length ws (m,.slice none 0 0,.slice none 0 0) W5.heap.size
    ((aS hrow fun k _ hk=>dt.block k hk).alloc _) (hnw _ _) (by have:=Hn.out;rw[fF] at this;omega) (by simp;omega) ⟨_,_,_,rfl⟩ ⟨_,_,_,rfl⟩
   have hstep:=I.step (m,.slice none 0 0,.slice none 0 0) dt (by show bd W5 _ m.af;rw[pG.out.1];exact bd.nil _) (by show bw W5 _ m.log;rw[pG.out.2];exact bw.nil _) Aj (by rw[fF];exact Au) (by
    intro q hq;simp only [gK,iP,or_false] at hq;rcases hq with rfl|rfl
    ·exact⟨by show w.heap.size≠w.heap.size+1;omega,by show (129:TypeId)≠134;decide⟩
    ·exact⟨by show w.heap.size+1+1≠w.heap.size+1;omega,by show (44:TypeId)≠134;decide⟩) (by omega)
   refine⟨g',cap',W7,hrun,hstep.1,hstep.2.1,aF dt c5,fun o=>aF ((ax _ W5).alloc (aG _) o) (aF dt c5),hstep.2.2.2.1,⟨hstep.2.2.2.2,fun _ q hq => ?_⟩,_,_,by rw[Hm.out];exact hstep.2.2.1⟩
   simp only [gK,iP,or_false] at hq;subst hq;exact aj (hstep.2.2.1.boxes _ (List.mem_cons_of_mem _ fS)) 0)
  clear HI pG Hm Hn;unfold bL at HC;gi_wp2_with fail;refine wpIn_region_any mixed ?_
  change wpAnyIn _ _ _ _ _ _ _ _ _ (World.drew _)
  refine wpAnyIn_ready (rs:=[0,1,2]) (by kernel_rfl) (by simp) (.cons (i:=0) rfl (fun K hK => ?_) (.cons (i:=1) rfl (fun K hK => ?_) (.cons (i:=2) rfl (fun K hK => ?_) .nil)))
  go_simp;refine hK _ _ ?_;clear hK
  refine wpAnyIn_ready (rs:=[1,2]) (by kernel_rfl) (by simp) (.cons (i:=1) rfl (fun K hK => ?_) (.cons (i:=2) rfl (fun K hK => ?_) .nil))
  go_simp;refine hK _ _ ?_;clear hK
  refine dr 2 (by kernel_rfl) rfl fun K hK => ?_
  go_simp;refine hK _ _ ?_;clear hK
  rotate_left
  go_simp;refine hK _ _ ?_;clear hK
  refine dr 1 (by kernel_rfl) rfl fun K hK => ?_
  go_simp;refine hK _ _ ?_;clear hK
  rotate_left
  go_simp;refine hK _ _ ?_;clear hK
  refine wpAnyIn_ready (rs:=[0,2]) (by kernel_rfl) (by simp) (.cons (i:=0) rfl (fun K hK => ?_) (.cons (i:=2) rfl (fun K hK => ?_) .nil))
  go_simp;refine hK _ _ ?_;clear hK
  refine dr 2 (by kernel_rfl) rfl fun K hK => ?_
  go_simp;refine hK _ _ ?_;clear hK
  rotate_left
  go_simp;refine hK _ _ ?_;clear hK
  refine wpAnyIn_ready (rs:=[0,3]) (by kernel_rfl) (by simp) (.cons (i:=0) rfl (fun K hK => ?_) (.cons (i:=3) rfl (fun K hK => ?_) .nil))
  go_simp;refine hK _ _ ?_;clear hK
  rotate_left
  go_simp;refine⟨trivial,by simp[Fence.wide],(HC.out _ rfl).mono ?_⟩
  rintro e W5 ⟨rfl,dt⟩;obtain⟨g',cap',W7,hrun,r1,r2,r3,r4,hfin⟩:=HW.out W5 dt;have ie:=ae hfin;clear hfin;refine hK _ _ ?_
  clear hK;refine wpAnyIn_ready (rs:=[0,4]) (by kernel_rfl) (by simp) (.cons (i:=0) rfl (fun K hK => ?_) (.cons (i:=4) rfl (fun K hK => ?_) .nil))
  go_simp;refine hK _ _ ?_;clear hK
  refine dr 4 (by kernel_rfl) rfl fun K hK => ?_
  go_simp;refine hK _ _ ?_;clear hK
  rotate_left
  go_simp;refine hK _ _ ?_;clear hK
  refine dr 0 (by kernel_rfl) rfl fun K hK => ?_
  go_simp;refine hK _ _ ?_;clear hK
  rotate_left
  go_simp;refine hK _ _ ?_;clear hK
  refine wpAnyIn_ready (rs:=[0,1]) (by kernel_rfl) (by simp) (.cons (i:=0) rfl (fun K hK => ?_) (.cons (i:=1) rfl (fun K hK => ?_) .nil))
  go_simp;refine hK _ _ ?_;clear hK
  refine dr 1 (by kernel_rfl) rfl fun K hK => ?_
  go_simp;refine hK _ _ ?_;clear hK
  rotate_left
  go_simp;refine hK _ _ ?_;clear hK
  refine wpAnyIn_ready (rs:=[0,3]) (by kernel_rfl) (by simp) (.cons (i:=0) rfl (fun K hK => ?_) (.cons (i:=3) rfl (fun K hK => ?_) .nil))
  go_simp;refine hK _ _ ?_;clear hK
  rotate_left
  go_simp;refine⟨trivial,by simp[Fence.wide],(HC.out _ rfl).mono ?_⟩
  rintro e W5 ⟨rfl,dt⟩;obtain⟨g',cap',W7,hrun,r1,r2,r3,r4,hfin⟩:=HW.out W5 dt;have ie:=ae hfin;clear hfin;refine hK _ _ ?_
  clear hK;refine wpAnyIn_ready (rs:=[0,4]) (by kernel_rfl) (by simp) (.cons (i:=0) rfl (fun K hK => ?_) (.cons (i:=4) rfl (fun K hK => ?_) .nil))
  go_simp;refine hK _ _ ?_;clear hK
  refine dr 4 (by kernel_rfl) rfl fun K hK => ?_
  go_simp;refine hK _ _ ?_;clear hK
  rotate_left
  go_simp;refine hK _ _ ?_;clear hK
  refine dr 0 (by kernel_rfl) rfl fun K hK => ?_
  go_simp;refine hK _ _ ?_;clear hK
  rotate_left
  any_goals (
   refine dr 3 (by kernel_rfl) rfl fun K hK => ?_
   go_simp;refine⟨trivial,by simp[Fence.wide],(HC.out _ rfl).mono ?_⟩
   rintro e W5 ⟨rfl,dt⟩;obtain⟨g',cap',W7,hrun,r1,r2,r3,r4,hfin⟩:=HW.out W5 dt;have ie:=ae hfin;clear hfin;refine hK _ _ ?_
   clear hK;refine dr 4 (by kernel_rfl) rfl fun K hK => ?_
   go_simp;refine hK _ _ ?_;clear hK)
  all_goals (
   refine dr 5 (by kernel_rfl) rfl fun K hK=>Gc rfl (.tmp 16) (.tmp 20) 97 rfl _ _ _ _ (by simp[Act.eval]) (by simp[Act.eval]) hrun (hK _ _ ?_)
   refine dr 6 (by kernel_rfl) rfl fun K hK => ?_
   go_simp;refine hK _ _ ?_;clear hK
   refine (wpAnyIn_done (by kernel_rfl) ?_) _
   exact ie.out)
 case done =>
  rintro D ys W hD rfl ⟨v,ws,I⟩ hK;have c3:=au I.sent 0;have c1:=au (I.boxes _ fS) 0;have HR:=ae (h.below I.be);have c4:=au HR.out.blk 4;have c6:=au HR.out.blk 6;have f6:W.frozen? (b,6)=false:=aW HR.out.blk 6;have HI:=ae I;clear I;gi_wp2_with fail;refine wpIn_wide.2 ?_
  go_region_held3 (fun w'=>w'.cell? (w.heap.size,0)=some (.pointer (some b))/\w'.cell? (b,4)=some (.slice al r.log.length cl)) (first|(simp[go_sem];done)|(simp[go_sem, *];done)|go_keep) (fail)
  gi_wp2_with fail;obtain⟨W1,hW1⟩:∃ W1,W1=(W.setCell ⟨b,6,none⟩ (.int .i64 (r.log.length:Int))).drew:=⟨_,rfl⟩;rw[<- hW1];have hs1:W1.heap.size=W.heap.size:=by rw[hW1];simp
  have o1:∀ k,k≠b->W1.heap[k]?=W.heap[k]?:=fun k hk=>by rw[hW1];exact cJ _ _ _ k hk
  have R1:Hid (dh W1 b own { r with aU:=r.log.length } vm (.slice al r.log.length cl)):=ae (by
   rw[hW1];have:=HR.out.set 6 (.int .i64 (r.log.length:Int)) { r with aU:=r.log.length } vm _ rfl HR.out.hm HR.out.hl
   exact⟨this.blk,this.hm,this.hl⟩)
  have Ff:=HI.out.be.size;have e1:W1.cell? (w.heap.size,0)=some (.pointer (some b)):=by rw[mI (o1 _ (by omega))];exact c1
  have e3:W1.cell? (w.heap.size+1,0)=some v:=by rw[mI (o1 _ (by omega))];exact c3
  have hK1:W1.heap[D]?=some (.deferred (some [])):=by
   rw[o1 D (by have:=nG.size;omega)]
   exact hK
  have m1:Moved w W1 (lz b vm (.slice al r.log.length cl)):=by
   rw[hW1];exact (((Moved.refl w _).below HI.out.be).setCell ⟨b,6,none⟩ (.inl rfl) _).drew
  have t1:∀ {T:TypeId} {size m:Nat} {u:Value} {xs:List Value} {bs:Nat},T≠219->W.ownsRow bs T size u m xs->W1.ownsRow bs T size u m xs:=fun hT ho=>by
   rw[hW1];exact bu ho (aY HR.out.blk ho hT) _
  have kl:Hid (∀ W',W'=W1.drew->Calls prog 271 #[b] W' fun e W2=>∃ v2,e=.returned v2/\a_ W2 W1.heap.size v2 (aR.c_ { r with aU:=r.log.length } own)/\ai W1 W2):=ae fun W' hW'=>by
   subst hW';refine (tB b own { r with aU:=r.log.length } vm _ W1.drew (R1.out.below (ax _ _).drew) ⟨ok.m,ok.l,aG _⟩).mono ?_
   rintro e W2 ⟨v2,rfl,h1,h2⟩;exact⟨v2,rfl,h1,((ax _ _).drew).trans h2⟩
  have HA2:Hid (∀ W2 v2,a_ W2 W1.heap.size v2 (aR.c_ { r with aU:=r.log.length } own)->ai W1 W2->∃ v3 W3,(∀ ty,(Builtin.append_ #[97,97] ty #[v,v2]).run prog W2=.ok v3 W3)/\W2.cell? (w.heap.size+1,0)=some v /\
    ((∃ a c,v3=.slice a ((ju r.log.length r.aU).map (fun y:Fin r.log.length=>r.dm own y.val)++aR.c_ { r with aU:=r.log.length } own).length c)/\W3.heap[D]?=some (.deferred (some []))/\eB w (W3.putObj D (.deferred none)) b own vm (.slice al r.log.length cl) (r.mJ own).1/\a_ (W3.putObj D (.deferred none)) w.heap.size v3 (r.mJ own).2)):=ae (by
   intro W2 v2 hmv hb2;obtain⟨lS,Ot,hrow2,ER⟩:=hmv;have I:=HI.out;have wV:W2.ownsRow w.heap.size 134 10 v _ (ws.flatMap cd):=aS (t1 (by decide) I.row) fun k _ hk=>hb2.block k hk
   have hn1:((ju r.log.length r.aU).map (fun y:Fin r.log.length=>r.dm own y.val)).length<=24:=by rw[fF,qS];omega
   have hn2:(aR.c_ { r with aU:=r.log.length } own).length<=1:=by unfold aR.c_;split<;>simp
   have hbig:=hb2.size;obtain⟨v3,W3,hrun,ho3,hg3,hsh⟩:=C2 W2 w.heap.size W1.heap.size v v2 _ _ ws lS wV hrow2 ER (by omega) (by omega)
   have hD3:W3.heap[D]?=some (.deferred (some [])):=by
    have hDl:D<W1.heap.size:=(aQ hK1);rw[hg3.block D (by omega) (fun e => ?_),hb2.block D hDl]
    ·exact hK1
    ·obtain⟨cs',h',_⟩:=bK wV e.symm
     rw[hb2.block D hDl,hK1] at h';cases h'
   have o3:∀ (k:Nat) (cs:Array Value) (T:TypeId),T≠134->W2.heap[k]?=some (.cells cs T)->(W3.putObj D (.deferred none)).heap[k]?=some (.cells cs T):=fun k cs T hT hk=>by
    have n1:v.ownBlock≠some k:=fun e=>by
     obtain⟨cs',h',_⟩:=bK wV e;rw[hk] at h';injection h' with h'
     injection h' with _ h'
     exact hT h'
    have n2:k≠D:=fun e=>by
     subst e;rw[hb2.block k (aQ hK1),hK1] at hk;cases hk
    rw[World.putObj_heap_other n2,hg3.block k (aQ hk) (fun e=>n1 e.symm)];exact hk
   have s0:∀ {T:TypeId} {size m:Nat} {u:Value} {xs:List Value} {bs:Nat},T≠134->W2.ownsRow bs T size u m xs->(W3.putObj D (.deferred none)).ownsRow bs T size u m xs:=by
    intro T size m u xs bs hT ho;refine⟨ho.1, ?_⟩
    rcases ho.2 with h0|⟨g,cap,cur,rfl,hb,hgg,rest⟩
    ·exact .inl h0
    ·exact .inr ⟨g,cap,cur,rfl,hb,o3 g cur T hT hgg,rest⟩
   have R2:=R1.out.below hb2;have hms:ws.map Prod.fst=(ju r.log.length r.aU).map (fun y:Fin r.log.length=>r.dm own y.val):=I.msgs;have N4:(W3.putObj D (.deferred none)).ownsRow w.heap.size 134 10 v3 (((ju r.log.length r.aU).map (fun y:Fin r.log.length=>r.dm own y.val)).length+(aR.c_ { r with aU:=r.log.length } own).length) ((ws++lS).flatMap cd):=by
    refine⟨ho3.1, ?_⟩
    rcases ho3.2 with h0|⟨g,cap,cur,rfl,hb,hgg,rest⟩
    ·exact .inl h0
    ·refine .inr ⟨g,cap,cur,rfl,hb, ?_,rest⟩
     rw[World.putObj_heap_other (fun e=>by subst e;rw[hD3] at hgg;cases hgg)]
     exact hgg
   refine⟨v3,W3,hrun,aF hb2 e3, ?_,hD3, ?_, ?_⟩
   ·rw[bG];exact hsh
   ·refine⟨vm,.slice al r.log.length cl,⟨o3 _ _ _ (by decide) R2.blk,s0 (by decide) R2.hm,s0 (by decide) R2.hl⟩, ?_,bO.refl _ _,bO.refl _ _⟩
    refine⟨?_, ?_, ?_, ?_,fun k hk hS => ?_⟩
    ·exact hg3.os.trans (hb2.os.trans m1.os)
    ·exact hg3.tape.trans (hb2.tape.trans m1.tape)
    ·exact hg3.output.trans (hb2.output.trans m1.output)
    ·have:=hg3.size;simp;omega
    ·have VM:w.heap.size<=D:=by have:=nG.size;omega
     rw[World.putObj_heap_other (by omega),hg3.block k (by omega) (fun e=>by obtain⟨_,_,h'⟩:=bK wV e.symm;omega),hb2.block k (by omega)]
     exact m1.block k hk hS
   ·refine⟨ws++lS, ?_, ?_, ?_⟩
    ·rw[gw,hms,Ot,zx];rfl
    ·show World.ownsRow _ _ _ _ v3 ((fc r.aU r.log.length).map (r.dm own)++aR.c_ { r with aU:=r.log.length } own).length _
     rw[bG, <- zx];exact N4
    ·intro t ht
     rw[fE] at ht;rcases ht with ht|ht
     ·have hl:=I.lists t ht
      exact⟨s0 (by decide) (aS (t1 (by decide) hl.1) fun k _ hk=>hb2.block k hk),s0 (by decide) (aS (t1 (by decide) hl.2) fun k _ hk=>hb2.block k hk)⟩
     ·have hl:=ER t ht
      exact⟨s0 (by decide) hl.1,s0 (by decide) hl.2⟩)
  clear HI HR R1 m1 o1 hK hK1 hW1 t1;refine wpIn_wide.2 ?_
  refine wp_region_any mixed ?_
  change wpAny _ _ _ _ _ _ _ (World.drew _)
  refine wpAny_ready (rs:=[0,1]) (by kernel_rfl) (by simp) ?_
  refine AllReady.cons (i:=0) rfl (fun K hK => ?_) ?_
  ·go_simp;refine hK _ _ ?_;clear hK
   refine wpAny_ready (rs:=[1]) (by kernel_rfl) (by simp) ?_
   refine AllReady.cons (i:=1) rfl (fun K hK => ?_) ?_
   ·go_simp;refine hK _ _ ?_;clear hK
    refine wpAny_ready (rs:=[2]) (by kernel_rfl) (by simp) ?_
    refine AllReady.cons (i:=2) rfl (fun K hK => ?_) ?_
    ·go_simp
     refine (kl.out _ rfl).mono ?_
     rintro e W2 ⟨v2,rfl,hmv,hb2⟩;obtain⟨v3,W3,hrun,r3,hfin⟩:=HA2.out W2 v2 hmv hb2;have ie:=ae hfin;clear hfin;refine hK _ _ ?_
     clear hK;refine wpAny_ready (rs:=[3]) (by kernel_rfl) (by simp) ?_
     refine AllReady.cons (i:=3) rfl (fun K hK=>jq rfl (.tmp 30) (.tmp 32) 97 rfl _ _ _ _ (by simp[Act.eval]) (by simp[Act.eval]) hrun (hK _ _ ?_)) ?_
     ·refine wpAny_ready (rs:=[4]) (by kernel_rfl) (by simp) ?_
      refine AllReady.cons (i:=4) rfl (fun K hK => ?_) ?_
      ·go_simp;refine hK _ _ ?_;clear hK
       refine (wpAny_done (by kernel_rfl) ?_) _
       obtain⟨a3,c3,rfl⟩:=ie.out.1;gi_wp2_with fail;refine⟨by simp,.inl ⟨_,_,rfl,run_takeDeferred ie.out.2.1, ?_⟩⟩
       refine⟨_,results_tmp rfl _ _ _,_,rfl, ?_⟩
       exact ie.out.2.2
      exact AllReady.nil
     exact AllReady.nil
    exact AllReady.nil
   exact AllReady.nil
  refine AllReady.cons (i:=1) rfl (fun K hK => ?_) ?_
  ·go_simp;refine hK _ _ ?_;clear hK
   refine wpAny_ready (rs:=[0,2]) (by kernel_rfl) (by simp) ?_
   refine AllReady.cons (i:=0) rfl (fun K hK => ?_) ?_
   ·go_simp;refine hK _ _ ?_;clear hK
    refine wpAny_ready (rs:=[2]) (by kernel_rfl) (by simp) ?_
    refine AllReady.cons (i:=2) rfl (fun K hK => ?_) ?_
    ·go_simp
     refine (kl.out _ rfl).mono ?_
     rintro e W2 ⟨v2,rfl,hmv,hb2⟩;obtain⟨v3,W3,hrun,r3,hfin⟩:=HA2.out W2 v2 hmv hb2;have ie:=ae hfin;clear hfin;refine hK _ _ ?_
     clear hK;refine wpAny_ready (rs:=[3]) (by kernel_rfl) (by simp) ?_
     refine AllReady.cons (i:=3) rfl (fun K hK=>jq rfl (.tmp 30) (.tmp 32) 97 rfl _ _ _ _ (by simp[Act.eval]) (by simp[Act.eval]) hrun (hK _ _ ?_)) ?_
     ·refine wpAny_ready (rs:=[4]) (by kernel_rfl) (by simp) ?_
      refine AllReady.cons (i:=4) rfl (fun K hK => ?_) ?_
      ·go_simp;refine hK _ _ ?_;clear hK
       refine (wpAny_done (by kernel_rfl) ?_) _
       obtain⟨a3,c3,rfl⟩:=ie.out.1;gi_wp2_with fail;refine⟨by simp,.inl ⟨_,_,rfl,run_takeDeferred ie.out.2.1, ?_⟩⟩
       refine⟨_,results_tmp rfl _ _ _,_,rfl, ?_⟩
       exact ie.out.2.2
      exact AllReady.nil
     exact AllReady.nil
    exact AllReady.nil
   refine AllReady.cons (i:=2) rfl (fun K hK => ?_) ?_
   ·go_simp
    refine (kl.out _ rfl).mono ?_
    rintro e W2 ⟨v2,rfl,hmv,hb2⟩;obtain⟨v3,W3,hrun,r3,hfin⟩:=HA2.out W2 v2 hmv hb2;have ie:=ae hfin;clear hfin;refine hK _ _ ?_
    clear hK;refine wpAny_ready (rs:=[0]) (by kernel_rfl) (by simp) ?_
    refine AllReady.cons (i:=0) rfl (fun K hK => ?_) ?_
    ·go_simp;refine hK _ _ ?_;clear hK
     refine wpAny_ready (rs:=[3]) (by kernel_rfl) (by simp) ?_
     refine AllReady.cons (i:=3) rfl (fun K hK=>jq rfl (.tmp 30) (.tmp 32) 97 rfl _ _ _ _ (by simp[Act.eval]) (by simp[Act.eval]) hrun (hK _ _ ?_)) ?_
     ·refine wpAny_ready (rs:=[4]) (by kernel_rfl) (by simp) ?_
      refine AllReady.cons (i:=4) rfl (fun K hK => ?_) ?_
      ·go_simp;refine hK _ _ ?_;clear hK
       refine (wpAny_done (by kernel_rfl) ?_) _
       obtain⟨a3,c3,rfl⟩:=ie.out.1;gi_wp2_with fail;refine⟨by simp,.inl ⟨_,_,rfl,run_takeDeferred ie.out.2.1, ?_⟩⟩
       refine⟨_,results_tmp rfl _ _ _,_,rfl, ?_⟩
       exact ie.out.2.2
      exact AllReady.nil
     exact AllReady.nil
    exact AllReady.nil
   exact AllReady.nil
  exact AllReady.nil
 case stop =>
  rintro D c' pre W hD hpre hF hK;exact hF.elim
end Go.Proofs.YtgieeeeeiggoeaaGreat
namespace Go.Proofs.YtgieeeeeiggoeaaGreat
open Go.RowKit Go.Shelf
open Tryz
def cX (w w':World)(b:Nat)(own:Int)(vm vl:Value)(e:Ending)(p:aR × List aK):Prop :=
 ∃ v,e=.returned v/\eB w w' b own vm vl p.1/\a_ w' w.heap.size v p.2
theorem Kj (W:World)(base:Nat)(v:Value)(es:List aH)(x:aH)(g:Nat)(hown:W.ownsRow base 42 5 v es.length (aJ (bk es)))
  (hg:W.heap[g]?=some (.cells #[x.client,x.seq,x.kind,x.key,x.value] 42)) (hl:es.length<=1000) (hb:base<=W.heap.size) :
  ∃ g' cap W',(∀ ty,(Builtin.append_ #[44,44] ty #[v,.slice (some g) 1 1]).run prog W=.ok (.slice (some ⟨g',0,none⟩) (es.length+1) cap) W') /\
   W'.ownsRow base 42 5 (.slice (some ⟨g',0,none⟩) (es.length+1) cap) (es++[x]).length (aJ (bk (es++[x])))/\W.grownBy W' v.ownBlock/\(v.ownBlock=some g'\/g'=W.heap.size):=by
 obtain⟨i0,hi,hz0,hz1,hz2⟩:=info_parts uL;have hA:∀ ty,∃ g' cap W',(Builtin.append_ #[44,44] ty #[v,.slice (some g) 1 1]).run prog W=.ok (.slice (some ⟨g',0,none⟩) (es.length+1) cap) W' /\
   W'.ownsRow base 42 5 (.slice (some ⟨g',0,none⟩) (es.length+1) cap) (es++[x]).length (aJ (bk (es++[x])))/\W.grownBy W' v.ownBlock/\(v.ownBlock=some g'\/g'=W.heap.size):=fun ty=>by
  obtain⟨g',cap,W',hr,h2,h3,h4, -⟩:=run_append_lies (P:=prog) W 44 ty base 42 i0 _ 5 40 underlying44 hi hz0 hz1 hz2 rfl (by decide) v es.length (aJ (bk es)) hown ⟨g,0,none⟩ 1 1 (aJ x.nums) rfl
   (World.news_of_block hg) (kE _) (by omega) (by unfold maxLen;omega) (by omega) hb _ rfl
  exact⟨g',cap,W',hr,by rw[ou,qP,pk,bG];exact h2,h3,h4⟩
 obtain⟨g',cap,W',hr,h2,h3,h4⟩:=hA 0;refine⟨g',cap,W',fun ty => ?_,h2,h3,h4⟩
 rw[<- hr];rfl
theorem a_.base {w:World}{base base':Nat}{v:Value}{ms:List aK}(h:a_ w base v ms)(hb:base'<=base):a_ w base' v ms:=by
 obtain⟨ws,h1,h2,h3⟩:=h;exact⟨ws,h1,obs h2 hb,h3⟩
theorem Gp (b:Nat)(own:Int)(r:aR)(vm vl:Value)(x:aH)(w:World)(h:dh w b own r vm vl)(ok:gH r)(hlt:r.log.length<24)(kB:∀ y∈r.log++[x],0<=y.client/\y.client<=3) :
  Calls prog 278 #[b,eP x] w fun e w'=>cX w w' b own vm vl e (r.put own x):=by
 have mixed:prog.follows Departure.mixedOrders=true:=by kernel_rfl
 have hbl:b<w.heap.size:=(aQ h.blk);have eC:=ok.m;have hcm:=ok.c;obtain⟨al,cl,rfl⟩:=aM h.hl;obtain⟨X,hX⟩:∃ X,X=((w.alloc (.cells #[x.client,x.seq,x.kind,x.key,x.value] 42)).alloc (.cells #[x.client,x.seq,x.kind,x.key,x.value] 42)).drew:=⟨_,rfl⟩;have hbX:ai w X:=by rw[hX];exact (((ax _ w).alloc (aG _) _).alloc (by simp) _).drew
 have gJ:X.heap.size=w.heap.size+2:=by rw[hX];simp
 have EV:X.heap[w.heap.size+1]?=some (.cells #[x.client,x.seq,x.kind,x.key,x.value] 42):=by rw[hX];exact kX _ _ _
 have jm:=h.below hbX;obtain⟨g',cap',W1,hrun,ho1,hg1,ek⟩:=Kj X 0 _ r.log x (w.heap.size+1) jm.hl EV (by omega) (bl _)
 have nb:(Value.slice al r.log.length cl).ownBlock≠some b:=aY h.blk h.hl (by decide)
 have hbW1:W1.heap[b]?=some (.cells #[.int .i64 own,r.ah,r.lock,vm,.slice al r.log.length cl,.int .i64 (r.base:Int),.int .i64 (r.aU:Int)] 219):=(hg1.block b (by omega) (fun e=>nb e.symm)).trans jm.blk
 have Aq:bd W1 vm r.af:=by
  refine⟨jm.hm.1, ?_⟩
  rcases jm.hm.2 with h0|⟨g,cap,cur,hv,hb,hgg,rest⟩
  ·exact .inl h0
  ·refine .inr ⟨g,cap,cur,hv,hb, ?_,rest⟩
   rw[hg1.block g (aQ hgg) (fun e=>bM jm.hm jm.hl (by decide) g (by rw[hv];rfl) e.symm)]
   exact hgg
 have c4:=au hbW1 4;have f4:W1.frozen? (b,4)=false:=aW hbW1 4;have JH:dh W1 b own r vm (.slice al r.log.length cl)->True:=fun _=>trivial;obtain⟨W2,hW2⟩:∃ W2,W2=W1.setCell ⟨b,4,none⟩ (.slice (some g') (r.log.length+1) cap'):=⟨_,rfl⟩;have hl2:(r.log++[x]).length=r.log.length+1:=by simp
 have R2:Hid (dh W2 b own { r with log:=r.log++[x] } vm (.slice (some g') (r.log.length+1) cap')):=ae (by
  rw[hW2];refine⟨?_, ?_, ?_⟩
  ·rw[bV W1 b 4 _ _ _ hbW1];rfl
  ·exact bu Aq (aY hbW1 Aq (by decide)) _
  ·exact bu ho1 (aY hbW1 ho1 (by decide)) _)
 have M2:Hid (Moved w W2 (lz b vm (.slice al r.log.length cl))):=ae (by
  rw[hW2];refine Moved.setCell ?_ _ (.inl rfl) _
  exact ((Moved.refl w _).below hbX).grown hg1 (fun k _ e=>.inr (.inr e)))
 have G2:Hid (bO w (.slice al r.log.length cl) (.slice (some g') (r.log.length+1) cap')):=ae (by
  intro k hk;have:g'=k:=by simpa [Value.ownBlock] using hk
  subst this;rcases ek with h1|h1
  ·exact .inl h1
  ·exact .inr (by omega))
 have vS:=ae (show r.put own x=match bS r.af own with
  | some nx=>({ r with log:=r.log++[x] },[aR.forward { r with log:=r.log++[x] } own nx r.log.length])
  | none=>aR.mJ { r with log:=r.log++[x] } own from rfl)
 have d4:∀ o,(w.alloc o).cell? (b,4)=some (.slice al r.log.length cl):=fun o=>aF ((ax _ w).alloc (aG _) o) (aj h.blk 4);have hb2:∀ o o2,ai w ((w.alloc o).alloc o2):=fun o o2=>((ax _ w).alloc (aG _) o).alloc (by simp) o2
 have LQ:∀ o o2,((w.alloc o).alloc o2).cell? (b,4)=some (.slice al r.log.length cl):=fun o o2=>aF (hb2 o o2) (aj h.blk 4);rw[hX] at hrun;clear hg1 ek ho1 hbW1 Aq EV gJ jm hbX hX JH;unfold eP;go_enter func278,ntmps278;go_upto_region 1 with fail
 go_cut [7] (fun q wx=>q=.pointer (some b)/\wx=W2)
 case first =>
  go_region_law (first|(refine jq rfl (.tmp 11) (.tmp 13) 44 rfl _ _ _ _ (by simp[Act.eval]) (by simp[Act.eval]) hrun ?_))
  all_goals
   go_wp2_with fail;go_meet
  all_goals exact⟨rfl,hW2.symm⟩
 case rest =>
  obtain⟨rfl,hwx⟩:=hcut;rw[hwx];clear hwx;clear hrun c4 f4 hW2 d4 LQ hb2;have Bd:gH { r with log:=r.log++[x] }:=⟨eC,by show (r.log++[x]).length<=24;omega,by show r.aU<=(r.log++[x]).length;omega⟩
  have lG:=tI b own _ vm _ W2 R2.out Bd;have HM:({ r with log:=r.log++[x] }:aR).af=r.af:=rfl
  cases hnx:bS r.af own with
  | none =>
   have uh:Calls prog 270 #[b] W2 fun e w'=>e=.returned (.tuple #[(),.bool false])/\ai W2 w':=by
    rw[HM,hnx] at lG;exact lG
   have HP:Hid (r.put own x=aR.mJ { r with log:=r.log++[x] } own):=ae (by rw[vS.out,hnx])
   clear lG vS;go_wp2_with fail;refine uh.mono ?_
   rintro e W3 ⟨rfl,hb3⟩;clear uh;go_wp2_with fail;refine (ei.1 (LF 6 (ae (by omega)) b own _ vm _ W3 (R2.out.below hb3) Bd kB)).mono ?_
   rintro e W4 ⟨v,rfl,hto,hmo⟩;obtain⟨av,cv,hsh⟩:∃ a c,v=.slice a (aR.mJ { r with log:=r.log++[x] } own).2.length c:=by
    obtain⟨ws, -,h2, -⟩:=hmo;exact aM h2
   subst hsh;go_wp2_with fail;go_ret;have jB:Moved w W3 (lz b vm (.slice al r.log.length cl)):=M2.out.below hb3;refine⟨_,rfl, ?_, ?_⟩
   ·rw[HP.out]
    exact eB.then jB (bO.refl _ _) G2.out hto
   ·rw[HP.out]
    exact hmo.base (by have:=jB.size;omega)
  | some nx =>
   have uh:Calls prog 270 #[b] W2 fun e w'=>e=.returned (.tuple #[.int .i64 nx,.bool true])/\ai W2 w':=by
    rw[HM,hnx] at lG;exact lG
   have HP:Hid (r.put own x=({ r with log:=r.log++[x] },[aR.forward { r with log:=r.log++[x] } own nx r.log.length])):=ae (by rw[vS.out,hnx])
   clear lG vS;go_wp2_with fail;refine uh.mono ?_
   rintro e W3 ⟨rfl,hb3⟩;clear uh;have R3:=R2.out.below hb3;have c4:=au R3.blk 4;have hf:=D2 b own _ vm _ nx r.log.length W3 R3 Bd (by show r.log.length<(r.log++[x]).length;omega)
   have pG:Hid ((aR.forward { r with log:=r.log++[x] } own nx r.log.length).af=[]):=ae rfl
   generalize aR.forward { r with log:=r.log++[x] } own nx r.log.length=m at *
   unfold bL at hf;clear R3;go_wp2_with fail;refine hf.mono ?_
   rintro e W4 ⟨bD,rfl,hlo,hb4⟩;obtain⟨a6,c6,rfl⟩:=aM hlo;go_wp2_with fail;go_ret;have zX:=hb3.trans (hb4.mono hb3.size);have hb5:ai W2 (W4.alloc (.cells (cd (m,.slice none 0 0,.slice a6 m.log.length c6)).toArray 134)):=zX.alloc zX.size _;refine⟨_,rfl, ?_, ?_⟩
   ·rw[HP.out]
    exact eB.then M2.out (bO.refl _ _) G2.out (eB.still R2.out hb5)
   ·rw[HP.out]
    exact a_.one m _ _ (hnw _ _) (by have:=M2.out.size;have:=zX.size;omega) (by rw[pG.out];exact bd.nil _) (hlo.alloc _)
end Go.Proofs.YtgieeeeeiggoeaaGreat
