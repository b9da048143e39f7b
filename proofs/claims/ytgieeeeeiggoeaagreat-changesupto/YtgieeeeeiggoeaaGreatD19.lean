import Derived.Test.YtgieeeeeiggoeaaGreatD17
set_option maxRecDepth 100000
set_option maxHeartbeats 4000000
namespace Go.Proofs.YtgieeeeeiggoeaaGreat
open Go.RowKit Go.Shelf
open Tryz
attribute [local go_sem] Oper.semAt_some
theorem Uw (n:Nat)(hn:Hid (6<=n))(b:Nat)(own:Int)(r:aR)(vm vl:Value)(w:World)(h:dh w b own r vm vl)(ok:gH r)(hlv:r.live own=true)(nx:Int)(hnx:bS r.af own=some nx) :
  CallsIn Fence.wide n prog 262 #[b] w fun e w'=>∃ v,e=.returned v/\a_ w' w.heap.size v ((fc r.aU r.log.length).map (r.forward own nx))/\ai w w':=by
 have ja:=ok.l;have hcl:=ok.c;have mixed:prog.follows Departure.mixedOrders=true:=by kernel_rfl
 refine callsIn_of_wp_marks func262 rfl trivial ?_ rfl
 simp only [ntmps262,jr,eu,fG,Nat.reduceAdd,Nat.reduceSub,jG,jH,jJ,jI,fH,js];gi_wp2_with fail;obtain⟨X1,hX1,hb1,hs1,c1,f1,k1, -,hb1'⟩:=iI (ax _ w) (.pointer (some b)) 129;have H1:X1.heap[w.heap.size]?=some (.cells #[b] 129):=by rw[<- hX1];exact hnw _ _
 rw[hX1];clear hX1;refine⟨trivial,by simp[Fence.wide],(ei.2 (sL b own r vm vl X1 (h.below hb1) ok)).mono ?_⟩
 rintro e X2 ⟨rfl,q2,rfl⟩;rw[hlv];have hb2:ai w (X1.drewN q2):=aV hb1 _;have H2:(X1.drewN q2).heap[w.heap.size]?=some (.cells #[b] 129):=H1;have hs2:(X1.drewN q2).heap.size=w.heap.size+1:=hs1;generalize X1.drewN q2=X2 at *;have c2:=au H2 0;clear c1 f1 k1 hb1' hb1 H1 hs1;gi_wp2_with fail;refine⟨trivial,by simp[Fence.wide],(ei.2 (tI b own r vm vl X2 (h.below hb2) ok)).mono ?_⟩
 rintro e X3 ⟨rfl,hb3⟩;rw[hnx];have hw3:ai w X3:=hb2.trans (hb3.mono hb2.size);have H3:X3.heap[w.heap.size]?=some (.cells #[b] 129):=(hb3.block _ (by omega)).trans H2
 have c3:=au H3 0;clear c2 H2 hb3 hb2 hs2;gi_wp2_with fail;obtain⟨X4,ky,hb4,hs4, -, -, -, -,wO⟩:=iI hw3 (.int .i64 nx) 3;have H4:X4.heap[X3.heap.size]?=some (.cells #[.int .i64 nx] 3):=by rw[<- ky];exact hnw _ _
 rw[ky];obtain⟨X5,jV,hb5,hs5, -, -, -, -,dt⟩:=iI hb4 (.slice none 0 0) 97;have H5:X5.heap[X3.heap.size+1]?=some (.cells #[true] 97):=by rw[<- jV, <- hs4];exact hnw _ _
 rw[jV];clear ky jV;have qB:X5.heap[w.heap.size]?=some (.cells #[b] 129):=(dt.block _ (by have:=hw3.size;have:=(aQ H3);omega)).trans ((wO.block _ (aQ H3)).trans H3)
 have Ck:X5.heap[X3.heap.size]?=some (.cells #[.int .i64 nx] 3):=(dt.block _ (by omega)).trans H4
 have ub:=h.below hb5;obtain⟨al,cl,rfl,hcap⟩:=rK h.hl;have d1:=au qB 0;have d4:=au ub.blk 4;have d6:=au ub.blk 6;have hlB:=iv.cM h.hl;have HC:Hid (∀ W,W=X5.drew->Calls prog 272 #[.slice al r.log.length cl,.int .i64 (r.aU:Int)] W fun e w'=>e=.returned (.func (.func 281) #[] #[.pointer (some ⟨X5.heap.size+1,0,none⟩),X5.heap.size])/\ai X5 w'/\w'.heap.size=X5.heap.size+2 /\
   w'.heap[X5.heap.size]?=some (.cells #[.slice al r.log.length cl] 44)/\w'.heap[X5.heap.size+1]?=some (.cells #[.int .i64 (r.aU:Int)] 3)):=ae fun W hW=>by
  refine (ei.1 (D7 0 _ _ al r.log.length cl rfl W)).mono ?_
  rintro e w' ⟨rfl,rfl⟩;subst hW;refine⟨rfl,(((ax _ X5).drew).alloc (aG _) _).alloc (by simp) _,by simp, ?_,kX _ _ _⟩
  exact (j6 _ _ _ (by simp)).trans (hnw _ _)
 have hwl:w.heap.size<X3.heap.size:=(aQ H3);clear c3 H3 H4 hb4 wO dt hw3;refine wpIn_wide.2 ?_
 go_region_held3 (fun w'=>w'.cell? (w.heap.size,0)=some (.pointer (some b))/\w'.cell? (b,4)=some (.slice al r.log.length cl)/\w'.cell? (b,6)=some (.int .i64 (r.aU:Int))) (first|(simp[go_sem];done)|(simp[go_sem, *];done)|go_keep) (first|(go_at_call 272;refine (HC.out _ rfl).mono ?_;rintro e X6 ⟨rfl,hb6,hs6,qC,ti⟩;have t1:=aF hb6 d1;have t4:=aF hb6 d4;have t6:=aF hb6 d6))
 gi_wp2_with fail;have zQ:X5.heap.size=X3.heap.size+1+1:=by omega
 rw[zQ] at qC ti hs6;have nG:ai w X6:=hb5.trans (hb6.mono hb5.size);have HI0:kp w (X3.heap.size+1) [(w.heap.size,129,.pointer (some b)),(X3.heap.size,3,.int .i64 nx),(X3.heap.size+1+1,44,.slice al r.log.length cl)] [] X6 (.slice none 0 0) []:=by
  refine⟨(hb6.block _ (by omega)).trans H5,bE _ _ _ _,rfl,fun t ht=>(by cases ht), ?_,nG⟩
  intro q hq;simp only [gK,iP,or_false] at hq;rcases hq with rfl|rfl|rfl
  ·exact (hb6.block _ (aQ qB)).trans qB
  ·exact (hb6.block _ (aQ Ck)).trans Ck
  ·exact qC
 refine wpIn_rangeFunc_ownF rfl (by have:=hn.out;omega) (gf:=281) (lb:=#[.pointer (some ⟨X3.heap.size+1+1+1,0,none⟩),.pointer (some ⟨X3.heap.size+1+1,0,none⟩)]) rfl trivial (enters_of func281 (by kernel_rfl) rfl)
  (D8 (n-1) (X3.heap.size+1+1+1) (X3.heap.size+1+1) (.slice al r.log.length cl) r.log r.aU X6 (by omega) hcl (aj ti 0) (fun q hq=>by simp only [gK,iP,or_false] at hq;subst hq;exact aj qC 0) (hlB.below nG))
  iW.trans (fun W l o o' _ hl hc _=>uM _ W l o o' hl hc) (ax _ _) (fun _=>rfl)
  (fun pre W=>∃ v ws,kp w (X3.heap.size+1) [(w.heap.size,129,.pointer (some b)),(X3.heap.size,3,.int .i64 nx),(X3.heap.size+1+1,44,.slice al r.log.length cl)] (pre.map (fun y:Fin r.log.length=>r.forward own nx y.val)) W v ws)
  (fun _ _ _=>False)
  (kp.own (fun pre=>pre.map (fun y:Fin r.log.length=>r.forward own nx y.val)) (by have:=nG.size;omega))
  (fun c=>ownFrom_pure _ _)
  ⟨_,_,HI0⟩
  (fun x=>{ tmps:=#[.pointer (some b),.pointer (some w.heap.size),.slice none 0 0,.pointer (some X3.heap.size),.bool true,.pointer (some ⟨X3.heap.size+1,0,none⟩),.int .i64 (x.val:Int),.pointer (some b),.bool true,.bool false,
   .tuple #[.int .i64 nx,.bool true],.pointer (some b),.tuple #[.int .i64 nx,.bool true],.int .i64 nx,.bool true,.bool true,.bool false,undef,undef,.pointer (some b),.pointer (some b),.pointer (some ⟨b,4,none⟩),.slice al r.log.length cl,.pointer (some b),.pointer (some b),.pointer (some ⟨b,6,none⟩),.int .i64 (r.aU:Int),
   .func (.func 281) #[] #[.pointer (some ⟨X3.heap.size+1+1+1,0,none⟩),.pointer (some ⟨X3.heap.size+1+1,0,none⟩)],.int .i64 (x.val:Int),eP (r.log.getD x.val aH.zero),undef,undef,undef,undef,undef,undef,undef,undef],defers:=[] }) ?assign ?bX ?done ?stop
 case assign =>
  intro l x W K hK;unfold uY;generalize eP (r.log.getD x.val aH.zero)=u at *;gi_wp2;exact hK
 case bX =>
  rintro l pre x W ⟨v,ws,I⟩ hpl;have hln:=qS r.log.length r.aU;have c5:=au I.sent 0;have f5:W.frozen? (X3.heap.size+1,0)=false:=aW I.sent 0;have c0:=au (I.boxes _ fS) 0;have c1:=au (I.boxes _ (List.mem_cons_of_mem _ fS)) 0;have HR:=ae (h.below I.be);have HI:=ae I;have Hn:Hid ((pre.map (fun y:Fin r.log.length=>r.forward own nx y.val)).length<=24):=ae (by rw[fF];omega)
  have HC:Hid (∀ W',W'=W.drew->CallsIn (Fence.wide.inRound l) (n-1-1-1) prog 273 #[b,.int .i64 nx,.int .i64 (x.val:Int)] W' fun e W5=>∃ a6 c6,e=.returned (bL (r.forward own nx x.val) (.slice none 0 0) (.slice a6 1 c6))/\bw W5 (.slice a6 1 c6) (r.forward own nx x.val).log/\ai W W5):=ae fun W' hW'=>by
   subst hW';refine (CallsIn.inRound l (ei.2 (D2 b own r vm _ nx x.val W.drew (HR.out.below (ax _ _).drew) ok x.isLt))).mono ?_
   rintro e W5 ⟨bD,rfl,h1,h2⟩;obtain⟨a6,c6,rfl⟩:=aM h1;exact⟨a6,c6,rfl,h1,((ax _ _).drew).trans h2⟩
  clear I;generalize eP (r.log.getD x.val aH.zero)=u at *;have Hm:Hid ((pre++[x]).map (fun y:Fin r.log.length=>r.forward own nx y.val)=pre.map (fun y:Fin r.log.length=>r.forward own nx y.val)++[r.forward own nx x.val]):=ae (by simp)
  have pG:Hid ((r.forward own nx x.val).af=[]):=ae rfl;generalize r.forward own nx x.val=m at *;have HW:Hid (∀ W5 a6 c6,bw W5 (.slice a6 1 c6) m.log->ai W W5->∃ g' cap' W7,(∀ ty,(Builtin.append_ #[97,97] ty #[v,.slice (some W5.heap.size) 1 1]).run prog (W5.alloc (.cells #[m.kind,m.src,m.dst,m.ah,m.ak,m.aO,m.pos,m.value,true,.slice a6 1 c6] 134))=.ok (.slice (some ⟨g',0,none⟩) (pre.length+1) cap') W7) /\
    W7.cell? (X3.heap.size+1,0)=some v/\W7.frozen? (X3.heap.size+1,0)=false/\W5.cell? (X3.heap.size+1,0)=some v/\(∀ o,(W5.alloc o).cell? (X3.heap.size+1,0)=some v) /\
    (KeepsOthers W (W7.setCell ⟨X3.heap.size+1,0,none⟩ (.slice (some ⟨g',0,none⟩) (pre.length+1) cap'))/\iW [(⟨X3.heap.size+1+1,0,none⟩,.slice al r.log.length cl)] W (W7.setCell ⟨X3.heap.size+1,0,none⟩ (.slice (some ⟨g',0,none⟩) (pre.length+1) cap')) /\
     ∃ v ws,kp w (X3.heap.size+1) [(w.heap.size,129,.pointer (some b)),(X3.heap.size,3,.int .i64 nx),(X3.heap.size+1+1,44,.slice al r.log.length cl)] ((pre++[x]).map (fun y:Fin r.log.length=>r.forward own nx y.val)) (W7.setCell ⟨X3.heap.size+1,0,none⟩ (.slice (some ⟨g',0,none⟩) (pre.length+1) cap')) v ws)):=ae (by
   intro W5 a6 c6 hlo dt;have I:=HI.out;have hrow:=I.row;rw[fF] at hrow;have hbig:=dt.size;have Ff:=I.be.size;obtain⟨g',cap',W7,hrun,Au,Aj⟩:=yS (W5.alloc (.cells #[m.kind,m.src,m.dst,m.ah,m.ak,m.aO,m.pos,m.value,true,.slice a6 1 c6] 134)) w.heap.size v pre.length ws (m,.slice none 0 0,.slice a6 1 c6) W5.heap.size
    ((aS hrow fun k _ hk=>dt.block k hk).alloc _) (hnw _ _) (by have:=Hn.out;rw[fF] at this;omega) (by simp;omega) ⟨_,_,_,rfl⟩ ⟨_,_,_,rfl⟩
   have hstep:=I.step (m,.slice none 0 0,.slice a6 1 c6) dt (by show bd W5 _ m.af;rw[pG.out];exact bd.nil _) hlo Aj (by rw[fF];exact Au) (by
    intro q hq;simp only [gK,iP,or_false] at hq;rcases hq with rfl|rfl|rfl
    ·exact⟨by show w.heap.size≠X3.heap.size+1;omega,by show (129:TypeId)≠134;decide⟩
    ·exact⟨by show X3.heap.size≠X3.heap.size+1;omega,by show (3:TypeId)≠134;decide⟩
    ·exact⟨by show X3.heap.size+1+1≠X3.heap.size+1;omega,by show (44:TypeId)≠134;decide⟩) (by omega)
   refine⟨g',cap',W7,hrun,hstep.1,hstep.2.1,aF dt c5,fun o=>aF ((ax _ W5).alloc (aG _) o) (aF dt c5),hstep.2.2.2.1,⟨hstep.2.2.2.2,fun _ q hq => ?_⟩,_,_,by rw[Hm.out];exact hstep.2.2.1⟩
   simp only [gK,iP,or_false] at hq;subst hq;exact aj (hstep.2.2.1.boxes _ (List.mem_cons_of_mem _ (List.mem_cons_of_mem _ fS))) 0)
  clear HI pG Hm Hn;unfold bL at HC;gi_wp2_with fail;refine wpIn_region_any mixed ?_
  change wpAnyIn _ _ _ _ _ _ _ _ _ (World.drew _)
  refine wpAnyIn_ready (rs:=[0,1,2,3]) (by kernel_rfl) (by simp) (.cons (i:=0) rfl (fun K hK => ?_) (.cons (i:=1) rfl (fun K hK => ?_) (.cons (i:=2) rfl (fun K hK => ?_) (.cons (i:=3) rfl (fun K hK => ?_) .nil))))
  go_simp;refine hK _ _ ?_;clear hK
  refine wpAnyIn_ready (rs:=[1,2,3]) (by kernel_rfl) (by simp) (.cons (i:=1) rfl (fun K hK => ?_) (.cons (i:=2) rfl (fun K hK => ?_) (.cons (i:=3) rfl (fun K hK => ?_) .nil)))
  go_simp;refine hK _ _ ?_;clear hK
  refine wpAnyIn_ready (rs:=[2,3]) (by kernel_rfl) (by simp) (.cons (i:=2) rfl (fun K hK => ?_) (.cons (i:=3) rfl (fun K hK => ?_) .nil))
  go_simp;refine hK _ _ ?_;clear hK
  refine dr 3 (by kernel_rfl) rfl fun K hK => ?_
  go_simp;refine hK _ _ ?_;clear hK
  rotate_left
  go_simp;refine hK _ _ ?_;clear hK
  refine dr 2 (by kernel_rfl) rfl fun K hK => ?_
  go_simp;refine hK _ _ ?_;clear hK
  rotate_left
  go_simp;refine hK _ _ ?_;clear hK
  refine wpAnyIn_ready (rs:=[1,3]) (by kernel_rfl) (by simp) (.cons (i:=1) rfl (fun K hK => ?_) (.cons (i:=3) rfl (fun K hK => ?_) .nil))
  go_simp;refine hK _ _ ?_;clear hK
  refine dr 3 (by kernel_rfl) rfl fun K hK => ?_
  go_simp;refine hK _ _ ?_;clear hK
  rotate_left
  go_simp;refine hK _ _ ?_;clear hK
  refine dr 1 (by kernel_rfl) rfl fun K hK => ?_
  go_simp;refine hK _ _ ?_;clear hK
  rotate_left
  go_simp;refine hK _ _ ?_;clear hK
  refine wpAnyIn_ready (rs:=[1,2]) (by kernel_rfl) (by simp) (.cons (i:=1) rfl (fun K hK => ?_) (.cons (i:=2) rfl (fun K hK => ?_) .nil))
  go_simp;refine hK _ _ ?_;clear hK
  refine dr 2 (by kernel_rfl) rfl fun K hK => ?_
  go_simp;refine hK _ _ ?_;clear hK
  rotate_left
  go_simp;refine hK _ _ ?_;clear hK
  refine dr 1 (by kernel_rfl) rfl fun K hK => ?_
  go_simp;refine hK _ _ ?_;clear hK
  rotate_left
  go_simp;refine hK _ _ ?_;clear hK
  refine wpAnyIn_ready (rs:=[0,2,3]) (by kernel_rfl) (by simp) (.cons (i:=0) rfl (fun K hK => ?_) (.cons (i:=2) rfl (fun K hK => ?_) (.cons (i:=3) rfl (fun K hK => ?_) .nil)))
  go_simp;refine hK _ _ ?_;clear hK
  refine wpAnyIn_ready (rs:=[2,3]) (by kernel_rfl) (by simp) (.cons (i:=2) rfl (fun K hK => ?_) (.cons (i:=3) rfl (fun K hK => ?_) .nil))
  go_simp;refine hK _ _ ?_;clear hK
  refine dr 3 (by kernel_rfl) rfl fun K hK => ?_
  go_simp;refine hK _ _ ?_;clear hK
  rotate_left
  go_simp;refine hK _ _ ?_;clear hK
  refine dr 2 (by kernel_rfl) rfl fun K hK => ?_
  go_simp;refine hK _ _ ?_;clear hK
  rotate_left
  go_simp;refine hK _ _ ?_;clear hK
  refine wpAnyIn_ready (rs:=[0,3]) (by kernel_rfl) (by simp) (.cons (i:=0) rfl (fun K hK => ?_) (.cons (i:=3) rfl (fun K hK => ?_) .nil))
  go_simp;refine hK _ _ ?_;clear hK
  refine dr 3 (by kernel_rfl) rfl fun K hK => ?_
  go_simp;refine hK _ _ ?_;clear hK
  rotate_left
  go_simp;refine hK _ _ ?_;clear hK
  refine wpAnyIn_ready (rs:=[0,4]) (by kernel_rfl) (by simp) (.cons (i:=0) rfl (fun K hK => ?_) (.cons (i:=4) rfl (fun K hK => ?_) .nil))
  go_simp;refine hK _ _ ?_;clear hK
  rotate_left
  go_simp;refine⟨trivial,by simp[Fence.wide],(HC.out _ rfl).mono ?_⟩
  rintro e W5 ⟨a6,c6,rfl,hlo,dt⟩;obtain⟨g',cap',W7,hrun,r1,r2,r3,r4,hfin⟩:=HW.out W5 a6 c6 hlo dt;have ie:=ae hfin;clear hfin;refine hK _ _ ?_
  clear hK;refine wpAnyIn_ready (rs:=[0,5]) (by kernel_rfl) (by simp) (.cons (i:=0) rfl (fun K hK => ?_) (.cons (i:=5) rfl (fun K hK => ?_) .nil))
  go_simp;refine hK _ _ ?_;clear hK
  refine dr 5 (by kernel_rfl) rfl fun K hK => ?_
  go_simp;refine hK _ _ ?_;clear hK
  rotate_left
  go_simp;refine hK _ _ ?_;clear hK
  refine dr 0 (by kernel_rfl) rfl fun K hK => ?_
  go_simp;refine hK _ _ ?_;clear hK
  rotate_left
  go_simp;refine hK _ _ ?_;clear hK
  refine wpAnyIn_ready (rs:=[0,2]) (by kernel_rfl) (by simp) (.cons (i:=0) rfl (fun K hK => ?_) (.cons (i:=2) rfl (fun K hK => ?_) .nil))
  go_simp;refine hK _ _ ?_;clear hK
  refine dr 2 (by kernel_rfl) rfl fun K hK => ?_
  go_simp;refine hK _ _ ?_;clear hK
  rotate_left
  go_simp;refine hK _ _ ?_;clear hK
  refine wpAnyIn_ready (rs:=[0,4]) (by kernel_rfl) (by simp) (.cons (i:=0) rfl (fun K hK => ?_) (.cons (i:=4) rfl (fun K hK => ?_) .nil))
  go_simp;refine hK _ _ ?_;clear hK
  rotate_left
  go_simp;refine⟨trivial,by simp[Fence.wide],(HC.out _ rfl).mono ?_⟩
  rintro e W5 ⟨a6,c6,rfl,hlo,dt⟩;obtain⟨g',cap',W7,hrun,r1,r2,r3,r4,hfin⟩:=HW.out W5 a6 c6 hlo dt;have ie:=ae hfin;clear hfin;refine hK _ _ ?_
  clear hK;refine wpAnyIn_ready (rs:=[0,5]) (by kernel_rfl) (by simp) (.cons (i:=0) rfl (fun K hK => ?_) (.cons (i:=5) rfl (fun K hK => ?_) .nil))
  go_simp;refine hK _ _ ?_;clear hK
  refine dr 5 (by kernel_rfl) rfl fun K hK => ?_
  go_simp;refine hK _ _ ?_;clear hK
  rotate_left
  go_simp;refine hK _ _ ?_;clear hK
  refine dr 0 (by kernel_rfl) rfl fun K hK => ?_
  go_simp;refine hK _ _ ?_;clear hK
  rotate_left
  go_simp;refine hK _ _ ?_;clear hK
  refine wpAnyIn_ready (rs:=[0,1,3]) (by kernel_rfl) (by simp) (.cons (i:=0) rfl (fun K hK => ?_) (.cons (i:=1) rfl (fun K hK => ?_) (.cons (i:=3) rfl (fun K hK => ?_) .nil)))
  go_simp;refine hK _ _ ?_;clear hK
  refine wpAnyIn_ready (rs:=[1,3]) (by kernel_rfl) (by simp) (.cons (i:=1) rfl (fun K hK => ?_) (.cons (i:=3) rfl (fun K hK => ?_) .nil))
  go_simp;refine hK _ _ ?_;clear hK
  refine dr 3 (by kernel_rfl) rfl fun K hK => ?_
  go_simp;refine hK _ _ ?_;clear hK
  rotate_left
  go_simp;refine hK _ _ ?_;clear hK
  refine dr 1 (by kernel_rfl) rfl fun K hK => ?_
  go_simp;refine hK _ _ ?_;clear hK
  rotate_left
  go_simp;refine hK _ _ ?_;clear hK
  refine wpAnyIn_ready (rs:=[0,3]) (by kernel_rfl) (by simp) (.cons (i:=0) rfl (fun K hK => ?_) (.cons (i:=3) rfl (fun K hK => ?_) .nil))
  go_simp;refine hK _ _ ?_;clear hK
  refine dr 3 (by kernel_rfl) rfl fun K hK => ?_
  go_simp;refine hK _ _ ?_;clear hK
  rotate_left
  go_simp;refine hK _ _ ?_;clear hK
  refine wpAnyIn_ready (rs:=[0,4]) (by kernel_rfl) (by simp) (.cons (i:=0) rfl (fun K hK => ?_) (.cons (i:=4) rfl (fun K hK => ?_) .nil))
  go_simp;refine hK _ _ ?_;clear hK
  rotate_left
  go_simp;refine⟨trivial,by simp[Fence.wide],(HC.out _ rfl).mono ?_⟩
  rintro e W5 ⟨a6,c6,rfl,hlo,dt⟩;obtain⟨g',cap',W7,hrun,r1,r2,r3,r4,hfin⟩:=HW.out W5 a6 c6 hlo dt;have ie:=ae hfin;clear hfin;refine hK _ _ ?_
  clear hK;refine wpAnyIn_ready (rs:=[0,5]) (by kernel_rfl) (by simp) (.cons (i:=0) rfl (fun K hK => ?_) (.cons (i:=5) rfl (fun K hK => ?_) .nil))
  go_simp;refine hK _ _ ?_;clear hK
  refine dr 5 (by kernel_rfl) rfl fun K hK => ?_
  go_simp;refine hK _ _ ?_;clear hK
  rotate_left
  go_simp;refine hK _ _ ?_;clear hK
  refine dr 0 (by kernel_rfl) rfl fun K hK => ?_
  go_simp;refine hK _ _ ?_;clear hK
  rotate_left
  go_simp;refine hK _ _ ?_;clear hK
  refine wpAnyIn_ready (rs:=[0,1]) (by kernel_rfl) (by simp) (.cons (i:=0) rfl (fun K hK => ?_) (.cons (i:=1) rfl (fun K hK => ?_) .nil))
  go_simp;refine hK _ _ ?_;clear hK
  refine dr 1 (by kernel_rfl) rfl fun K hK => ?_
  go_simp;refine hK _ _ ?_;clear hK
  rotate_left
  go_simp;refine hK _ _ ?_;clear hK
  refine wpAnyIn_ready (rs:=[0,4]) (by kernel_rfl) (by simp) (.cons (i:=0) rfl (fun K hK => ?_) (.cons (i:=4) rfl (fun K hK => ?_) .nil))
  go_simp;refine hK _ _ ?_;clear hK
  rotate_left
  go_simp;refine⟨trivial,by simp[Fence.wide],(HC.out _ rfl).mono ?_⟩
  rintro e W5 ⟨a6,c6,rfl,hlo,dt⟩;obtain⟨g',cap',W7,hrun,r1,r2,r3,r4,hfin⟩:=HW.out W5 a6 c6 hlo dt;have ie:=ae hfin;clear hfin;refine hK _ _ ?_
  clear hK;refine wpAnyIn_ready (rs:=[0,5]) (by kernel_rfl) (by simp) (.cons (i:=0) rfl (fun K hK => ?_) (.cons (i:=5) rfl (fun K hK => ?_) .nil))
  go_simp;refine hK _ _ ?_;clear hK
  refine dr 5 (by kernel_rfl) rfl fun K hK => ?_
  go_simp;refine hK _ _ ?_;clear hK
  rotate_left
  go_simp;refine hK _ _ ?_;clear hK
  refine dr 0 (by kernel_rfl) rfl fun K hK => ?_
  go_simp;refine hK _ _ ?_;clear hK
  rotate_left
  go_simp;refine hK _ _ ?_;clear hK
  refine wpAnyIn_ready (rs:=[0,1,2]) (by kernel_rfl) (by simp) (.cons (i:=0) rfl (fun K hK => ?_) (.cons (i:=1) rfl (fun K hK => ?_) (.cons (i:=2) rfl (fun K hK => ?_) .nil)))
  go_simp;refine hK _ _ ?_;clear hK
  refine wpAnyIn_ready (rs:=[1,2]) (by kernel_rfl) (by simp) (.cons (i:=1) rfl (fun K hK => ?_) (.cons (i:=2) rfl (fun K hK => ?_) .nil))
  go_simp;refine hK _ _ ?_;clear hK
  refine dr 2 (by kernel_rfl) rfl fun K hK => ?_
  go_simp;refine hK _ _ ?_;clear hK
  rotate_left
  go_simp;refine hK _ _ ?_;clear hK
  refine dr 1 (by kernel_rfl) rfl fun K hK => ?_
  go_simp;refine hK _ _ ?_;clear hK
  rotate_left
  go_simp;refine hK _ _ ?_;clear hK
  refine wpAnyIn_ready (rs:=[0,2]) (by kernel_rfl) (by simp) (.cons (i:=0) rfl (fun K hK => ?_) (.cons (i:=2) rfl (fun K hK => ?_) .nil))
  go_simp;refine hK _ _ ?_;clear hK
  refine dr 2 (by kernel_rfl) rfl fun K hK => ?_
  go_simp;refine hK _ _ ?_;clear hK
  rotate_left
  go_simp;refine hK _ _ ?_;clear hK
  refine wpAnyIn_ready (rs:=[0,4]) (by kernel_rfl) (by simp) (.cons (i:=0) rfl (fun K hK => ?_) (.cons (i:=4) rfl (fun K hK => ?_) .nil))
  go_simp;refine hK _ _ ?_;clear hK
  rotate_left
  go_simp;refine⟨trivial,by simp[Fence.wide],(HC.out _ rfl).mono ?_⟩
  rintro e W5 ⟨a6,c6,rfl,hlo,dt⟩;obtain⟨g',cap',W7,hrun,r1,r2,r3,r4,hfin⟩:=HW.out W5 a6 c6 hlo dt;have ie:=ae hfin;clear hfin;refine hK _ _ ?_
  clear hK;refine wpAnyIn_ready (rs:=[0,5]) (by kernel_rfl) (by simp) (.cons (i:=0) rfl (fun K hK => ?_) (.cons (i:=5) rfl (fun K hK => ?_) .nil))
  go_simp;refine hK _ _ ?_;clear hK
  refine dr 5 (by kernel_rfl) rfl fun K hK => ?_
  go_simp;refine hK _ _ ?_;clear hK
  rotate_left
  go_simp;refine hK _ _ ?_;clear hK
  refine dr 0 (by kernel_rfl) rfl fun K hK => ?_
  go_simp;refine hK _ _ ?_;clear hK
  rotate_left
  go_simp;refine hK _ _ ?_;clear hK
  refine wpAnyIn_ready (rs:=[0,1]) (by kernel_rfl) (by simp) (.cons (i:=0) rfl (fun K hK => ?_) (.cons (i:=1) rfl (fun K hK => ?_) .nil))
  go_simp;refine hK _ _ ?_;clear hK
  refine dr 1 (by kernel_rfl) rfl fun K hK => ?_
  go_simp;refine hK _ _ ?_;clear hK
  rotate_left
  go_simp;refine hK _ _ ?_;clear hK
  refine wpAnyIn_ready (rs:=[0,4]) (by kernel_rfl) (by simp) (.cons (i:=0) rfl (fun K hK => ?_) (.cons (i:=4) rfl (fun K hK => ?_) .nil))
  go_simp;refine hK _ _ ?_;clear hK
  rotate_left
  go_simp;refine⟨trivial,by simp[Fence.wide],(HC.out _ rfl).mono ?_⟩
  rintro e W5 ⟨a6,c6,rfl,hlo,dt⟩;obtain⟨g',cap',W7,hrun,r1,r2,r3,r4,hfin⟩:=HW.out W5 a6 c6 hlo dt;have ie:=ae hfin;clear hfin;refine hK _ _ ?_
  clear hK;refine wpAnyIn_ready (rs:=[0,5]) (by kernel_rfl) (by simp) (.cons (i:=0) rfl (fun K hK => ?_) (.cons (i:=5) rfl (fun K hK => ?_) .nil))
  go_simp;refine hK _ _ ?_;clear hK
  refine dr 5 (by kernel_rfl) rfl fun K hK => ?_
  go_simp;refine hK _ _ ?_;clear hK
  rotate_left
  go_simp;refine hK _ _ ?_;clear hK
  refine dr 0 (by kernel_rfl) rfl fun K hK => ?_
  go_simp;refine hK _ _ ?_;clear hK
  rotate_left
  any_goals (
   refine dr 4 (by kernel_rfl) rfl fun K hK => ?_
   go_simp;refine⟨trivial,by simp[Fence.wide],(HC.out _ rfl).mono ?_⟩
   rintro e W5 ⟨a6,c6,rfl,hlo,dt⟩;obtain⟨g',cap',W7,hrun,r1,r2,r3,r4,hfin⟩:=HW.out W5 a6 c6 hlo dt;have ie:=ae hfin;clear hfin;refine hK _ _ ?_
   clear hK;refine dr 5 (by kernel_rfl) rfl fun K hK => ?_
   go_simp;refine hK _ _ ?_;clear hK)
  all_goals (
   refine dr 6 (by kernel_rfl) rfl fun K hK=>Gc rfl (.tmp 30) (.tmp 35) 97 rfl _ _ _ _ (by simp[Act.eval]) (by simp[Act.eval]) hrun (hK _ _ ?_)
   refine dr 7 (by kernel_rfl) rfl fun K hK => ?_
   go_simp;refine hK _ _ ?_;clear hK
   refine (wpAnyIn_done (by kernel_rfl) ?_) _
   exact ie.out)
 case done =>
  rintro D ys W hD rfl ⟨v,ws,I⟩ hK;have c5:=au I.sent 0;obtain⟨a7,c7,rfl⟩:=aM I.row;have HI:=ae I;clear I;gi_wp2;refine⟨by simp,.inl ⟨_,_,rfl,run_takeDeferred hK, ?_⟩⟩
  refine⟨_,results_tmp rfl _ _ _,_,rfl, ?_,HI.out.be.trans (belowK_b (w:=w) (aG _) W D _ _ (by have:=nG.size;omega) hK rfl rfl)⟩
  have hk:=HI.out.keep (Dx (grownBy_putObj' W D (.deferred none)) (fun r e=>by cases e;exact⟨_,hK,rfl⟩)) (HI.out.be.trans (belowK_b (w:=w) (aG _) W D _ _ (by have:=nG.size;omega) hK rfl rfl))
  rw[<- zx r.aU r.log.length (r.forward own nx)];exact⟨ws,hk.msgs,by have:=hk.row;rw[fF] at this |-;exact this,hk.lists⟩
 case stop =>
  rintro D c' pre W hD hpre hF hK;exact hF.elim
end Go.Proofs.YtgieeeeeiggoeaaGreat
