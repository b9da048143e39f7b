import Derived.Test.YtgieeeeeiggoeaaGreatC17
set_option maxRecDepth 100000
set_option maxHeartbeats 4000000
namespace Go.Proofs.YtgieeeeeiggoeaaGreat
open Go.RowKit Go.Shelf
attribute [local go_sem] Oper.semAt_some
theorem tick_in (n:Nat)(hn:Hid (6≤n))(b:Nat)(own:Int)(r:Rep)(vm vl:Value)(w:World)(h:RepAt w b own r vm vl)(ok:RepOK r)(hlv:r.live own=true)(nx:Int)(hnx:nextOf r.mems own=some nx) :
  CallsIn Fence.wide n Tryz.prog 262 #[.pointer (some ⟨b,0,none⟩)] w fun e w'=>∃ v,e=.returned v∧MsgsOwn w' w.heap.size v ((placesFrom r.commit r.log.length).map (r.forward own nx))∧Below w.heap.size w w':=by
 have hl24:=ok.l
 have hcl:=ok.c
 have mixed:Tryz.prog.follows Departure.mixedOrders=true:=by kernel_rfl
 refine callsIn_of_wp_marks Tryz.func262 rfl trivial ?_ rfl
 simp only [Tryz.ntmps262,List.size_toArray,List.length_cons,List.length_nil,Nat.reduceAdd,Nat.reduceSub,Array.replicate_succ,Array.replicate_zero,List.push_toArray,List.append_toArray,List.nil_append,List.cons_append]
 gi_wp2_with fail;obtain⟨X1,hX1,hb1,hs1,c1,f1,k1, -,hb1'⟩:=box_more (Below.refl _ w) (.pointer (some ⟨b,0,none⟩)) 129
 have H1:X1.heap[w.heap.size]?=some (.cells #[.pointer (some ⟨b,0,none⟩)] 129):=by rw[← hX1];exact hnw _ _
 rw[hX1];clear hX1;refine⟨trivial,by simp[Fence.wide],(callsIn_wide.2 (isLive_any b own r vm vl X1 (h.below hb1) ok)).mono ?_⟩
 rintro e X2 ⟨rfl,q2,rfl⟩;rw[hlv];have hb2:Below w.heap.size w (X1.drewN q2):=below_drewN hb1 _
 have H2:(X1.drewN q2).heap[w.heap.size]?=some (.cells #[.pointer (some ⟨b,0,none⟩)] 129):=H1
 have hs2:(X1.drewN q2).heap.size=w.heap.size+1:=hs1
 generalize X1.drewN q2=X2 at *
 have c2:X2.cell? ⟨w.heap.size,0,none⟩=some (.pointer (some ⟨b,0,none⟩)):=coh H2 0
 clear c1 f1 k1 hb1' hb1 H1 hs1;gi_wp2_with fail;refine⟨trivial,by simp[Fence.wide],(callsIn_wide.2 (behind_any b own r vm vl X2 (h.below hb2) ok)).mono ?_⟩
 rintro e X3 ⟨rfl,hb3⟩;rw[hnx];have hw3:Below w.heap.size w X3:=hb2.trans (hb3.mono hb2.size)
 have H3:X3.heap[w.heap.size]?=some (.cells #[.pointer (some ⟨b,0,none⟩)] 129):=(hb3.block _ (by omega)).trans H2
 have c3:X3.cell? ⟨w.heap.size,0,none⟩=some (.pointer (some ⟨b,0,none⟩)):=coh H3 0
 clear c2 H2 hb3 hb2 hs2;gi_wp2_with fail;obtain⟨X4,hX4,hb4,hs4, -, -, -, -,hb4'⟩:=box_more hw3 (.int .i64 nx) 3
 have H4:X4.heap[X3.heap.size]?=some (.cells #[.int .i64 nx] 3):=by rw[← hX4];exact hnw _ _
 rw[hX4];obtain⟨X5,hX5,hb5,hs5, -, -, -, -,hb5'⟩:=box_more hb4 (.slice none 0 0) 97
 have H5:X5.heap[X3.heap.size+1]?=some (.cells #[.slice none 0 0] 97):=by rw[← hX5, ← hs4];exact hnw _ _
 rw[hX5];clear hX4 hX5;have H35:X5.heap[w.heap.size]?=some (.cells #[.pointer (some ⟨b,0,none⟩)] 129):=(hb5'.block _ (by have:=hw3.size;have:=(Array.getElem?_eq_some_iff.1 H3).1;omega)).trans ((hb4'.block _ (Array.getElem?_eq_some_iff.1 H3).1).trans H3)
 have H45:X5.heap[X3.heap.size]?=some (.cells #[.int .i64 nx] 3):=(hb5'.block _ (by omega)).trans H4
 have hR5:=h.below hb5
 obtain⟨al,cl,rfl,hcap⟩:=own_cap h.hl
 have d1:X5.cell? ⟨w.heap.size,0,none⟩=some (.pointer (some ⟨b,0,none⟩)):=coh H35 0
 have d4:X5.cell? ⟨b,4,none⟩=some (.slice al r.log.length cl):=coh hR5.blk 4
 have d6:X5.cell? ⟨b,6,none⟩=some (.int .i64 (r.commit:Int)):=coh hR5.blk 6
 have hlB:=LogB.of_owns h.hl
 have HC:Hid (∀ W,W=X5.drew→Calls Tryz.prog 272 #[.slice al r.log.length cl,.int .i64 (r.commit:Int)] W fun e w'=>e=.returned (.func (.func 281) #[] #[.pointer (some ⟨X5.heap.size+1,0,none⟩),.pointer (some ⟨X5.heap.size,0,none⟩)])∧Below X5.heap.size X5 w'∧w'.heap.size=X5.heap.size+2 ∧
   w'.heap[X5.heap.size]?=some (.cells #[.slice al r.log.length cl] 44)∧w'.heap[X5.heap.size+1]?=some (.cells #[.int .i64 (r.commit:Int)] 3)):=hideA fun W hW=>by
  refine (callsIn_wide.1 (from_any 0 _ _ al r.log.length cl rfl W)).mono ?_
  rintro e w' ⟨rfl,rfl⟩;subst hW;refine⟨rfl,(((Below.refl _ X5).drew).alloc (Nat.le_refl _) _).alloc (by simp) _,by simp, ?_,heap_new2 _ _ _⟩
  exact (Below.heap_alloc _ _ _ (by simp)).trans (hnw _ _)
 have hwl:w.heap.size<X3.heap.size:=(Array.getElem?_eq_some_iff.1 H3).1
 clear c3 H3 H4 hb4 hb4' hb5' hw3;refine wpIn_wide.2 ?_
 go_region_held3 (fun w'=>w'.cell? ⟨w.heap.size,0,none⟩=some (.pointer (some ⟨b,0,none⟩))∧w'.cell? ⟨b,4,none⟩=some (.slice al r.log.length cl)∧w'.cell? ⟨b,6,none⟩=some (.int .i64 (r.commit:Int))) (first|(simp[go_sem];done)|(simp[go_sem, *];done)|go_keep) (first|(go_at_call 272;refine (HC.out _ rfl).mono ?_;rintro e X6 ⟨rfl,hb6,hs6,H60,H61⟩;have t1:=cell_later hb6 d1;have t4:=cell_later hb6 d4;have t6:=cell_later hb6 d6))
 gi_wp2_with fail;have hX35:X5.heap.size=X3.heap.size+1+1:=by omega
 rw[hX35] at H60 H61 hs6
 have hbw6:Below w.heap.size w X6:=hb5.trans (hb6.mono hb5.size)
 have HI0:SentI w (X3.heap.size+1) [(w.heap.size,129,.pointer (some ⟨b,0,none⟩)),(X3.heap.size,3,.int .i64 nx),(X3.heap.size+1+1,44,.slice al r.log.length cl)] [] X6 (.slice none 0 0) []:=by
  refine⟨(hb6.block _ (by omega)).trans H5,World.ownsRow_nil _ _ _ _,rfl,fun t ht=>(by cases ht), ?_,hbw6⟩
  intro q hq;simp only [List.mem_cons,List.not_mem_nil,or_false] at hq
  rcases hq with rfl|rfl|rfl
  ·exact (hb6.block _ (Array.getElem?_eq_some_iff.1 H35).1).trans H35
  ·exact (hb6.block _ (Array.getElem?_eq_some_iff.1 H45).1).trans H45
  ·exact H60
 refine wpIn_rangeFunc_ownF rfl (by have:=hn.out;omega) (gf:=281) (lb:=#[.pointer (some ⟨X3.heap.size+1+1+1,0,none⟩),.pointer (some ⟨X3.heap.size+1+1,0,none⟩)]) rfl trivial (enters_of Tryz.func281 (by kernel_rfl) rfl)
  (from_stops (n-1) (X3.heap.size+1+1+1) (X3.heap.size+1+1) (.slice al r.log.length cl) r.log r.commit X6 (by omega) hcl (coh H61 0) (fun q hq=>by simp only [List.mem_cons,List.not_mem_nil,or_false] at hq;subst hq;exact coh H60 0) (hlB.below hbw6))
  KeepF.trans (fun W l o o' _ hl hc _=>keepF_put _ W l o o' hl hc) (Below.refl _ _) (fun _=>rfl)
  (fun pre W=>∃ v ws,SentI w (X3.heap.size+1) [(w.heap.size,129,.pointer (some ⟨b,0,none⟩)),(X3.heap.size,3,.int .i64 nx),(X3.heap.size+1+1,44,.slice al r.log.length cl)] (pre.map (fun y:Fin r.log.length=>r.forward own nx y.val)) W v ws)
  (fun _ _ _=>False)
  (SentI.own (fun pre=>pre.map (fun y:Fin r.log.length=>r.forward own nx y.val)) (by have:=hbw6.size;omega))
  (fun c=>ownFrom_pure _ _)
  ⟨_,_,HI0⟩
  (fun x=>{ tmps:=#[.pointer (some ⟨b,0,none⟩),.pointer (some ⟨w.heap.size,0,none⟩),.slice none 0 0,.pointer (some ⟨X3.heap.size,0,none⟩),.bool true,.pointer (some ⟨X3.heap.size+1,0,none⟩),.int .i64 (x.val:Int),.pointer (some ⟨b,0,none⟩),.bool true,.bool false,
   .tuple #[.int .i64 nx,.bool true],.pointer (some ⟨b,0,none⟩),.tuple #[.int .i64 nx,.bool true],.int .i64 nx,.bool true,.bool true,.bool false,undef,undef,.pointer (some ⟨b,0,none⟩),.pointer (some ⟨b,0,none⟩),.pointer (some ⟨b,4,none⟩),.slice al r.log.length cl,.pointer (some ⟨b,0,none⟩),.pointer (some ⟨b,0,none⟩),.pointer (some ⟨b,6,none⟩),.int .i64 (r.commit:Int),
   .func (.func 281) #[] #[.pointer (some ⟨X3.heap.size+1+1+1,0,none⟩),.pointer (some ⟨X3.heap.size+1+1,0,none⟩)],.int .i64 (x.val:Int),entV (r.log.getD x.val Ent.zero),undef,undef,undef,undef,undef,undef,undef,undef],defers:=[] }) ?assign ?body ?done ?stop
 case assign =>
  intro l x W K hK;unfold placeV
  generalize entV (r.log.getD x.val Ent.zero)=u at *
  gi_wp2
  exact hK
 case body =>
  rintro l pre x W ⟨v,ws,I⟩ hpl;have hln:=fromList_length r.log.length r.commit
  have c5:W.cell? ⟨X3.heap.size+1,0,none⟩=some v:=coh I.sent 0
  have f5:W.frozen? ⟨X3.heap.size+1,0,none⟩=false:=foh I.sent 0
  have c0:W.cell? ⟨w.heap.size,0,none⟩=some (.pointer (some ⟨b,0,none⟩)):=coh (I.boxes _ List.mem_cons_self) 0
  have c1:W.cell? ⟨X3.heap.size,0,none⟩=some (.int .i64 nx):=coh (I.boxes _ (List.mem_cons_of_mem _ List.mem_cons_self)) 0
  have HR:=hideA (h.below I.be)
  have HI:=hideA I;have Hn:Hid ((pre.map (fun y:Fin r.log.length=>r.forward own nx y.val)).length≤24):=hideA (by rw[List.length_map];omega)
  have HC:Hid (∀ W',W'=W.drew→CallsIn (Fence.wide.inRound l) (n-1-1-1) Tryz.prog 273 #[.pointer (some ⟨b,0,none⟩),.int .i64 nx,.int .i64 (x.val:Int)] W' fun e W5=>∃ a6 c6,e=.returned (mval (r.forward own nx x.val) (.slice none 0 0) (.slice a6 1 c6))∧LogOwn W5 (.slice a6 1 c6) (r.forward own nx x.val).log∧Below W.heap.size W W5):=hideA fun W' hW'=>by
   subst hW';refine (CallsIn.inRound l (callsIn_wide.2 (forward_any b own r vm _ nx x.val W.drew (HR.out.below (Below.refl _ _).drew) ok x.isLt))).mono ?_
   rintro e W5 ⟨vl',rfl,h1,h2⟩;obtain⟨a6,c6,rfl⟩:=osh h1
   exact⟨a6,c6,rfl,h1,((Below.refl _ _).drew).trans h2⟩
  clear I;generalize entV (r.log.getD x.val Ent.zero)=u at *
  have Hm:Hid ((pre++[x]).map (fun y:Fin r.log.length=>r.forward own nx y.val)=pre.map (fun y:Fin r.log.length=>r.forward own nx y.val)++[r.forward own nx x.val]):=hideA (by simp)
  have Hmm:Hid ((r.forward own nx x.val).mems=[]):=hideA rfl
  generalize r.forward own nx x.val=m at *
  have HW:Hid (∀ W5 a6 c6,LogOwn W5 (.slice a6 1 c6) m.log→Below W.heap.size W W5→∃ g' cap' W7,(∀ ty,(Builtin.append_ #[97,97] ty #[v,.slice (some ⟨W5.heap.size,0,none⟩) 1 1]).run Tryz.prog (W5.alloc (.cells #[.int .i64 m.kind,.int .i64 m.src,.int .i64 m.dst,.int .i64 m.epoch,.int .i64 m.ballot,.int .i64 m.vote,.int .i64 m.pos,.int .i64 m.value,.slice none 0 0,.slice a6 1 c6] 134))=.ok (.slice (some ⟨g',0,none⟩) (pre.length+1) cap') W7) ∧
    W7.cell? ⟨X3.heap.size+1,0,none⟩=some v∧W7.frozen? ⟨X3.heap.size+1,0,none⟩=false∧W5.cell? ⟨X3.heap.size+1,0,none⟩=some v∧(∀ o,(W5.alloc o).cell? ⟨X3.heap.size+1,0,none⟩=some v) ∧
    (KeepsOthers W (W7.setCell ⟨X3.heap.size+1,0,none⟩ (.slice (some ⟨g',0,none⟩) (pre.length+1) cap'))∧KeepF [(⟨X3.heap.size+1+1,0,none⟩,.slice al r.log.length cl)] W (W7.setCell ⟨X3.heap.size+1,0,none⟩ (.slice (some ⟨g',0,none⟩) (pre.length+1) cap')) ∧
     ∃ v ws,SentI w (X3.heap.size+1) [(w.heap.size,129,.pointer (some ⟨b,0,none⟩)),(X3.heap.size,3,.int .i64 nx),(X3.heap.size+1+1,44,.slice al r.log.length cl)] ((pre++[x]).map (fun y:Fin r.log.length=>r.forward own nx y.val)) (W7.setCell ⟨X3.heap.size+1,0,none⟩ (.slice (some ⟨g',0,none⟩) (pre.length+1) cap')) v ws)):=hideA (by
   intro W5 a6 c6 hlo hb5';have I:=HI.out
   have hrow:=I.row
   rw[List.length_map] at hrow
   have hbig:=hb5'.size
   have hwW:=I.be.size
   obtain⟨g',cap',W7,hrun,ho7,hg7⟩:=append_msg (W5.alloc (.cells #[.int .i64 m.kind,.int .i64 m.src,.int .i64 m.dst,.int .i64 m.epoch,.int .i64 m.ballot,.int .i64 m.vote,.int .i64 m.pos,.int .i64 m.value,.slice none 0 0,.slice a6 1 c6] 134)) w.heap.size v pre.length ws (m,.slice none 0 0,.slice a6 1 c6) W5.heap.size
    ((okp hrow fun k _ hk=>hb5'.block k hk).alloc _) (hnw _ _) (by have:=Hn.out;rw[List.length_map] at this;omega) (by simp;omega) ⟨_,_,_,rfl⟩ ⟨_,_,_,rfl⟩
   have hstep:=I.step (m,.slice none 0 0,.slice a6 1 c6) hb5' (by show IntOwn W5 _ m.mems;rw[Hmm.out];exact IntOwn.nil _) hlo hg7 (by rw[List.length_map];exact ho7) (by
    intro q hq;simp only [List.mem_cons,List.not_mem_nil,or_false] at hq
    rcases hq with rfl|rfl|rfl
    ·exact⟨by show w.heap.size≠X3.heap.size+1;omega,by show (129:TypeId)≠134;decide⟩
    ·exact⟨by show X3.heap.size≠X3.heap.size+1;omega,by show (3:TypeId)≠134;decide⟩
    ·exact⟨by show X3.heap.size+1+1≠X3.heap.size+1;omega,by show (44:TypeId)≠134;decide⟩) (by omega)
   refine⟨g',cap',W7,hrun,hstep.1,hstep.2.1,cell_later hb5' c5,fun o=>cell_later ((Below.refl _ W5).alloc (Nat.le_refl _) o) (cell_later hb5' c5),hstep.2.2.2.1,⟨hstep.2.2.2.2,fun _ q hq => ?_⟩,_,_,by rw[Hm.out];exact hstep.2.2.1⟩
   simp only [List.mem_cons,List.not_mem_nil,or_false] at hq
   subst hq;exact coh (hstep.2.2.1.boxes _ (List.mem_cons_of_mem _ (List.mem_cons_of_mem _ List.mem_cons_self))) 0)
  clear HI Hmm Hm Hn;unfold mval at HC
  gi_wp2_with fail;refine wpIn_region_any mixed ?_
  change wpAnyIn _ _ _ _ _ _ _ _ _ (World.drew _)
  refine wpAnyIn_ready (rs:=[0,1,2,3]) (by kernel_rfl) (by simp) (.cons (i:=0) rfl (fun K hK => ?_) (.cons (i:=1) rfl (fun K hK => ?_) (.cons (i:=2) rfl (fun K hK => ?_) (.cons (i:=3) rfl (fun K hK => ?_) .nil))))
  go_simp;refine hK _ _ ?_;clear hK
  refine wpAnyIn_ready (rs:=[1,2,3]) (by kernel_rfl) (by simp) (.cons (i:=1) rfl (fun K hK => ?_) (.cons (i:=2) rfl (fun K hK => ?_) (.cons (i:=3) rfl (fun K hK => ?_) .nil)))
  go_simp;refine hK _ _ ?_;clear hK
  refine wpAnyIn_ready (rs:=[2,3]) (by kernel_rfl) (by simp) (.cons (i:=2) rfl (fun K hK => ?_) (.cons (i:=3) rfl (fun K hK => ?_) .nil))
  go_simp;refine hK _ _ ?_;clear hK
  refine rdy1 3 (by kernel_rfl) rfl fun K hK => ?_
  go_simp;refine hK _ _ ?_;clear hK
  rotate_left
  go_simp;refine hK _ _ ?_;clear hK
  refine rdy1 2 (by kernel_rfl) rfl fun K hK => ?_
  go_simp;refine hK _ _ ?_;clear hK
  rotate_left
  go_simp;refine hK _ _ ?_;clear hK
  refine wpAnyIn_ready (rs:=[1,3]) (by kernel_rfl) (by simp) (.cons (i:=1) rfl (fun K hK => ?_) (.cons (i:=3) rfl (fun K hK => ?_) .nil))
  go_simp;refine hK _ _ ?_;clear hK
  refine rdy1 3 (by kernel_rfl) rfl fun K hK => ?_
  go_simp;refine hK _ _ ?_;clear hK
  rotate_left
  go_simp;refine hK _ _ ?_;clear hK
  refine rdy1 1 (by kernel_rfl) rfl fun K hK => ?_
  go_simp;refine hK _ _ ?_;clear hK
  rotate_left
  go_simp;refine hK _ _ ?_;clear hK
  refine wpAnyIn_ready (rs:=[1,2]) (by kernel_rfl) (by simp) (.cons (i:=1) rfl (fun K hK => ?_) (.cons (i:=2) rfl (fun K hK => ?_) .nil))
  go_simp;refine hK _ _ ?_;clear hK
  refine rdy1 2 (by kernel_rfl) rfl fun K hK => ?_
  go_simp;refine hK _ _ ?_;clear hK
  rotate_left
  go_simp;refine hK _ _ ?_;clear hK
  refine rdy1 1 (by kernel_rfl) rfl fun K hK => ?_
  go_simp;refine hK _ _ ?_;clear hK
  rotate_left
  go_simp;refine hK _ _ ?_;clear hK
  refine wpAnyIn_ready (rs:=[0,2,3]) (by kernel_rfl) (by simp) (.cons (i:=0) rfl (fun K hK => ?_) (.cons (i:=2) rfl (fun K hK => ?_) (.cons (i:=3) rfl (fun K hK => ?_) .nil)))
  go_simp;refine hK _ _ ?_;clear hK
  refine wpAnyIn_ready (rs:=[2,3]) (by kernel_rfl) (by simp) (.cons (i:=2) rfl (fun K hK => ?_) (.cons (i:=3) rfl (fun K hK => ?_) .nil))
  go_simp;refine hK _ _ ?_;clear hK
  refine rdy1 3 (by kernel_rfl) rfl fun K hK => ?_
  go_simp;refine hK _ _ ?_;clear hK
  rotate_left
  go_simp;refine hK _ _ ?_;clear hK
  refine rdy1 2 (by kernel_rfl) rfl fun K hK => ?_
  go_simp;refine hK _ _ ?_;clear hK
  rotate_left
  go_simp;refine hK _ _ ?_;clear hK
  refine wpAnyIn_ready (rs:=[0,3]) (by kernel_rfl) (by simp) (.cons (i:=0) rfl (fun K hK => ?_) (.cons (i:=3) rfl (fun K hK => ?_) .nil))
  go_simp;refine hK _ _ ?_;clear hK
  refine rdy1 3 (by kernel_rfl) rfl fun K hK => ?_
  go_simp;refine hK _ _ ?_;clear hK
  rotate_left
  go_simp;refine hK _ _ ?_;clear hK
  refine wpAnyIn_ready (rs:=[0,4]) (by kernel_rfl) (by simp) (.cons (i:=0) rfl (fun K hK => ?_) (.cons (i:=4) rfl (fun K hK => ?_) .nil))
  go_simp;refine hK _ _ ?_;clear hK
  rotate_left
  go_simp;refine⟨trivial,by simp[Fence.wide],(HC.out _ rfl).mono ?_⟩
  rintro e W5 ⟨a6,c6,rfl,hlo,hb5'⟩;obtain⟨g',cap',W7,hrun,r1,r2,r3,r4,hfin⟩:=HW.out W5 a6 c6 hlo hb5'
  have Hfin:=hideA hfin;clear hfin;refine hK _ _ ?_
  clear hK;refine wpAnyIn_ready (rs:=[0,5]) (by kernel_rfl) (by simp) (.cons (i:=0) rfl (fun K hK => ?_) (.cons (i:=5) rfl (fun K hK => ?_) .nil))
  go_simp;refine hK _ _ ?_;clear hK
  refine rdy1 5 (by kernel_rfl) rfl fun K hK => ?_
  go_simp;refine hK _ _ ?_;clear hK
  rotate_left
  go_simp;refine hK _ _ ?_;clear hK
  refine rdy1 0 (by kernel_rfl) rfl fun K hK => ?_
  go_simp;refine hK _ _ ?_;clear hK
  rotate_left
  go_simp;refine hK _ _ ?_;clear hK
  refine wpAnyIn_ready (rs:=[0,2]) (by kernel_rfl) (by simp) (.cons (i:=0) rfl (fun K hK => ?_) (.cons (i:=2) rfl (fun K hK => ?_) .nil))
  go_simp;refine hK _ _ ?_;clear hK
  refine rdy1 2 (by kernel_rfl) rfl fun K hK => ?_
  go_simp;refine hK _ _ ?_;clear hK
  rotate_left
  go_simp;refine hK _ _ ?_;clear hK
  refine wpAnyIn_ready (rs:=[0,4]) (by kernel_rfl) (by simp) (.cons (i:=0) rfl (fun K hK => ?_) (.cons (i:=4) rfl (fun K hK => ?_) .nil))
  go_simp;refine hK _ _ ?_;clear hK
  rotate_left
  go_simp;refine⟨trivial,by simp[Fence.wide],(HC.out _ rfl).mono ?_⟩
  rintro e W5 ⟨a6,c6,rfl,hlo,hb5'⟩;obtain⟨g',cap',W7,hrun,r1,r2,r3,r4,hfin⟩:=HW.out W5 a6 c6 hlo hb5'
  have Hfin:=hideA hfin;clear hfin;refine hK _ _ ?_
  clear hK;refine wpAnyIn_ready (rs:=[0,5]) (by kernel_rfl) (by simp) (.cons (i:=0) rfl (fun K hK => ?_) (.cons (i:=5) rfl (fun K hK => ?_) .nil))
  go_simp;refine hK _ _ ?_;clear hK
  refine rdy1 5 (by kernel_rfl) rfl fun K hK => ?_
  go_simp;refine hK _ _ ?_;clear hK
  rotate_left
  go_simp;refine hK _ _ ?_;clear hK
  refine rdy1 0 (by kernel_rfl) rfl fun K hK => ?_
  go_simp;refine hK _ _ ?_;clear hK
  rotate_left
  go_simp;refine hK _ _ ?_;clear hK
  refine wpAnyIn_ready (rs:=[0,1,3]) (by kernel_rfl) (by simp) (.cons (i:=0) rfl (fun K hK => ?_) (.cons (i:=1) rfl (fun K hK => ?_) (.cons (i:=3) rfl (fun K hK => ?_) .nil)))
  go_simp;refine hK _ _ ?_;clear hK
  refine wpAnyIn_ready (rs:=[1,3]) (by kernel_rfl) (by simp) (.cons (i:=1) rfl (fun K hK => ?_) (.cons (i:=3) rfl (fun K hK => ?_) .nil))
  go_simp;refine hK _ _ ?_;clear hK
  refine rdy1 3 (by kernel_rfl) rfl fun K hK => ?_
  go_simp;refine hK _ _ ?_;clear hK
  rotate_left
  go_simp;refine hK _ _ ?_;clear hK
  refine rdy1 1 (by kernel_rfl) rfl fun K hK => ?_
  go_simp;refine hK _ _ ?_;clear hK
  rotate_left
  go_simp;refine hK _ _ ?_;clear hK
  refine wpAnyIn_ready (rs:=[0,3]) (by kernel_rfl) (by simp) (.cons (i:=0) rfl (fun K hK => ?_) (.cons (i:=3) rfl (fun K hK => ?_) .nil))
  go_simp;refine hK _ _ ?_;clear hK
  refine rdy1 3 (by kernel_rfl) rfl fun K hK => ?_
  go_simp;refine hK _ _ ?_;clear hK
  rotate_left
  go_simp;refine hK _ _ ?_;clear hK
  refine wpAnyIn_ready (rs:=[0,4]) (by kernel_rfl) (by simp) (.cons (i:=0) rfl (fun K hK => ?_) (.cons (i:=4) rfl (fun K hK => ?_) .nil))
  go_simp;refine hK _ _ ?_;clear hK
  rotate_left
  go_simp;refine⟨trivial,by simp[Fence.wide],(HC.out _ rfl).mono ?_⟩
  rintro e W5 ⟨a6,c6,rfl,hlo,hb5'⟩;obtain⟨g',cap',W7,hrun,r1,r2,r3,r4,hfin⟩:=HW.out W5 a6 c6 hlo hb5'
  have Hfin:=hideA hfin;clear hfin;refine hK _ _ ?_
  clear hK;refine wpAnyIn_ready (rs:=[0,5]) (by kernel_rfl) (by simp) (.cons (i:=0) rfl (fun K hK => ?_) (.cons (i:=5) rfl (fun K hK => ?_) .nil))
  go_simp;refine hK _ _ ?_;clear hK
  refine rdy1 5 (by kernel_rfl) rfl fun K hK => ?_
  go_simp;refine hK _ _ ?_;clear hK
  rotate_left
  go_simp;refine hK _ _ ?_;clear hK
  refine rdy1 0 (by kernel_rfl) rfl fun K hK => ?_
  go_simp;refine hK _ _ ?_;clear hK
  rotate_left
  go_simp;refine hK _ _ ?_;clear hK
  refine wpAnyIn_ready (rs:=[0,1]) (by kernel_rfl) (by simp) (.cons (i:=0) rfl (fun K hK => ?_) (.cons (i:=1) rfl (fun K hK => ?_) .nil))
  go_simp;refine hK _ _ ?_;clear hK
  refine rdy1 1 (by kernel_rfl) rfl fun K hK => ?_
  go_simp;refine hK _ _ ?_;clear hK
  rotate_left
  go_simp;refine hK _ _ ?_;clear hK
  refine wpAnyIn_ready (rs:=[0,4]) (by kernel_rfl) (by simp) (.cons (i:=0) rfl (fun K hK => ?_) (.cons (i:=4) rfl (fun K hK => ?_) .nil))
  go_simp;refine hK _ _ ?_;clear hK
  rotate_left
  go_simp;refine⟨trivial,by simp[Fence.wide],(HC.out _ rfl).mono ?_⟩
  rintro e W5 ⟨a6,c6,rfl,hlo,hb5'⟩;obtain⟨g',cap',W7,hrun,r1,r2,r3,r4,hfin⟩:=HW.out W5 a6 c6 hlo hb5'
  have Hfin:=hideA hfin;clear hfin;refine hK _ _ ?_
  clear hK;refine wpAnyIn_ready (rs:=[0,5]) (by kernel_rfl) (by simp) (.cons (i:=0) rfl (fun K hK => ?_) (.cons (i:=5) rfl (fun K hK => ?_) .nil))
  go_simp;refine hK _ _ ?_;clear hK
  refine rdy1 5 (by kernel_rfl) rfl fun K hK => ?_
  go_simp;refine hK _ _ ?_;clear hK
  rotate_left
  go_simp;refine hK _ _ ?_;clear hK
  refine rdy1 0 (by kernel_rfl) rfl fun K hK => ?_
  go_simp;refine hK _ _ ?_;clear hK
  rotate_left
  go_simp;refine hK _ _ ?_;clear hK
  refine wpAnyIn_ready (rs:=[0,1,2]) (by kernel_rfl) (by simp) (.cons (i:=0) rfl (fun K hK => ?_) (.cons (i:=1) rfl (fun K hK => ?_) (.cons (i:=2) rfl (fun K hK => ?_) .nil)))
  go_simp;refine hK _ _ ?_;clear hK
  refine wpAnyIn_ready (rs:=[1,2]) (by kernel_rfl) (by simp) (.cons (i:=1) rfl (fun K hK => ?_) (.cons (i:=2) rfl (fun K hK => ?_) .nil))
  go_simp;refine hK _ _ ?_;clear hK
  refine rdy1 2 (by kernel_rfl) rfl fun K hK => ?_
  go_simp;refine hK _ _ ?_;clear hK
  rotate_left
  go_simp;refine hK _ _ ?_;clear hK
  refine rdy1 1 (by kernel_rfl) rfl fun K hK => ?_
  go_simp;refine hK _ _ ?_;clear hK
  rotate_left
  go_simp;refine hK _ _ ?_;clear hK
  refine wpAnyIn_ready (rs:=[0,2]) (by kernel_rfl) (by simp) (.cons (i:=0) rfl (fun K hK => ?_) (.cons (i:=2) rfl (fun K hK => ?_) .nil))
  go_simp;refine hK _ _ ?_;clear hK
  refine rdy1 2 (by kernel_rfl) rfl fun K hK => ?_
  go_simp;refine hK _ _ ?_;clear hK
  rotate_left
  go_simp;refine hK _ _ ?_;clear hK
  refine wpAnyIn_ready (rs:=[0,4]) (by kernel_rfl) (by simp) (.cons (i:=0) rfl (fun K hK => ?_) (.cons (i:=4) rfl (fun K hK => ?_) .nil))
  go_simp;refine hK _ _ ?_;clear hK
  rotate_left
  go_simp;refine⟨trivial,by simp[Fence.wide],(HC.out _ rfl).mono ?_⟩
  rintro e W5 ⟨a6,c6,rfl,hlo,hb5'⟩;obtain⟨g',cap',W7,hrun,r1,r2,r3,r4,hfin⟩:=HW.out W5 a6 c6 hlo hb5'
  have Hfin:=hideA hfin;clear hfin;refine hK _ _ ?_
  clear hK;refine wpAnyIn_ready (rs:=[0,5]) (by kernel_rfl) (by simp) (.cons (i:=0) rfl (fun K hK => ?_) (.cons (i:=5) rfl (fun K hK => ?_) .nil))
  go_simp;refine hK _ _ ?_;clear hK
  refine rdy1 5 (by kernel_rfl) rfl fun K hK => ?_
  go_simp;refine hK _ _ ?_;clear hK
  rotate_left
  go_simp;refine hK _ _ ?_;clear hK
  refine rdy1 0 (by kernel_rfl) rfl fun K hK => ?_
  go_simp;refine hK _ _ ?_;clear hK
  rotate_left
  go_simp;refine hK _ _ ?_;clear hK
  refine wpAnyIn_ready (rs:=[0,1]) (by kernel_rfl) (by simp) (.cons (i:=0) rfl (fun K hK => ?_) (.cons (i:=1) rfl (fun K hK => ?_) .nil))
  go_simp;refine hK _ _ ?_;clear hK
  refine rdy1 1 (by kernel_rfl) rfl fun K hK => ?_
  go_simp;refine hK _ _ ?_;clear hK
  rotate_left
  go_simp;refine hK _ _ ?_;clear hK
  refine wpAnyIn_ready (rs:=[0,4]) (by kernel_rfl) (by simp) (.cons (i:=0) rfl (fun K hK => ?_) (.cons (i:=4) rfl (fun K hK => ?_) .nil))
  go_simp;refine hK _ _ ?_;clear hK
  rotate_left
  go_simp;refine⟨trivial,by simp[Fence.wide],(HC.out _ rfl).mono ?_⟩
  rintro e W5 ⟨a6,c6,rfl,hlo,hb5'⟩;obtain⟨g',cap',W7,hrun,r1,r2,r3,r4,hfin⟩:=HW.out W5 a6 c6 hlo hb5'
  have Hfin:=hideA hfin;clear hfin;refine hK _ _ ?_
  clear hK;refine wpAnyIn_ready (rs:=[0,5]) (by kernel_rfl) (by simp) (.cons (i:=0) rfl (fun K hK => ?_) (.cons (i:=5) rfl (fun K hK => ?_) .nil))
  go_simp;refine hK _ _ ?_;clear hK
  refine rdy1 5 (by kernel_rfl) rfl fun K hK => ?_
  go_simp;refine hK _ _ ?_;clear hK
  rotate_left
  go_simp;refine hK _ _ ?_;clear hK
  refine rdy1 0 (by kernel_rfl) rfl fun K hK => ?_
  go_simp;refine hK _ _ ?_;clear hK
  rotate_left
  any_goals (
   refine rdy1 4 (by kernel_rfl) rfl fun K hK => ?_
   go_simp;refine⟨trivial,by simp[Fence.wide],(HC.out _ rfl).mono ?_⟩
   rintro e W5 ⟨a6,c6,rfl,hlo,hb5'⟩;obtain⟨g',cap',W7,hrun,r1,r2,r3,r4,hfin⟩:=HW.out W5 a6 c6 hlo hb5'
   have Hfin:=hideA hfin;clear hfin;refine hK _ _ ?_
   clear hK;refine rdy1 5 (by kernel_rfl) rfl fun K hK => ?_
   go_simp;refine hK _ _ ?_;clear hK)
  all_goals (
   refine rdy1 6 (by kernel_rfl) rfl fun K hK=>oia rfl (.tmp 30) (.tmp 35) 97 rfl _ _ _ _ (by simp[Act.eval]) (by simp[Act.eval]) hrun (hK _ _ ?_)
   refine rdy1 7 (by kernel_rfl) rfl fun K hK => ?_
   go_simp;refine hK _ _ ?_;clear hK
   refine (wpAnyIn_done (by kernel_rfl) ?_) _
   exact Hfin.out)
 case done =>
  rintro D ys W hD rfl ⟨v,ws,I⟩ hK;have c5:W.cell? ⟨X3.heap.size+1,0,none⟩=some v:=coh I.sent 0
  obtain⟨a7,c7,rfl⟩:=osh I.row
  have HI:=hideA I;clear I;gi_wp2
  refine⟨by simp,.inl ⟨_,_,rfl,run_takeDeferred hK, ?_⟩⟩
  refine⟨_,results_tmp rfl _ _ _,_,rfl, ?_,HI.out.be.trans (belowK_b (w:=w) (Nat.le_refl _) W D _ _ (by have:=hbw6.size;omega) hK rfl rfl)⟩
  have hk:=HI.out.keep (cells_grown (grownBy_putObj' W D (.deferred none)) (fun r e=>by cases e;exact⟨_,hK,rfl⟩)) (HI.out.be.trans (belowK_b (w:=w) (Nat.le_refl _) W D _ _ (by have:=hbw6.size;omega) hK rfl rfl))
  rw[← from_places r.commit r.log.length (r.forward own nx)]
  exact⟨ws,hk.msgs,by have:=hk.row;rw[List.length_map] at this ⊢;exact this,hk.lists⟩
 case stop =>
  rintro D c' pre W hD hpre hF hK;exact hF.elim
end Go.Proofs.YtgieeeeeiggoeaaGreat
