import Derived.Test.YtgieeeeeiggoeaaGreatQ44
import Derived.Test.YtgieeeeeiggoeaaGreatQ17
import Derived.Test.YtgieeeeeiggoeaaGreatQ15
namespace Go.Proofs.YtgieeeeeiggoeaaGreat
open Go.RowKit Go.Shelf
theorem num_rep {n k : Nat} (h : k < n) : numOf n k = (k : Int) := by unfold numOf; rw [if_pos h]
theorem num_acc {n i : Nat} (h : i < 3) : numOf n (n + i) = 100 + (i : Int) := by unfold numOf; rw [if_neg (by omega),if_pos (by omega)]; omega
theorem num_mas {n i : Nat} : numOf n (n + 3 + i) = 200 + (i : Int) := by unfold numOf; rw [if_neg (by omega),if_neg (by omega)]; omega
theorem firstInts_lenC (n : Nat) : (firstInts n).length = n := by simp [firstInts]
theorem Built.below {w0 w w1 : World} {x n k : Nat} {b : Nat → Nat} {Fn : Nat → Nat → Prop} {vs vr va vm : Value} (h : Built w0 w x n k b Fn vs vr va vm) (h1 : Below w.heap.size w w1) : Built w0 w1 x n k b Fn vs vr va vm :=
 ⟨(h1.block x (Array.getElem?_eq_some_iff.1 h.blk).1).trans h.blk,owns_kept h.rs fun z _ hz => h1.block z hz,owns_kept h.rr fun z _ hz => h1.block z hz,owns_kept h.ra fun z _ hz => h1.block z hz,owns_kept h.rm fun z _ hz => h1.block z hz,fun j hj => (h.nod j hj).keep fun z hz => h1.block z ((h.nod j hj).lt hz),h.sep,h.off,h.newO,h.newN,h.bel.trans (h1.mono h.bel.size)⟩
theorem Built.zero {w X : World} {n : Nat} (hb : Below w.heap.size w X) (hM : X.heap[w.heap.size]? = some (.cells #[.slice none 0 0, .slice none 0 0, .slice none 0 0, .slice none 0 0, .slice none 0 0, .slice none 0 0] 93)) :
  Built w X w.heap.size n 0 (fun _ => 0) (fun _ _ => False) (.slice none 0 0) (.slice none 0 0) (.slice none 0 0) (.slice none 0 0) := by
 have e1 : min 0 n = 0 := by omega
 have e2 : min (0 - n) 3 = 0 := by omega
 have e3 : 0 - n - 3 = 0 := by omega
 refine ⟨hM,World.ownsRow_nil _ _ _ _,by rw [e1]; exact World.ownsRow_nil _ _ _ _,by rw [e2]; exact World.ownsRow_nil _ _ _ _,by rw [e3]; exact World.ownsRow_nil _ _ _ _,fun j hj => absurd hj (Nat.not_lt_zero _),fun i j hi => absurd hi (Nat.not_lt_zero _),fun j hj => absurd hj (Nat.not_lt_zero _), ?_,fun j hj => absurd hj (Nat.not_lt_zero _),hb⟩
 rintro z (e | e | e | e | e)
 ·omega
 all_goals exact absurd e no_row
theorem row_at {w : World} {g c : Nat} {a : Int} {m i : Nat} (h : w.ownsRow 0 3 1 (.slice (some ⟨g,0,none⟩) m c) m (ints (runOf a m))) (hi : i < m) : w.cell? ⟨g,i,none⟩ = some (.int .i64 (a + (i : Int))) := by
 rw [World.ownsRow.cellAt h i (by omega)]
 unfold ints runOf
 rw [List.getElem?_map,List.getElem?_map,List.getElem?_range hi]
 rfl
theorem Built.row {w0 w w1 w3 : World} {x n k m c g : Nat} {a : Int} {b : Nat → Nat} {Fn : Nat → Nat → Prop} {vs vr va vm : Value} (h : Built w0 w x n k b Fn vs vr va vm) (h1 : Below w.heap.size w w1) (hM : Moved w1 w3 (OwnB x vs vr va vm)) (hv : w.ownsRow 0 3 1 (.slice (some ⟨g,0,none⟩) m c) m (ints (runOf a m))) : w3.ownsRow 0 3 1 (.slice (some ⟨g,0,none⟩) m c) m (ints (runOf a m)) := by
 have h2 : IntOwn w (.slice (some ⟨g,0,none⟩) m c) (runOf a m) := by unfold IntOwn; rw [run_len]; exact hv
 have h3 := h.keepInts h1 hM h2
 unfold IntOwn at h3
 rwa [run_len] at h3
set_option maxRecDepth 100000 in
set_option maxHeartbeats 4000000 in
theorem newCluster_any (n : Nat) (w : World) (h1 : 1 ≤ n) (h5 : n ≤ 5) :
  Calls Tryz.prog 53 #[.int .i64 (n : Int)] w fun e w' => ∃ b Fn vs vr va vm,e = .returned (.pointer (some ⟨w.heap.size,0,none⟩)) ∧ Built w w' w.heap.size n (n + 5) b Fn vs vr va vm := by
 have HN := fun W => hideA (memNumbers_any 0 n W h5 (by omega))
 have HN1 : Hid (∀ W,Calls Tryz.prog 106 #[.int .i64 100, .int .i64 3] W fun e w' => ∃ c,e = .returned (.slice (some ⟨W.heap.size,0,none⟩) 3 c) ∧ w'.ownsRow W.heap.size 3 1 (.slice (some ⟨W.heap.size,0,none⟩) 3 c) 3 (ints (runOf 100 3)) ∧ Below W.heap.size W w') := hideA fun W => memNumbers_any 100 3 W (by omega) (by omega)
 have HN2 : Hid (∀ W,Calls Tryz.prog 106 #[.int .i64 200, .int .i64 2] W fun e w' => ∃ c,e = .returned (.slice (some ⟨W.heap.size,0,none⟩) 2 c) ∧ w'.ownsRow W.heap.size 3 1 (.slice (some ⟨W.heap.size,0,none⟩) 2 c) 2 (ints (runOf 200 2)) ∧ Below W.heap.size W w') := hideA fun W => memNumbers_any 200 2 W (by omega) (by omega)
 have HA := @add_any
 have HAH := hideA HA
 clear HA
 go_enter Tryz.func53,Tryz.ntmps53
 go_upto_region 2 with fail
 obtain ⟨X,hX,hbX,hM⟩ := box_more1 w #[.slice none 0 0, .slice none 0 0, .slice none 0 0, .slice none 0 0, .slice none 0 0, .slice none 0 0] 93
 rw [hX]
 clear hX
 have HB0 := hideA (Built.zero (n := n) hbX hM)
 clear hM
 go_wp2_with fail
 refine (HN X).out.mono ?_
 rintro e Y ⟨c,rfl,o1,hbY⟩
 have HY : Hid (Built w Y w.heap.size n 0 (fun _ => 0) (fun _ _ => False) (.slice none 0 0) (.slice none 0 0) (.slice none 0 0) (.slice none 0 0) ∧ IntOwn Y (.slice (some ⟨X.heap.size,0,none⟩) n c) (firstInts n)) := hideA ⟨HB0.out.below hbY,by
  have := owns_base o1 (Nat.zero_le _)
  unfold IntOwn
  rw [← run_first,run_len]
  exact this⟩
 clear o1 hbY hbX
 generalize hga : X.heap.size = ga at *
 generalize hx0 : w.heap.size = x at *
 go_wp2_with fail
 go_loopw [20] (fun i wr => ∃ k : Nat,k ≤ n ∧ i = .int .i64 k ∧ ∃ b Fn vs vr,Built w wr x n k b Fn vs vr (.slice none 0 0) (.slice none 0 0) ∧ IntOwn wr (.slice (some ⟨ga,0,none⟩) n c) (firstInts n)) (fun i _ => n - (intOf i).toNat)
 case atStart => exact ⟨0,Nat.zero_le _,rfl,_,_,_,_,HY.out.1,HY.out.2⟩
 case round =>
  obtain ⟨k,hk,rfl,b,Fn,vs,vr,hB,hI⟩ := hrel
  by_cases hlt : k < n
  ·have hk1 : (k : Int) < (n : Int) := by omega
   have hI' : wr.ownsRow 0 3 1 (.slice (some ⟨ga,0,none⟩) n c) n (ints (firstInts n)) := by
    have := hI
    unfold IntOwn at this
    rwa [firstInts_lenC] at this
   have ck : wr.cell? ⟨ga,k,none⟩ = some (.int .i64 (k : Int)) := by
    rw [World.ownsRow.cellAt hI' k (by omega)]
    unfold ints firstInts
    rw [List.getElem?_map,List.getElem?_map,List.getElem?_range hlt]
    rfl
   have HC := hideA (newRep_nod n k _ wr hlt hI h5)
   rw [num_rep hlt] at HC
   have hmin : min k n = k := by omega
   obtain ⟨ar,cr,hvr⟩ := owns_shape hB.rr
   rw [hmin] at hvr
   subst hvr
   have HB := hideA (And.intro hB hI)
   have HMin := hideA hmin
   clear hB hI hI' hmin
   go_wp2_with fail
   refine HC.out.mono ?_
   rintro e W1 ⟨b',F',rfl,q1,q2,q3⟩
   have B1 := HB.out.1.below q3
   obtain ⟨g',cap',W2,hrun,hx2,hrow2,hM2,hG2⟩ := ptr_app (t := 85) infoPR Tryz.underlying85 (by decide) W1 x k (.slice ar k cr) (ptrs b 0 k) (some ⟨b',0,none⟩) _ (by have := B1.rr; rwa [HMin.out] at this) B1.blk (by omega)
   have HS : Hid (∀ vs' w3,w3.heap[x]? = some (.cells #[vs', .slice (some ⟨g',0,none⟩) (k + 1) cap', .slice none 0 0, .slice none 0 0, .slice none 0 0, .slice none 0 0] 93) → w3.ownsRow 0 183 3 vs' (k + 1) ((List.range k).flatMap (staOf n b) ++ [.int .i64 (k : Int), .int .i64 0, .iface 129 (.pointer (some ⟨b',0,none⟩))]) → Moved (W2.setCell ⟨x,1,none⟩ (.slice (some ⟨g',0,none⟩) (k + 1) cap')) w3 (fun z => z = x ∨ vs.ownBlock = some z) → Grows (W2.setCell ⟨x,1,none⟩ (.slice (some ⟨g',0,none⟩) (k + 1) cap')) vs vs' →
     Built w w3 x n (k + 1) (putB b k b') (putF Fn k F') vs' (.slice (some ⟨g',0,none⟩) (k + 1) cap') (.slice none 0 0) (.slice none 0 0) ∧ IntOwn w3 (.slice (some ⟨ga,0,none⟩) n c) (firstInts n)) := hideA fun vs' w3 z1 z2 z3 z4 => by
    have hty : nodTy (firstNod n k) = 129 := by unfold firstNod; rw [if_pos hlt]; rfl
    obtain ⟨r1,r2⟩ := HB.out.1.stepR b' F' hlt q3 (by rw [num_rep hlt]; exact q1) q2 (by rw [HMin.out]; exact hrow2) hM2 hG2 hx2 z1 (by rw [hty,num_rep hlt]; exact z2) z3 z4
    exact ⟨r1,HB.out.1.keepInts q3 r2 HB.out.2⟩
   have HD := hideA (HAH.out x k vs (.slice (some ⟨g',0,none⟩) (k + 1) cap') (.slice none 0 0) (.slice none 0 0) (.slice none 0 0) (.slice none 0 0) ((List.range k).flatMap (staOf n b)) (k : Int) 129 (some ⟨b',0,none⟩) (W2.setCell ⟨x,1,none⟩ (.slice (some ⟨g',0,none⟩) (k + 1) cap')) (set6_1 _ hx2)
    (ownsRow_setCell_other (hM2.owns B1.rs (fun z e e2 => owns_two B1.rs B1.rr (by decide) z e e2)) (blk_type B1.blk B1.rs (by decide)) _) (by omega))
   have c1 := cell_of_heap B1.blk 1
   have d1 := cell_of_heap hx2 1
   have e1 := frozen_of_heap hx2 1
   have HR := hideA hrun
   clear hrun hrow2 hM2 hG2 hx2 B1 q1 q2 q3 ck
   go_wp2_with (at_builtin; refine wpList_append_run rfl (.tmp 31) (.tmp 33) 85 rfl _ _ _ _ (by simp [Act.eval]) (by simp [Act.eval]) HR.out ?_)
   go_wp2_with fail
   refine HD.out.mono ?_
   rintro e w3 ⟨⟨v9,rfl⟩,vs',z1,z2,z3,z4⟩
   have HFin := hideA (HS.out vs' w3 z1 z2 z3 z4)
   clear z1 z2 z3 z4 c1 d1 e1
   go_wp2_with fail
   go_roundw
   case rel => exact ⟨k + 1,by omega,by go_num,_,_,_,_,HFin.out.1,HFin.out.2⟩
   case measure => simp [intOf]; omega
  ·obtain rfl : k = n := by omega
   have HBn := hideA (And.intro hB hI)
   clear hB hI HY hlt
   go_wp2_with fail
   refine (HN1.out _).mono ?_
   rintro e Y1 ⟨c1x,rfl,o1,hbY⟩
   have HY := hideA (And.intro (HBn.out.1.below hbY) (And.intro (owns_kept HBn.out.2 fun z _ hz => hbY.block z hz) (owns_base o1 (Nat.zero_le _))))
   clear o1 hbY HBn
   generalize hgb : wr.heap.size = g45 at *
   go_wp2_with fail
   go_loopw [45] (fun ix wr => ∃ i : Nat,i ≤ 3 ∧ ix = .int .i64 i ∧ ∃ b Fn vs va,Built w wr x k (k + i) b Fn vs vr va (.slice none 0 0) ∧ IntOwn wr (.slice (some ⟨ga,0,none⟩) k c) (firstInts k) ∧ wr.ownsRow 0 3 1 (.slice (some ⟨g45,0,none⟩) 3 c1x) 3 (ints (runOf 100 3))) (fun ix _ => 3 - (intOf ix).toNat)
   case atStart => exact ⟨0,Nat.zero_le _,rfl,_,_,_,_,HY.out.1,HY.out.2.1,HY.out.2.2⟩
   case round =>
    obtain ⟨i,hi,rfl,b,Fn,vs,va,hB,hI,hR⟩ := hrel
    by_cases hlt : i < 3
    ·have hi1 : (i : Int) < 3 := by omega
     have ck := row_at hR hlt
     have HC := hideA (newAcc_nod k (k + i) _ wr (by omega) (by omega) hI h5)
     rw [num_acc hlt] at HC
     have hmin : min (k + i - k) 3 = i := by omega
     obtain ⟨ar,cr,hvr⟩ := owns_shape hB.ra
     rw [hmin] at hvr
     subst hvr
     have HB := hideA (And.intro hB (And.intro hI hR))
     have HMin := hideA hmin
     clear hB hI hR hmin
     go_wp2_with fail
     refine HC.out.mono ?_
     rintro e W1 ⟨b',F',rfl,q1,q2,q3⟩
     have B1 := HB.out.1.below q3
     obtain ⟨g',cap',W2,hrun,hx2,hrow2,hM2,hG2⟩ := ptr_app (t := 86) infoPA Tryz.underlying86 (by decide) W1 x i (.slice ar i cr) (ptrs b k i) (some ⟨b',0,none⟩) _ (by have := B1.ra; rwa [HMin.out] at this) B1.blk (by omega)
     have HS : Hid (∀ vs' w3,w3.heap[x]? = some (.cells #[vs',vr, .slice (some ⟨g',0,none⟩) (i + 1) cap', .slice none 0 0, .slice none 0 0, .slice none 0 0] 93) → w3.ownsRow 0 183 3 vs' (k + i + 1) ((List.range (k + i)).flatMap (staOf k b) ++ [.int .i64 (100 + (i : Int)), .int .i64 0, .iface 99 (.pointer (some ⟨b',0,none⟩))]) → Moved (W2.setCell ⟨x,2,none⟩ (.slice (some ⟨g',0,none⟩) (i + 1) cap')) w3 (fun z => z = x ∨ vs.ownBlock = some z) → Grows (W2.setCell ⟨x,2,none⟩ (.slice (some ⟨g',0,none⟩) (i + 1) cap')) vs vs' →
       Built w w3 x k (k + i + 1) (putB b (k + i) b') (putF Fn (k + i) F') vs' vr (.slice (some ⟨g',0,none⟩) (i + 1) cap') (.slice none 0 0) ∧ IntOwn w3 (.slice (some ⟨ga,0,none⟩) k c) (firstInts k) ∧ w3.ownsRow 0 3 1 (.slice (some ⟨g45,0,none⟩) 3 c1x) 3 (ints (runOf 100 3))) := hideA fun vs' w3 z1 z2 z3 z4 => by
      have hty : nodTy (firstNod k (k + i)) = 99 := by unfold firstNod; rw [if_neg (by omega),if_pos (by omega)]; rfl
      obtain ⟨r1,r2⟩ := HB.out.1.stepA b' F' (by omega) (by omega) q3 (by rw [num_acc hlt]; exact q1) q2 (by rw [HMin.out]; exact hrow2) hM2 hG2 hx2 z1 (by rw [hty,num_acc hlt]; exact z2) z3 z4
      exact ⟨r1,HB.out.1.keepInts q3 r2 HB.out.2.1,HB.out.1.row q3 r2 HB.out.2.2⟩
     have HD := hideA (HAH.out x (k + i) vs (vr) (.slice (some ⟨g',0,none⟩) (i + 1) cap') (.slice none 0 0) (.slice none 0 0) (.slice none 0 0) ((List.range (k + i)).flatMap (staOf k b)) (100 + (i : Int)) 99 (some ⟨b',0,none⟩) (W2.setCell ⟨x,2,none⟩ (.slice (some ⟨g',0,none⟩) (i + 1) cap')) (set6_2 _ hx2)
      (ownsRow_setCell_other (hM2.owns B1.rs (fun z e e2 => owns_two B1.rs B1.ra (by decide) z e e2)) (blk_type B1.blk B1.rs (by decide)) _) (by omega))
     have c1 := cell_of_heap B1.blk 2
     have d1 := cell_of_heap hx2 2
     have e1 := frozen_of_heap hx2 2
     have HR := hideA hrun
     clear hrun hrow2 hM2 hG2 hx2 B1 q1 q2 q3 ck
     go_wp2_with (at_builtin; refine wpList_append_run rfl (.tmp 56) (.tmp 58) 86 rfl _ _ _ _ (by simp [Act.eval]) (by simp [Act.eval]) HR.out ?_)
     go_wp2_with fail
     refine HD.out.mono ?_
     rintro e w3 ⟨⟨v9,rfl⟩,vs',z1,z2,z3,z4⟩
     have HFin := hideA (HS.out vs' w3 z1 z2 z3 z4)
     clear z1 z2 z3 z4 c1 d1 e1
     go_wp2_with fail
     go_roundw
     case rel => exact ⟨i + 1,by omega,by go_num,_,_,_,_,HFin.out.1,HFin.out.2.1,HFin.out.2.2⟩
     case measure => simp [intOf]; omega
    ·obtain rfl : i = 3 := by omega
     have HBn := hideA (And.intro hB hI)
     clear hB hI HY hlt hR
     go_wp2_with fail
     refine (HN2.out _).mono ?_
     rintro e Y2 ⟨c2x,rfl,o1,hbY⟩
     have HY := hideA (And.intro (HBn.out.1.below hbY) (And.intro (trivial) (owns_base o1 (Nat.zero_le _))))
     clear o1 hbY HBn
     generalize hgb : wr.heap.size = g70 at *
     go_wp2_with fail
     go_loopw [70] (fun ix wr => ∃ i : Nat,i ≤ 2 ∧ ix = .int .i64 i ∧ ∃ b Fn vs vm,Built w wr x k (k + 3 + i) b Fn vs vr va vm ∧ True ∧ wr.ownsRow 0 3 1 (.slice (some ⟨g70,0,none⟩) 2 c2x) 2 (ints (runOf 200 2))) (fun ix _ => 2 - (intOf ix).toNat)
     case atStart => exact ⟨0,Nat.zero_le _,rfl,_,_,_,_,HY.out.1,HY.out.2.1,HY.out.2.2⟩
     case round =>
      obtain ⟨i,hi,rfl,b,Fn,vs,vm,hB,hI,hR⟩ := hrel
      by_cases hlt : i < 2
      ·have hi1 : (i : Int) < 2 := by omega
       have ck := row_at hR hlt
       have HC := hideA (newMas_nod k (k + 3 + i) wr (by omega))
       rw [num_mas] at HC
       have hmin : k + 3 + i - k - 3 = i := by omega
       obtain ⟨ar,cr,hvr⟩ := owns_shape hB.rm
       rw [hmin] at hvr
       subst hvr
       have HB := hideA (And.intro hB (And.intro hI hR))
       have HMin := hideA hmin
       clear hB hI hR hmin
       go_wp2_with fail
       refine HC.out.mono ?_
       rintro e W1 ⟨b',F',rfl,q1,q2,q3⟩
       have B1 := HB.out.1.below q3
       obtain ⟨g',cap',W2,hrun,hx2,hrow2,hM2,hG2⟩ := ptr_app (t := 87) infoPM Tryz.underlying87 (by decide) W1 x i (.slice ar i cr) (ptrs b (k + 3) i) (some ⟨b',0,none⟩) _ (by have := B1.rm; rwa [HMin.out] at this) B1.blk (by omega)
       have HS : Hid (∀ vs' w3,w3.heap[x]? = some (.cells #[vs',vr,va, .slice (some ⟨g',0,none⟩) (i + 1) cap', .slice none 0 0, .slice none 0 0] 93) → w3.ownsRow 0 183 3 vs' (k + 3 + i + 1) ((List.range (k + 3 + i)).flatMap (staOf k b) ++ [.int .i64 (200 + (i : Int)), .int .i64 0, .iface 81 (.pointer (some ⟨b',0,none⟩))]) → Moved (W2.setCell ⟨x,3,none⟩ (.slice (some ⟨g',0,none⟩) (i + 1) cap')) w3 (fun z => z = x ∨ vs.ownBlock = some z) → Grows (W2.setCell ⟨x,3,none⟩ (.slice (some ⟨g',0,none⟩) (i + 1) cap')) vs vs' →
         Built w w3 x k (k + 3 + i + 1) (putB b (k + 3 + i) b') (putF Fn (k + 3 + i) F') vs' vr va (.slice (some ⟨g',0,none⟩) (i + 1) cap') ∧ True ∧ w3.ownsRow 0 3 1 (.slice (some ⟨g70,0,none⟩) 2 c2x) 2 (ints (runOf 200 2))) := hideA fun vs' w3 z1 z2 z3 z4 => by
        have hty : nodTy (firstNod k (k + 3 + i)) = 81 := by unfold firstNod; rw [if_neg (by omega),if_neg (by omega)]; rfl
        obtain ⟨r1,r2⟩ := HB.out.1.stepM b' F' (by omega) q3 (by rw [num_mas]; exact q1) q2 (by rw [HMin.out]; exact hrow2) hM2 hG2 hx2 z1 (by rw [hty,num_mas]; exact z2) z3 z4
        exact ⟨r1,trivial,HB.out.1.row q3 r2 HB.out.2.2⟩
       have HD := hideA (HAH.out x (k + 3 + i) vs (vr) (va) (.slice (some ⟨g',0,none⟩) (i + 1) cap') (.slice none 0 0) (.slice none 0 0) ((List.range (k + 3 + i)).flatMap (staOf k b)) (200 + (i : Int)) 81 (some ⟨b',0,none⟩) (W2.setCell ⟨x,3,none⟩ (.slice (some ⟨g',0,none⟩) (i + 1) cap')) (set6_3 _ hx2)
        (ownsRow_setCell_other (hM2.owns B1.rs (fun z e e2 => owns_two B1.rs B1.rm (by decide) z e e2)) (blk_type B1.blk B1.rs (by decide)) _) (by omega))
       have c1 := cell_of_heap B1.blk 3
       have d1 := cell_of_heap hx2 3
       have e1 := frozen_of_heap hx2 3
       have HR := hideA hrun
       clear hrun hrow2 hM2 hG2 hx2 B1 q1 q2 q3 ck
       go_wp2_with (at_builtin; refine wpList_append_run rfl (.tmp 80) (.tmp 82) 87 rfl _ _ _ _ (by simp [Act.eval]) (by simp [Act.eval]) HR.out ?_)
       go_wp2_with fail
       refine HD.out.mono ?_
       rintro e w3 ⟨⟨v9,rfl⟩,vs',z1,z2,z3,z4⟩
       have HFin := hideA (HS.out vs' w3 z1 z2 z3 z4)
       clear z1 z2 z3 z4 c1 d1 e1
       go_wp2_with fail
       go_roundw
       case rel => exact ⟨i + 1,by omega,by go_num,_,_,_,_,HFin.out.1,HFin.out.2.1,HFin.out.2.2⟩
       case measure => simp [intOf]; omega
      ·obtain rfl : i = 2 := by omega
       have HBn := hideA (And.intro hB hI)
       clear hB hI HY hlt hR
       go_wp2_with fail
       go_ret
       rw [hx0]
       exact ⟨_,_,_,_,_,_,rfl,HBn.out.1⟩
theorem sta_flat (n : Nat) (b : Nat → Nat) : ∀ (m j t : Nat),j < m → t < 3 → ((List.range m).flatMap (staOf n b))[j * 3 + t]? = (staOf n b j)[t]? := by
 intro m
 induction m with
 | zero => intro j t hj; omega
 | succ m ih =>
  intro j t hj ht
  have hl : ((List.range m).flatMap (staOf n b)).length = m * 3 := by
   rw [List.length_flatMap]
   have : (List.range m).map (fun a => (staOf n b a).length) = (List.range m).map (fun _ => 3) := List.map_congr_left fun a _ => rfl
   rw [this]
   simp [List.map_const']
  rw [sta_snoc]
  by_cases e : j = m
  ·subst e
   rw [List.getElem?_append_right (by omega),hl,show j * 3 + t - j * 3 = t by omega]
  ·rw [List.getElem?_append_left (by omega)]
   exact ih j t (by omega) ht
theorem Built.done {w0 w : World} {x n : Nat} {b : Nat → Nat} {Fn : Nat → Nat → Prop} {vs vr va vm : Value} (h : Built w0 w x n (n + 5) b Fn vs vr va vm) (h1 : 1 ≤ n) (h5 : n ≤ 5) :
  ∃ F,CAt w F x (Clu.first n) ∧ ∀ k,F k → w0.heap.size ≤ k := by
 have hn : (Clu.first n).reps.length = n := by simp [Clu.first]
 obtain ⟨gs,cap,hv, -, -⟩ := h.rs.form (by omega)
 subst hv
 obtain ⟨cs,hcs, -⟩ := ownBlock_cells h.rs (k := gs) rfl
 obtain ⟨_,_,hcapv,hcap⟩ := own_cap h.rs
 cases hcapv
 have hO : ∀ z,OwnS x gs vr va vm (.slice none 0 0) (.slice none 0 0) z → OwnB x (.slice (some ⟨gs,0,none⟩) (n + 5) cap) vr va vm z := by
  rintro z (e | e | e | e | e | e | e)
  ·exact .inl e
  ·exact .inr (.inl (by rw [e]; rfl))
  ·exact .inr (.inr (.inl e))
  ·exact .inr (.inr (.inr (.inl e)))
  ·exact .inr (.inr (.inr (.inr e)))
  ·exact absurd e no_row
  ·exact absurd e no_row
 have hlt : ∀ z,OwnB x (.slice (some ⟨gs,0,none⟩) (n + 5) cap) vr va vm z → z < w.heap.size := by
  intro z hz
  have key : ∀ {base size n : Nat} {e : TypeId} {v : Value} {xs : List Value},w.ownsRow base e size v n xs → v.ownBlock = some z → z < w.heap.size := fun hr e => (Array.getElem?_eq_some_iff.1 (ownBlock_cells hr e).choose_spec.1).1
  rcases hz with e | e | e | e | e
  ·rw [e]; exact (Array.getElem?_eq_some_iff.1 h.blk).1
  ·exact key h.rs e
  ·exact key h.rr e
  ·exact key h.ra e
  ·exact key h.rm e
 have hnodj : ∀ j,j < n + 5 → (Clu.first n).nod j = firstNod n j := fun j hj => nod_first n j hj
 refine ⟨fun z => OwnB x (.slice (some ⟨gs,0,none⟩) (n + 5) cap) vr va vm z ∨ ∃ j,j < n + 5 ∧ Fn j z,⟨gs,cap,b,Fn,vr,va,vm, .slice none 0 0, .slice none 0 0, ?_⟩, ?_⟩
 ·refine ⟨?_, ?_, ?_, ?_, ?_, ?_, ?_, ?_, ?_, ?_, ?_, ?_, ?_, ?_, ?_,rfl,rfl⟩
  ·rw [hn]
   exact ⟨h.blk,World.ownsRow_nil _ _ _ _⟩
  ·rw [hn]
   refine ⟨cs,hcs,fun j hj => ?_⟩
   have key : ∀ t,t < 3 → cs[j * 3 + t]? = (staOf n b j)[t]? := fun t ht => by
    rw [← cell_of_heap hcs (j * 3 + t),World.ownsRow.cellAt h.rs (j * 3 + t) (by omega)]
    exact sta_flat n b (n + 5) j t hj ht
   have hup : (firstNod n j).up = true := by
    unfold firstNod
    split
    ·rfl
    ·split <;> rfl
   unfold Clu.sta
   rw [hn,hnodj j hj,hup]
   exact ⟨key 0 (by omega),key 1 (by omega),key 2 (by omega)⟩
  ·rw [hn]; exact hcap
  ·rw [hn]
   have := h.rr
   rwa [show min (n + 5) n = n by omega] at this
  ·rw [hn]
   have := h.ra
   rwa [show min (n + 5 - n) 3 = 3 by omega] at this
  ·rw [hn]
   have := h.rm
   rwa [show n + 5 - n - 3 = 2 by omega] at this
  ·exact World.ownsRow_nil _ _ _ _
  ·intro j hj
   rw [hn] at hj ⊢
   rw [hnodj j hj]
   exact h.nod j hj
  ·intro i j hi hj
   rw [hn] at hi hj
   exact h.sep i j hi hj
  ·intro j hj z hz hz2
   rw [hn] at hj
   exact h.off j hj z hz (hO z hz2)
  ·exact fun z hz => .inl (hO z hz)
  ·intro j hj z hz
   rw [hn] at hj
   exact .inr ⟨j,hj,hz⟩
  ·rintro z (hz | ⟨j,hj,hz⟩)
   ·exact hlt z hz
   ·exact (h.nod j hj).lt hz
  ·rw [hn]; exact h1
  ·rw [hn]; exact h5
 ·rintro z (hz | ⟨j,hj,hz⟩)
  ·exact h.newO z hz
  ·exact h.newN j hj z hz
set_option maxRecDepth 100000 in
theorem cluNew_any (n : Nat) (w : World) (h1 : 1 ≤ n) (h5 : n ≤ 5) :
  Calls Tryz.prog 26 #[.agg #[.int .i64 (n : Int)]] w fun e w' => ∃ x F,e = .returned (.tuple #[.pointer (some ⟨x,0,none⟩), .int .i64 0]) ∧ CAt w' F x (Clu.first n) ∧ (∀ k,F k → w.heap.size ≤ k) ∧ Below w.heap.size w w' := by
 have HC := fun W => hideA (newCluster_any n W h1 h5)
 have l1 : ¬ (n : Int) < 1 := by omega
 have l2 : ¬ (5 : Int) < (n : Int) := by omega
 go_enter Tryz.func26,Tryz.ntmps26
 go_upto_region 1 with fail
 obtain ⟨X,hX,hbX,hM⟩ := box_more1 w #[.int .i64 (n : Int)] 75
 rw [hX]
 clear hX
 have c0 := cell_of_heap hM 0
 clear hM
 go_wp2_with fail
 refine (HC X).out.mono ?_
 rintro e W ⟨b,Fn,vs,vr,va,vm,rfl,hB⟩
 have HB := hideA hB
 clear hB c0
 go_wp2_with fail
 go_ret2
 obtain ⟨F,q1,q2⟩ := HB.out.done h1 h5
 have hs := hbX.size
 exact ⟨_,F,rfl,q1,fun k hk => by have := q2 k hk; omega,hbX.trans (HB.out.bel.mono hs)⟩
end Go.Proofs.YtgieeeeeiggoeaaGreat
namespace Go.Proofs.YtgieeeeeiggoeaaGreat
open Go.RowKit
def Dec.value (d : Dec) (mem log : Value) : Value :=
 .tuple #[.agg #[.int .i64 d.k, .int .i64 d.f, .int .i64 d.t, .int .i64 d.ep, .int .i64 d.ba, .int .i64 d.vo, .int .i64 d.po, .int .i64 d.va,mem,log], .int .i64 d.err]
theorem wireDecode_any (L : List UInt8) (w : World) (hm : L.length ≤ 140737488355328) :
  Calls Tryz.prog 117 #[.string (bs L)] w fun e w' => Below w.heap.size w w' ∧ ∃ mem log,e = .returned ((decOf L).value mem log) ∧
   w'.ownsRow (w.heap.size + 1) 3 1 mem (decOf L).ms.length (ints (decOf L).ms) ∧ w'.ownsRow (w.heap.size + 1) 42 5 log (decOf L).es.length (ints (entsNums (decOf L).es)) := by
 by_cases h : L.length < 21
 ·refine (wireDecode_a L w h).mono ?_
  rintro e w' ⟨hb,rfl⟩
  rw [decOf_a h]
  exact ⟨hb,_,_,rfl,World.ownsRow_nil _ _ _ _,World.ownsRow_nil _ _ _ _⟩
 ·by_cases h2 : L.drop (L.length - 4) ≠ sumOf (L.take (L.length - 4))
  ·refine (wireDecode_b L _ w (by omega) hm rfl h2).mono ?_
   rintro e w' ⟨hb,rfl⟩
   rw [decOf_b h h2]
   exact ⟨hb,_,_,rfl,World.ownsRow_nil _ _ _ _,World.ownsRow_nil _ _ _ _⟩
  ·refine (wireDecode_c L _ w (by omega) hm rfl (by simpa using h2)).mono ?_
   rintro e w' ⟨hb,hp⟩
   rcases hp with ⟨h3,mem,log,o1,o2,rfl⟩ | ⟨h3,rfl⟩
   ·rw [decOf_d h h2 h3]
    exact ⟨hb,mem,log,rfl,o1,o2⟩
   ·rw [decOf_c h h2 (by simp [h3])]
    exact ⟨hb,_,_,rfl,World.ownsRow_nil _ _ _ _,World.ownsRow_nil _ _ _ _⟩
end Go.Proofs.YtgieeeeeiggoeaaGreat
