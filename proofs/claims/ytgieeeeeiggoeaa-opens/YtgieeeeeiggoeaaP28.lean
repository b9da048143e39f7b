import Derived.Test.YtgieeeeeiggoeaaP27
namespace Go.Proofs.Ytgieeeeeiggoeaa
open Go.RowKit Go.Shelf
theorem num_rep {n k : Nat} (h : k < n) : numOf n k = (k : Int) := by unfold numOf; rw [if_pos h]
theorem num_acc {n i : Nat} (h : i < 3) : numOf n (n + i) = 100 + (i : Int) := by unfold numOf; rw [if_neg (by omega), if_pos (by omega)]; omega
theorem num_mas {n i : Nat} : numOf n (n + 3 + i) = 200 + (i : Int) := by unfold numOf; rw [if_neg (by omega), if_neg (by omega)]; omega
theorem firstInts_lenC (n : Nat) : (firstInts n).length = n := by simp [firstInts]
theorem Built.below {w0 w w1 : World} {x n k : Nat} {b : Nat → Nat} {Fn : Nat → Nat → Prop} {vs vr va vm : Value} (h : Built w0 w x n k b Fn vs vr va vm) (h1 : Below w.heap.size w w1) : Built w0 w1 x n k b Fn vs vr va vm :=
 ⟨(h1.block x (Array.getElem?_eq_some_iff.1 h.blk).1).trans h.blk, owns_kept h.rs fun z _ hz => h1.block z hz, owns_kept h.rr fun z _ hz => h1.block z hz, owns_kept h.ra fun z _ hz => h1.block z hz, owns_kept h.rm fun z _ hz => h1.block z hz, fun j hj => (h.nod j hj).keep fun z hz => h1.block z ((h.nod j hj).lt hz), h.sep, h.off, h.newO, h.newN, h.bel.trans (h1.mono h.bel.size)⟩
theorem Built.zero {w X : World} {n : Nat} (hb : Below w.heap.size w X) (hM : X.heap[w.heap.size]? = some (.cells #[.slice none 0 0, .slice none 0 0, .slice none 0 0, .slice none 0 0, .slice none 0 0, .slice none 0 0] 153)) :
  Built w X w.heap.size n 0 (fun _ => 0) (fun _ _ => False) (.slice none 0 0) (.slice none 0 0) (.slice none 0 0) (.slice none 0 0) := by
 have e1 : min 0 n = 0 := by omega
 have e2 : min (0 - n) 3 = 0 := by omega
 have e3 : 0 - n - 3 = 0 := by omega
 refine ⟨hM, World.ownsRow_nil _ _ _ _, by rw [e1]; exact World.ownsRow_nil _ _ _ _, by rw [e2]; exact World.ownsRow_nil _ _ _ _, by rw [e3]; exact World.ownsRow_nil _ _ _ _, fun j hj => absurd hj (Nat.not_lt_zero _), fun i j hi => absurd hi (Nat.not_lt_zero _), fun j hj => absurd hj (Nat.not_lt_zero _), ?_, fun j hj => absurd hj (Nat.not_lt_zero _), hb⟩
 rintro z (e | e | e | e | e)
 ·omega
 all_goals exact absurd e no_row
theorem row_at {w : World} {g c : Nat} {a : Int} {m i : Nat} (h : w.ownsRow 0 3 1 (.slice (some ⟨g, 0, none⟩) m c) m (ints (runOf a m))) (hi : i < m) : w.cell? ⟨g, i, none⟩ = some (.int .i64 (a + (i : Int))) := by
 rw [World.ownsRow.cellAt h i (by omega)]
 unfold ints runOf
 rw [List.getElem?_map, List.getElem?_map, List.getElem?_range hi]
 rfl
theorem Built.row {w0 w w1 w3 : World} {x n k m c g : Nat} {a : Int} {b : Nat → Nat} {Fn : Nat → Nat → Prop} {vs vr va vm : Value} (h : Built w0 w x n k b Fn vs vr va vm) (h1 : Below w.heap.size w w1) (hM : Moved w1 w3 (OwnB x vs vr va vm)) (hv : w.ownsRow 0 3 1 (.slice (some ⟨g, 0, none⟩) m c) m (ints (runOf a m))) : w3.ownsRow 0 3 1 (.slice (some ⟨g, 0, none⟩) m c) m (ints (runOf a m)) := by
 have h2 : IntOwn w (.slice (some ⟨g, 0, none⟩) m c) (runOf a m) := by unfold IntOwn; rw [run_len]; exact hv
 have h3 := h.keepInts h1 hM h2
 unfold IntOwn at h3
 rwa [run_len] at h3
set_option maxRecDepth 100000 in
set_option maxHeartbeats 4000000 in
theorem newCluster_any (n : Nat) (w : World) (h1 : 1 ≤ n) (h5 : n ≤ 5) :
  Calls Try.prog 63 #[.int .i64 (n : Int)] w fun e w' => ∃ b Fn vs vr va vm, e = .returned (.pointer (some ⟨w.heap.size, 0, none⟩)) ∧ Built w w' w.heap.size n (n + 5) b Fn vs vr va vm := by
 have HN := fun W => hideA (memNumbers_any 0 n W h5 (by omega))
 have HN1 : Hid (∀ W, Calls Try.prog 78 #[.int .i64 100, .int .i64 3] W fun e w' => ∃ c, e = .returned (.slice (some ⟨W.heap.size, 0, none⟩) 3 c) ∧ w'.ownsRow W.heap.size 3 1 (.slice (some ⟨W.heap.size, 0, none⟩) 3 c) 3 (ints (runOf 100 3)) ∧ Below W.heap.size W w') := hideA fun W => memNumbers_any 100 3 W (by omega) (by omega)
 have HN2 : Hid (∀ W, Calls Try.prog 78 #[.int .i64 200, .int .i64 2] W fun e w' => ∃ c, e = .returned (.slice (some ⟨W.heap.size, 0, none⟩) 2 c) ∧ w'.ownsRow W.heap.size 3 1 (.slice (some ⟨W.heap.size, 0, none⟩) 2 c) 2 (ints (runOf 200 2)) ∧ Below W.heap.size W w') := hideA fun W => memNumbers_any 200 2 W (by omega) (by omega)
 have HA := @add_any
 have HAH := hideA HA
 clear HA
 go_enter Try.func63, Try.ntmps63
 go_upto_region 2 with fail
 obtain ⟨X, hX, hbX, hM⟩ := box_more1 w #[.slice none 0 0, .slice none 0 0, .slice none 0 0, .slice none 0 0, .slice none 0 0, .slice none 0 0] 153
 rw [hX]
 clear hX
 have HB0 := hideA (Built.zero (n := n) hbX hM)
 clear hM
 go_wp2_with fail
 refine (HN X).out.mono ?_
 rintro e Y ⟨c, rfl, o1, hbY⟩
 have HY : Hid (Built w Y w.heap.size n 0 (fun _ => 0) (fun _ _ => False) (.slice none 0 0) (.slice none 0 0) (.slice none 0 0) (.slice none 0 0) ∧ IntOwn Y (.slice (some ⟨X.heap.size, 0, none⟩) n c) (firstInts n)) := hideA ⟨HB0.out.below hbY, by
  have := owns_base o1 (Nat.zero_le _)
  unfold IntOwn
  rw [← run_first, run_len]
  exact this⟩
 clear o1 hbY hbX
 generalize hga : X.heap.size = ga at *
 generalize hx0 : w.heap.size = x at *
 go_wp2_with fail
 go_loopw [20] (fun i wr => ∃ k : Nat, k ≤ n ∧ i = .int .i64 k ∧ ∃ b Fn vs vr, Built w wr x n k b Fn vs vr (.slice none 0 0) (.slice none 0 0) ∧ IntOwn wr (.slice (some ⟨ga, 0, none⟩) n c) (firstInts n)) (fun i _ => n - (intOf i).toNat)
 case atStart => exact ⟨0, Nat.zero_le _, rfl, _, _, _, _, HY.out.1, HY.out.2⟩
 case round =>
  obtain ⟨k, hk, rfl, b, Fn, vs, vr, hB, hI⟩ := hrel
  by_cases hlt : k < n
  ·have hk1 : (k : Int) < (n : Int) := by omega
   have hI' : wr.ownsRow 0 3 1 (.slice (some ⟨ga, 0, none⟩) n c) n (ints (firstInts n)) := by
    have := hI
    unfold IntOwn at this
    rwa [firstInts_lenC] at this
   have ck : wr.cell? ⟨ga, k, none⟩ = some (.int .i64 (k : Int)) := by
    rw [World.ownsRow.cellAt hI' k (by omega)]
    unfold ints firstInts
    rw [List.getElem?_map, List.getElem?_map, List.getElem?_range hlt]
    rfl
   have HC := hideA (newRep_nod n k _ wr hlt hI h5)
   rw [num_rep hlt] at HC
   have hmin : min k n = k := by omega
   obtain ⟨ar, cr, hvr⟩ := owns_shape hB.rr
   rw [hmin] at hvr
   subst hvr
   have HB := hideA (And.intro hB hI)
   have HMin := hideA hmin
   clear hB hI hI' hmin
   go_wp2_with fail
   refine HC.out.mono ?_
   rintro e W1 ⟨b', F', rfl, q1, q2, q3⟩
   have B1 := HB.out.1.below q3
   obtain ⟨g', cap', W2, hrun, hx2, hrow2, hM2, hG2⟩ := ptr_app (t := 146) infoPR Try.underlying146 (by decide) W1 x k (.slice ar k cr) (ptrs b 0 k) (some ⟨b', 0, none⟩) _ (by have := B1.rr; rwa [HMin.out] at this) B1.blk (by omega)
   have HS : Hid (∀ vs' w3, w3.heap[x]? = some (.cells #[vs', .slice (some ⟨g', 0, none⟩) (k + 1) cap', .slice none 0 0, .slice none 0 0, .slice none 0 0, .slice none 0 0] 153) → w3.ownsRow 0 178 3 vs' (k + 1) ((List.range k).flatMap (staOf n b) ++ [.int .i64 (k : Int), .int .i64 0, .iface 155 (.pointer (some ⟨b', 0, none⟩))]) → Moved (W2.setCell ⟨x, 1, none⟩ (.slice (some ⟨g', 0, none⟩) (k + 1) cap')) w3 (fun z => z = x ∨ vs.ownBlock = some z) → Grows (W2.setCell ⟨x, 1, none⟩ (.slice (some ⟨g', 0, none⟩) (k + 1) cap')) vs vs' →
     Built w w3 x n (k + 1) (putB b k b') (putF Fn k F') vs' (.slice (some ⟨g', 0, none⟩) (k + 1) cap') (.slice none 0 0) (.slice none 0 0) ∧ IntOwn w3 (.slice (some ⟨ga, 0, none⟩) n c) (firstInts n)) := hideA fun vs' w3 z1 z2 z3 z4 => by
    have hty : nodTy (firstNod n k) = 155 := by unfold firstNod; rw [if_pos hlt]; rfl
    obtain ⟨r1, r2⟩ := HB.out.1.stepR b' F' hlt q3 (by rw [num_rep hlt]; exact q1) q2 (by rw [HMin.out]; exact hrow2) hM2 hG2 hx2 z1 (by rw [hty, num_rep hlt]; exact z2) z3 z4
    exact ⟨r1, HB.out.1.keepInts q3 r2 HB.out.2⟩
   have HD := hideA (HAH.out x k vs (.slice (some ⟨g', 0, none⟩) (k + 1) cap') (.slice none 0 0) (.slice none 0 0) (.slice none 0 0) (.slice none 0 0) ((List.range k).flatMap (staOf n b)) (k : Int) 155 (some ⟨b', 0, none⟩) (W2.setCell ⟨x, 1, none⟩ (.slice (some ⟨g', 0, none⟩) (k + 1) cap')) (set6_1 _ hx2)
    (ownsRow_setCell_other (hM2.owns B1.rs (fun z e e2 => owns_two B1.rs B1.rr (by decide) z e e2)) (blk_type B1.blk B1.rs (by decide)) _) (by omega))
   have c1 := cell_of_heap B1.blk 1
   have d1 := cell_of_heap hx2 1
   have e1 := frozen_of_heap hx2 1
   have HR := hideA hrun
   clear hrun hrow2 hM2 hG2 hx2 B1 q1 q2 q3 ck
   go_wp2_with (at_builtin; refine wpList_append_run rfl (.tmp 31) (.tmp 33) 146 rfl _ _ _ _ (by simp [Act.eval]) (by simp [Act.eval]) HR.out ?_)
   go_wp2_with fail
   refine HD.out.mono ?_
   rintro e w3 ⟨⟨v9, rfl⟩, vs', z1, z2, z3, z4⟩
   have HFin := hideA (HS.out vs' w3 z1 z2 z3 z4)
   clear z1 z2 z3 z4 c1 d1 e1
   go_wp2_with fail
   go_roundw
   case rel => exact ⟨k + 1, by omega, by go_num, _, _, _, _, HFin.out.1, HFin.out.2⟩
   case measure => simp [intOf]; omega
  ·obtain rfl : k = n := by omega
   have HBn := hideA (And.intro hB hI)
   clear hB hI HY hlt
   go_wp2_with fail
   refine (HN1.out _).mono ?_
   rintro e Y1 ⟨c1x, rfl, o1, hbY⟩
   have HY := hideA (And.intro (HBn.out.1.below hbY) (And.intro (owns_kept HBn.out.2 fun z _ hz => hbY.block z hz) (owns_base o1 (Nat.zero_le _))))
   clear o1 hbY HBn
   generalize hgb : wr.heap.size = g45 at *
   go_wp2_with fail
   go_loopw [45] (fun ix wr => ∃ i : Nat, i ≤ 3 ∧ ix = .int .i64 i ∧ ∃ b Fn vs va, Built w wr x k (k + i) b Fn vs vr va (.slice none 0 0) ∧ IntOwn wr (.slice (some ⟨ga, 0, none⟩) k c) (firstInts k) ∧ wr.ownsRow 0 3 1 (.slice (some ⟨g45, 0, none⟩) 3 c1x) 3 (ints (runOf 100 3))) (fun ix _ => 3 - (intOf ix).toNat)
   case atStart => exact ⟨0, Nat.zero_le _, rfl, _, _, _, _, HY.out.1, HY.out.2.1, HY.out.2.2⟩
   case round =>
    obtain ⟨i, hi, rfl, b, Fn, vs, va, hB, hI, hR⟩ := hrel
    by_cases hlt : i < 3
    ·have hi1 : (i : Int) < 3 := by omega
     have ck := row_at hR hlt
     have HC := hideA (newAcc_nod k (k + i) _ wr (by omega) (by omega) hI h5)
     rw [num_acc hlt] at HC
     have hmin : min (k + i - k) 3 = i := by omega
     obtain ⟨ar, cr, hvr⟩ := owns_shape hB.ra
     rw [hmin] at hvr
     subst hvr
     have HB := hideA (And.intro hB (And.intro hI hR))
     have HMin := hideA hmin
     clear hB hI hR hmin
     go_wp2_with fail
     refine HC.out.mono ?_
     rintro e W1 ⟨b', F', rfl, q1, q2, q3⟩
     have B1 := HB.out.1.below q3
     obtain ⟨g', cap', W2, hrun, hx2, hrow2, hM2, hG2⟩ := ptr_app (t := 147) infoPA Try.underlying147 (by decide) W1 x i (.slice ar i cr) (ptrs b k i) (some ⟨b', 0, none⟩) _ (by have := B1.ra; rwa [HMin.out] at this) B1.blk (by omega)
     have HS : Hid (∀ vs' w3, w3.heap[x]? = some (.cells #[vs', vr, .slice (some ⟨g', 0, none⟩) (i + 1) cap', .slice none 0 0, .slice none 0 0, .slice none 0 0] 153) → w3.ownsRow 0 178 3 vs' (k + i + 1) ((List.range (k + i)).flatMap (staOf k b) ++ [.int .i64 (100 + (i : Int)), .int .i64 0, .iface 158 (.pointer (some ⟨b', 0, none⟩))]) → Moved (W2.setCell ⟨x, 2, none⟩ (.slice (some ⟨g', 0, none⟩) (i + 1) cap')) w3 (fun z => z = x ∨ vs.ownBlock = some z) → Grows (W2.setCell ⟨x, 2, none⟩ (.slice (some ⟨g', 0, none⟩) (i + 1) cap')) vs vs' →
       Built w w3 x k (k + i + 1) (putB b (k + i) b') (putF Fn (k + i) F') vs' vr (.slice (some ⟨g', 0, none⟩) (i + 1) cap') (.slice none 0 0) ∧ IntOwn w3 (.slice (some ⟨ga, 0, none⟩) k c) (firstInts k) ∧ w3.ownsRow 0 3 1 (.slice (some ⟨g45, 0, none⟩) 3 c1x) 3 (ints (runOf 100 3))) := hideA fun vs' w3 z1 z2 z3 z4 => by
      have hty : nodTy (firstNod k (k + i)) = 158 := by unfold firstNod; rw [if_neg (by omega), if_pos (by omega)]; rfl
      obtain ⟨r1, r2⟩ := HB.out.1.stepA b' F' (by omega) (by omega) q3 (by rw [num_acc hlt]; exact q1) q2 (by rw [HMin.out]; exact hrow2) hM2 hG2 hx2 z1 (by rw [hty, num_acc hlt]; exact z2) z3 z4
      exact ⟨r1, HB.out.1.keepInts q3 r2 HB.out.2.1, HB.out.1.row q3 r2 HB.out.2.2⟩
     have HD := hideA (HAH.out x (k + i) vs (vr) (.slice (some ⟨g', 0, none⟩) (i + 1) cap') (.slice none 0 0) (.slice none 0 0) (.slice none 0 0) ((List.range (k + i)).flatMap (staOf k b)) (100 + (i : Int)) 158 (some ⟨b', 0, none⟩) (W2.setCell ⟨x, 2, none⟩ (.slice (some ⟨g', 0, none⟩) (i + 1) cap')) (set6_2 _ hx2)
      (ownsRow_setCell_other (hM2.owns B1.rs (fun z e e2 => owns_two B1.rs B1.ra (by decide) z e e2)) (blk_type B1.blk B1.rs (by decide)) _) (by omega))
     have c1 := cell_of_heap B1.blk 2
     have d1 := cell_of_heap hx2 2
     have e1 := frozen_of_heap hx2 2
     have HR := hideA hrun
     clear hrun hrow2 hM2 hG2 hx2 B1 q1 q2 q3 ck
     go_wp2_with (at_builtin; refine wpList_append_run rfl (.tmp 56) (.tmp 58) 147 rfl _ _ _ _ (by simp [Act.eval]) (by simp [Act.eval]) HR.out ?_)
     go_wp2_with fail
     refine HD.out.mono ?_
     rintro e w3 ⟨⟨v9, rfl⟩, vs', z1, z2, z3, z4⟩
     have HFin := hideA (HS.out vs' w3 z1 z2 z3 z4)
     clear z1 z2 z3 z4 c1 d1 e1
     go_wp2_with fail
     go_roundw
     case rel => exact ⟨i + 1, by omega, by go_num, _, _, _, _, HFin.out.1, HFin.out.2.1, HFin.out.2.2⟩
     case measure => simp [intOf]; omega
    ·obtain rfl : i = 3 := by omega
     have HBn := hideA (And.intro hB hI)
     clear hB hI HY hlt hR
     go_wp2_with fail
     refine (HN2.out _).mono ?_
     rintro e Y2 ⟨c2x, rfl, o1, hbY⟩
     have HY := hideA (And.intro (HBn.out.1.below hbY) (And.intro (trivial) (owns_base o1 (Nat.zero_le _))))
     clear o1 hbY HBn
     generalize hgb : wr.heap.size = g70 at *
     go_wp2_with fail
     go_loopw [70] (fun ix wr => ∃ i : Nat, i ≤ 2 ∧ ix = .int .i64 i ∧ ∃ b Fn vs vm, Built w wr x k (k + 3 + i) b Fn vs vr va vm ∧ True ∧ wr.ownsRow 0 3 1 (.slice (some ⟨g70, 0, none⟩) 2 c2x) 2 (ints (runOf 200 2))) (fun ix _ => 2 - (intOf ix).toNat)
     case atStart => exact ⟨0, Nat.zero_le _, rfl, _, _, _, _, HY.out.1, HY.out.2.1, HY.out.2.2⟩
     case round =>
      obtain ⟨i, hi, rfl, b, Fn, vs, vm, hB, hI, hR⟩ := hrel
      by_cases hlt : i < 2
      ·have hi1 : (i : Int) < 2 := by omega
       have ck := row_at hR hlt
       have HC := hideA (newMas_nod k (k + 3 + i) wr (by omega))
       rw [num_mas] at HC
       have hmin : k + 3 + i - k - 3 = i := by omega
       obtain ⟨ar, cr, hvr⟩ := owns_shape hB.rm
       rw [hmin] at hvr
       subst hvr
       have HB := hideA (And.intro hB (And.intro hI hR))
       have HMin := hideA hmin
       clear hB hI hR hmin
       go_wp2_with fail
       refine HC.out.mono ?_
       rintro e W1 ⟨b', F', rfl, q1, q2, q3⟩
       have B1 := HB.out.1.below q3
       obtain ⟨g', cap', W2, hrun, hx2, hrow2, hM2, hG2⟩ := ptr_app (t := 148) infoPM Try.underlying148 (by decide) W1 x i (.slice ar i cr) (ptrs b (k + 3) i) (some ⟨b', 0, none⟩) _ (by have := B1.rm; rwa [HMin.out] at this) B1.blk (by omega)
       have HS : Hid (∀ vs' w3, w3.heap[x]? = some (.cells #[vs', vr, va, .slice (some ⟨g', 0, none⟩) (i + 1) cap', .slice none 0 0, .slice none 0 0] 153) → w3.ownsRow 0 178 3 vs' (k + 3 + i + 1) ((List.range (k + 3 + i)).flatMap (staOf k b) ++ [.int .i64 (200 + (i : Int)), .int .i64 0, .iface 160 (.pointer (some ⟨b', 0, none⟩))]) → Moved (W2.setCell ⟨x, 3, none⟩ (.slice (some ⟨g', 0, none⟩) (i + 1) cap')) w3 (fun z => z = x ∨ vs.ownBlock = some z) → Grows (W2.setCell ⟨x, 3, none⟩ (.slice (some ⟨g', 0, none⟩) (i + 1) cap')) vs vs' →
         Built w w3 x k (k + 3 + i + 1) (putB b (k + 3 + i) b') (putF Fn (k + 3 + i) F') vs' vr va (.slice (some ⟨g', 0, none⟩) (i + 1) cap') ∧ True ∧ w3.ownsRow 0 3 1 (.slice (some ⟨g70, 0, none⟩) 2 c2x) 2 (ints (runOf 200 2))) := hideA fun vs' w3 z1 z2 z3 z4 => by
        have hty : nodTy (firstNod k (k + 3 + i)) = 160 := by unfold firstNod; rw [if_neg (by omega), if_neg (by omega)]; rfl
        obtain ⟨r1, r2⟩ := HB.out.1.stepM b' F' (by omega) q3 (by rw [num_mas]; exact q1) q2 (by rw [HMin.out]; exact hrow2) hM2 hG2 hx2 z1 (by rw [hty, num_mas]; exact z2) z3 z4
        exact ⟨r1, trivial, HB.out.1.row q3 r2 HB.out.2.2⟩
       have HD := hideA (HAH.out x (k + 3 + i) vs (vr) (va) (.slice (some ⟨g', 0, none⟩) (i + 1) cap') (.slice none 0 0) (.slice none 0 0) ((List.range (k + 3 + i)).flatMap (staOf k b)) (200 + (i : Int)) 160 (some ⟨b', 0, none⟩) (W2.setCell ⟨x, 3, none⟩ (.slice (some ⟨g', 0, none⟩) (i + 1) cap')) (set6_3 _ hx2)
        (ownsRow_setCell_other (hM2.owns B1.rs (fun z e e2 => owns_two B1.rs B1.rm (by decide) z e e2)) (blk_type B1.blk B1.rs (by decide)) _) (by omega))
       have c1 := cell_of_heap B1.blk 3
       have d1 := cell_of_heap hx2 3
       have e1 := frozen_of_heap hx2 3
       have HR := hideA hrun
       clear hrun hrow2 hM2 hG2 hx2 B1 q1 q2 q3 ck
       go_wp2_with (at_builtin; refine wpList_append_run rfl (.tmp 80) (.tmp 82) 148 rfl _ _ _ _ (by simp [Act.eval]) (by simp [Act.eval]) HR.out ?_)
       go_wp2_with fail
       refine HD.out.mono ?_
       rintro e w3 ⟨⟨v9, rfl⟩, vs', z1, z2, z3, z4⟩
       have HFin := hideA (HS.out vs' w3 z1 z2 z3 z4)
       clear z1 z2 z3 z4 c1 d1 e1
       go_wp2_with fail
       go_roundw
       case rel => exact ⟨i + 1, by omega, by go_num, _, _, _, _, HFin.out.1, HFin.out.2.1, HFin.out.2.2⟩
       case measure => simp [intOf]; omega
      ·obtain rfl : i = 2 := by omega
       have HBn := hideA (And.intro hB hI)
       clear hB hI HY hlt hR
       go_wp2_with fail
       go_ret
       rw [hx0]
       exact ⟨_, _, _, _, _, _, rfl, HBn.out.1⟩
end Go.Proofs.Ytgieeeeeiggoeaa
