import Derived.Test.YtgieeeeeiggoeaaP25
import Derived.Test.YtgieeeeeiggoeaaP03
namespace Go.Proofs.Ytgieeeeeiggoeaa
open Go.RowKit Go.Shelf
set_option maxRecDepth 100000 in
set_option maxHeartbeats 4000000 in
theorem refNew_any (n : Nat) (w : World) (h1 : 1 ≤ n) (h5 : n ≤ 5) :
  Calls Try.prog 44 #[.agg #[.int .i64 (n : Int)]] w fun e w' => ∃ y F, e = .returned (.tuple #[.pointer (some ⟨y, 0, none⟩), .int .i64 0]) ∧ RefAt w' F y (Clu.first n) ∧ (∀ k, F k → w.heap.size ≤ k) ∧ Below w.heap.size w w' := by
 have hn1 : ¬ (n : Int) < 1 := by omega
 have hn5 : ¬ (5 : Int) < (n : Int) := by omega
 have mixed : Try.prog.follows Departure.mixedOrders = true := by kernel_rfl
 obtain ⟨C, hC, hbC, hMC⟩ := box_more1 w #[.int .i64 (n : Int)] 80
 obtain ⟨Y, hY, hbY, hMY⟩ := box_more1 C #[.slice none 0 0, .slice none 0 0, .slice none 0 0, .slice none 0 0, .slice none 0 0] 96
 have hCl : C.heap.size = w.heap.size + 1 := by rw [← hC]; simp
 have hYl : Y.heap.size = C.heap.size + 1 := by rw [← hY]; simp
 have hbwY : Below w.heap.size w Y := hbC.trans (hbY.mono hbC.size)
 have HMY := hideA hMY
 have HMC := hideA hMC
 have cC : C.cell? ⟨w.heap.size, 0, none⟩ = some (.int .i64 (n : Int)) := cell_of_heap hMC 0
 have cY := cell_later hbY cC
 have HSz := hideA (And.intro hCl hYl)
 clear hMY hMC hCl hYl
 generalize hyy : C.heap.size = y at *
 go_enter Try.func44, Try.ntmps44
 go_wp2_with fail
 go_loopw [5, 6] (fun v i wr => ∃ k : Nat, k ≤ n ∧ i = .int .i64 k ∧ wr.ownsRow Y.heap.size 3 1 v k (ints (firstInts k)) ∧ Below Y.heap.size Y wr) (fun _ i _ => n - (intOf i).toNat)
 case atStart => exact ⟨0, Nat.zero_le _, rfl, World.ownsRow_nil _ _ _ _, Below.refl _ _⟩
 case round =>
  obtain ⟨k, hk, rfl, hown, hb⟩ := hrel
  obtain ⟨av, cv, hv⟩ := owns_shape hown
  subst hv
  have r3 := cell_later hb cY
  by_cases hlt : k < n
  ·have hk1 : (k : Int) < (n : Int) := by omega
   obtain ⟨g', cap', W1, hrun, ho1, hg1, hwh⟩ := append_row (t := 22) infoInt3 Try.underlying22 rfl (by decide) (wr.alloc (.cells #[.int .i64 (k : Int)] 3)) Y.heap.size (.slice av k cv) k (ints (firstInts k)) [.int .i64 (k : Int)] wr.heap.size (hown.alloc _) (heap_new _ _) rfl (by intro u hu; simp at hu; subst hu; rfl) (by omega) (by decide) (by simp; have := hb.size; omega)
   have HR := hideA hrun
   have hbW : Below Y.heap.size Y W1 := hb.trans ((((Moved.refl wr (fun j => (Value.slice av k cv).ownBlock = some j)).alloc _).grown hg1 (fun j _ e => e)).to_below (fun j e => (hown.lt j e).1) hb.size)
   have HO := hideA (And.intro ho1 hbW)
   clear hrun ho1 hg1 hbW hown
   go_wp2_with (at_builtin; refine wpList_append_run rfl (.tmp 25) (.tmp 27) 22 rfl _ _ _ _ (by simp [Act.eval]) (by simp [Act.eval]) HR.out ?_)
   go_wp2_with fail
   exact ⟨⟨k + 1, by omega, by go_num, by rw [firstInts_snoc, ints_append]; exact HO.out.1, HO.out.2⟩, by simp [intOf]; omega⟩
  ·obtain rfl : k = n := by omega
   have hfl : (firstInts k).length = k := by simp [firstInts]
   have hall : IntOwn wr (.slice av k cv) (firstInts k) := by
    unfold IntOwn
    rw [hfl]
    exact owns_base hown (Nat.zero_le _)
   have hne : firstInts k ≠ [] := fun e => by rw [e] at hfl; simp at hfl; omega
   have hwY := hbwY.size
   obtain ⟨hCl, hYl⟩ := HSz.out
   have HN0 : Hid (NewR w wr y k 0 0 (.slice av k cv) (fun _ => 0) (fun _ => 0) (.slice none 0 0) (.slice none 0 0)) := hideA
    {blk := (hb.block _ (by omega)).trans HMY.out
     rr := World.ownsRow_nil _ _ _ _
     ra := World.ownsRow_nil _ _ _ _
     reps := fun j hj => absurd hj (Nat.not_lt_zero _)
     accs := fun j hj => absurd hj (Nat.not_lt_zero _)
     all := hall
     new := ⟨by omega, fun z e => absurd e no_row, fun z e => absurd e no_row, fun z e => by have := (hown.lt z e).1; omega⟩
     be := hbwY.trans (hb.mono hwY)
     cfg := (hb.block _ (by omega)).trans ((hbY.block _ (by omega)).trans HMC.out) }
   clear hown hall hCl hYl
   go_wp2_with fail
   go_loopw [7] (fun i wr2 => ∃ j : Nat, j ≤ k ∧ i = .int .i64 j ∧ ∃ br vr, NewR w wr2 y k j 0 (.slice av k cv) br (fun _ => 0) vr (.slice none 0 0)) (fun i _ => k - (intOf i).toNat)
   case atStart => exact ⟨0, Nat.zero_le _, rfl, _, _, HN0.out⟩
   case round =>
    clear r3 hb
    obtain ⟨j, hj, rfl, br, vr, hN⟩ := hrel
    have r3 := cell_of_heap hN.cfg 0
    obtain ⟨ar, cr, hvr⟩ := owns_shape hN.rr
    subst hvr
    have y0 : wr.cell? ⟨y, 0, none⟩ = some (.slice ar j cr) := cell_of_heap hN.blk 0
    have HN := hideA hN
    by_cases hlt2 : j < k
    ·have hj1 : (j : Int) < (k : Int) := by omega
     have HI : Hid (∀ W, W = wr.drew → Calls Try.prog 64 #[.slice av k cv] W fun e w' => ∃ a' c', e = .returned (.slice a' k c') ∧ ∃ g' cap' W1 br', (∀ ty, (Builtin.append_ #[91, 91] ty #[.slice ar j cr, .slice (some ⟨w'.heap.size + 1, 0, none⟩) 1 1]).run Try.prog ((w'.alloc (.cells #[.bool true, .int .i64 0, .int .i64 0, .slice a' k c', .slice none 0 0, .int .i64 0, .int .i64 0] 120)).alloc (.cells #[.pointer (some ⟨w'.heap.size, 0, none⟩)] 118)) = .ok (.slice (some ⟨g', 0, none⟩) (j + 1) cap') W1) ∧ W1.cell? ⟨y, 0, none⟩ = some (.slice ar j cr) ∧ W1.frozen? ⟨y, 0, none⟩ = false ∧ w'.cell? ⟨y, 0, none⟩ = some (.slice ar j cr) ∧ (∀ o, (w'.alloc o).cell? ⟨y, 0, none⟩ = some (.slice ar j cr)) ∧ (∀ o o2, ((w'.alloc o).alloc o2).cell? ⟨y, 0, none⟩ = some (.slice ar j cr)) ∧
       NewR w (W1.setCell ⟨y, 0, none⟩ (.slice (some ⟨g', 0, none⟩) (j + 1) cap')) y k (j + 1) 0 (.slice av k cv) br' (fun _ => 0) (.slice (some ⟨g', 0, none⟩) (j + 1) cap') (.slice none 0 0)) := hideA fun W hW => by
      subst hW
      have hNd := HN.out.below (Below.refl _ _).drew
      have hla : (firstInts k).length = k := hfl
      have hcall := refInts_any (.slice av k cv) (firstInts k) wr.drew hNd.all hne (by omega)
      rw [hla] at hcall
      refine hcall.mono ?_
      rintro e V ⟨a', c', rfl, hm, hbV⟩
      have hNV := hNd.below hbV
      have hm0 : IntOwn V (.slice a' k c') (firstInts k) := by
       unfold IntOwn
       rw [hla]
       exact owns_base hm (Nat.zero_le _)
      have hbe := HN.out.be.size
      obtain ⟨g', cap', W1, br', q1, q2, q3, q4⟩ := hNV.rep hm0 (fun z e => by have : wr.heap.size ≤ z := (hm.lt z e).1; omega) (by omega)
      have cV : V.cell? ⟨y, 0, none⟩ = some (.slice ar j cr) := cell_of_heap hNV.blk 0
      exact ⟨a', c', rfl, g', cap', W1, br', q1, q2, q3, cV, fun o => cell_later ((Below.refl _ V).alloc (Nat.le_refl _) o) cV, fun o o2 => cell_later ((Below.refl _ _).alloc (Nat.le_refl _) o2) (cell_later ((Below.refl _ V).alloc (Nat.le_refl _) o) cV), q4⟩
     clear hN
     go_wp2_with fail
     go_region_law (first
       | (rw [if_pos (by simp [Region.wanted])]; go_simp; go_at_call 64; refine (HI.out _ rfl).mono ?_; rintro e V ⟨a', c', rfl, g', cap', W1, br', hrun, q2, q3, q5, q6, q7, q4⟩; have HQ4 := hideA q4; clear q4)
       | (refine op_append rfl (.tmp 39) (.tmp 44) 91 rfl _ _ _ _ (by simp [Act.eval]) (by simp [Act.eval]) hrun ?_))
     all_goals (
      go_wp2_with fail
      go_roundw
      case rel => exact ⟨j + 1, by omega, by go_num, _, _, HQ4.out⟩
      case measure => simp [intOf]; omega)
    ·obtain rfl : j = k := by omega
     clear hlt2
     go_wp2_with fail
     go_loopw [8] (fun i wr2 => ∃ m : Nat, m ≤ 3 ∧ i = .int .i64 m ∧ ∃ ba va, NewR w wr2 y j j m (.slice av j cv) br ba (.slice ar j cr) va) (fun i _ => 3 - (intOf i).toNat)
     case atStart => exact ⟨0, Nat.zero_le _, rfl, _, _, HN.out⟩
     case round =>
      clear r3 y0 HN hN
      obtain ⟨m, hm3, rfl, ba, va, hN⟩ := hrel
      obtain ⟨aa, ca, hva⟩ := owns_shape hN.ra
      subst hva
      have y0 : wr.cell? ⟨y, 1, none⟩ = some (.slice aa m ca) := cell_of_heap hN.blk 1
      have HN := hideA hN
      by_cases hlt3 : m < 3
      ·have hj1 : (m : Int) < 3 := by omega
       have HI : Hid (∀ W, W = wr.drew → Calls Try.prog 64 #[.slice av j cv] W fun e w' => ∃ a' c', e = .returned (.slice a' j c') ∧ ∃ g' cap' W1 ba', (∀ ty, (Builtin.append_ #[92, 92] ty #[.slice aa m ca, .slice (some ⟨w'.heap.size + 1, 0, none⟩) 1 1]).run Try.prog ((w'.alloc (.cells #[.bool true, .int .i64 0, .slice a' j c', .slice none 0 0] 124)).alloc (.cells #[.pointer (some ⟨w'.heap.size, 0, none⟩)] 121)) = .ok (.slice (some ⟨g', 0, none⟩) (m + 1) cap') W1) ∧ W1.cell? ⟨y, 1, none⟩ = some (.slice aa m ca) ∧ W1.frozen? ⟨y, 1, none⟩ = false ∧ w'.cell? ⟨y, 1, none⟩ = some (.slice aa m ca) ∧ (∀ o, (w'.alloc o).cell? ⟨y, 1, none⟩ = some (.slice aa m ca)) ∧ (∀ o o2, ((w'.alloc o).alloc o2).cell? ⟨y, 1, none⟩ = some (.slice aa m ca)) ∧
         NewR w (W1.setCell ⟨y, 1, none⟩ (.slice (some ⟨g', 0, none⟩) (m + 1) cap')) y j j (m + 1) (.slice av j cv) br ba' (.slice ar j cr) (.slice (some ⟨g', 0, none⟩) (m + 1) cap')) := hideA fun W hW => by
        subst hW
        have hNd := HN.out.below (Below.refl _ _).drew
        have hla : (firstInts j).length = j := hfl
        have hcall := refInts_any (.slice av j cv) (firstInts j) wr.drew hNd.all hne (by omega)
        rw [hla] at hcall
        refine hcall.mono ?_
        rintro e V ⟨a', c', rfl, hm, hbV⟩
        have hNV := hNd.below hbV
        have hm0 : IntOwn V (.slice a' j c') (firstInts j) := by
         unfold IntOwn
         rw [hla]
         exact owns_base hm (Nat.zero_le _)
        have hbe := HN.out.be.size
        obtain ⟨g', cap', W1, ba', q1, q2, q3, q4⟩ := hNV.acc hm0 (fun z e => by have : wr.heap.size ≤ z := (hm.lt z e).1; omega) (by omega)
        have cV : V.cell? ⟨y, 1, none⟩ = some (.slice aa m ca) := cell_of_heap hNV.blk 1
        exact ⟨a', c', rfl, g', cap', W1, ba', q1, q2, q3, cV, fun o => cell_later ((Below.refl _ V).alloc (Nat.le_refl _) o) cV, fun o o2 => cell_later ((Below.refl _ _).alloc (Nat.le_refl _) o2) (cell_later ((Below.refl _ V).alloc (Nat.le_refl _) o) cV), q4⟩
       clear hN
       go_wp2_with fail
       go_region_law (first
         | (rw [if_pos (by simp [Region.wanted])]; go_simp; go_at_call 64; refine (HI.out _ rfl).mono ?_; rintro e V ⟨a', c', rfl, g', cap', W1, ba', hrun, q2, q3, q5, q6, q7, q4⟩; have HQ4 := hideA q4; clear q4)
         | (refine op_append rfl (.tmp 56) (.tmp 61) 92 rfl _ _ _ _ (by simp [Act.eval]) (by simp [Act.eval]) hrun ?_))
       all_goals (
        go_wp2_with fail
        go_roundw
        case rel => exact ⟨m + 1, by omega, by go_num, _, _, HQ4.out⟩
        case measure => simp [intOf]; omega)
      ·obtain rfl : m = 3 := by omega
       obtain ⟨i0, hi, hz0, hz1, hz2⟩ := info_parts infoPMas
       have y2 : wr.cell? ⟨y, 2, none⟩ = some (.slice none 0 0) := cell_of_heap hN.blk 2
       have hyl : y < wr.heap.size := (Array.getElem?_eq_some_iff.1 hN.blk).1
       have hyn1 : ¬ y = wr.heap.size := by omega
       have hyn2 : ¬ wr.heap.size = y := by omega
       clear hN y0
       go_wp2_with (at_builtin; refine wpList_append_own _ rfl _ _ 93 rfl wr.heap.size 125 i0 _ 1 8 Try.underlying93 hi hz0 hz1 hz2 rfl (by decide) (.slice none 0 0) 0 [] rfl (World.ownsRow_nil _ _ _ _) ⟨wr.heap.size + 1 + 1, 0, none⟩ 2 2 [.pointer (some ⟨wr.heap.size, 0, none⟩), .pointer (some ⟨wr.heap.size + 1, 0, none⟩)] rfl rfl ?_ (by intro u hu; simp at hu; rcases hu with rfl | rfl <;> rfl) (by unfold maxLen; omega) (by omega) (by simp; omega) ?_)
       ·intro i u hu
        have := heap_new ((wr.alloc (.cells #[.bool true, .int .i64 0, .int .i64 0, .int .i64 0, .int .i64 0, .slice none 0 0, .slice none 0 0, .slice none 0 0, .slice none 0 0, .slice none 0 0] 128)).alloc (.cells #[.bool true, .int .i64 0, .int .i64 0, .int .i64 0, .int .i64 0, .slice none 0 0, .slice none 0 0, .slice none 0 0, .slice none 0 0, .slice none 0 0] 128)) (.cells #[.pointer (some ⟨wr.heap.size, 0, none⟩), .pointer (some ⟨wr.heap.size + 1, 0, none⟩)] 125)
        rw [World.size_alloc, World.size_alloc] at this
        exact World.news_of_block this i u hu
       ·intro v' w' ho hg _
        obtain ⟨am, cm, hvm⟩ := owns_shape ho
        subst hvm
        have hbW : Below wr.heap.size wr w' := ((((Moved.refl wr (fun _ => False)).alloc _).alloc _).alloc _ |>.grown hg (fun z _ e => by simp [Value.ownBlock] at e)).to_below (fun _ e => e.elim) (Nat.le_refl _)
        have hNW := HN.out.below hbW
        have e2 : w'.cell? ⟨y, 2, none⟩ = some (.slice none 0 0) := cell_of_heap hNW.blk 2
        have f2 := frozen_of_heap hNW.blk 2
        have hbl : (w'.setCell ⟨y, 2, none⟩ (.slice am 2 cm)).heap[y]? = some (.cells #[.slice ar j cr, .slice aa 3 ca, .slice am 2 cm, .slice none 0 0, .slice none 0 0] 96) := heap_setCell_same _ _ _ _ _ _ hNW.blk
        have hfin : RefAt (w'.setCell ⟨y, 2, none⟩ (.slice am 2 cm)) (Fr w (w'.setCell ⟨y, 2, none⟩ (.slice am 2 cm))) y (Clu.first j) := by
         have hMv : Moved w' (w'.setCell ⟨y, 2, none⟩ (.slice am 2 cm)) (fun z => z = y) := (Moved.refl w' (fun z => z = y)).setCell ⟨y, 2, none⟩ rfl _
         have hkeep : ∀ {base size n : Nat} {e : TypeId} {v : Value} {xs : List Value}, w'.ownsRow base e size v n xs → e ≠ 96 → (w'.setCell ⟨y, 2, none⟩ (.slice am 2 cm)).ownsRow base e size v n xs := fun ho h1 => hMv.owns ho fun z hz e => blk_type hNW.blk ho h1 (e ▸ hz)
         have hblk2 : ∀ {b : Nat} {cs : Array Value} {t : TypeId}, w'.heap[b]? = some (.cells cs t) → t ≠ 96 → (w'.setCell ⟨y, 2, none⟩ (.slice am 2 cm)).heap[b]? = some (.cells cs t) := fun {b cs t} e h1 => by
          refine (hMv.block b (Array.getElem?_eq_some_iff.1 e).1 fun q => ?_).trans e
          rw [q, hNW.blk] at e
          injection e with e
          injection e with e1 e2
          exact h1 e2.symm
         have own : ∀ {base size n : Nat} {e : TypeId} {v : Value} {xs : List Value}, w'.ownsRow base e size v n xs → (∀ z, v.ownBlock = some z → w.heap.size ≤ z) → ∀ z, v.ownBlock = some z → Fr w (w'.setCell ⟨y, 2, none⟩ (.slice am 2 cm)) z := fun ho h1 z hz => ⟨h1 z hz, by
          have := (Array.getElem?_eq_some_iff.1 (ownBlock_cells ho hz).choose_spec.1).1
          exact Nat.lt_of_lt_of_le this hMv.size⟩
         have hrl : (Clu.first j).reps.length = j := by simp [Clu.first]
         refine ⟨br, ba, .slice ar j cr, .slice aa 3 ca, .slice am 2 cm, .slice none 0 0, .slice none 0 0, ⟨hbl, ?_, hkeep hNW.ra (by decide), fun i hi => ?_, fun i hi => ?_, World.ownsRow_nil _ _ _ _, World.ownsRow_nil _ _ _ _, ?_, fun z hz => hz.2⟩⟩
         ·rw [hrl]
          exact hkeep hNW.rr (by decide)
         ·rw [hrl] at hi
          rw [first_rep (by omega) (by omega)]
          exact (hNW.reps i hi).later hMv.size (fun ho e => hkeep ho (by rcases e with e | e <;> (rw [e]; decide))) (fun _ e => hblk2 e (by decide))
         ·rw [first_acc (by unfold isAcc; omega)]
          exact (hNW.accs i hi).later hMv.size (fun ho e => hkeep ho (by rcases e with e | e <;> (rw [e]; decide))) (fun _ e => hblk2 e (by decide))
         ·intro z hz
          rcases hz with e | e | e | e | e
          ·rw [e]
           exact ⟨hNW.new.1, Nat.lt_of_lt_of_le (Array.getElem?_eq_some_iff.1 hNW.blk).1 hMv.size⟩
          ·exact own hNW.rr hNW.new.2.1 z e
          ·exact own hNW.ra hNW.new.2.2.1 z e
          ·exact absurd e no_row
          ·exact absurd e no_row
        have hbe : Below w.heap.size w (w'.setCell ⟨y, 2, none⟩ (.slice am 2 cm)) := hNW.be.trans (((Moved.refl w' (fun z => z = y)).setCell ⟨y, 2, none⟩ rfl _).to_below (fun z e => by rw [e]; exact hNW.new.1) hNW.be.size)
        have HF := hideA (And.intro hfin hbe)
        clear hfin hbe hbl hNW hbW ho hg
        go_wp2_with fail
        go_ret2
        exact ⟨y, _, rfl, HF.out.1, fun z hz => hz.1, HF.out.2⟩
end Go.Proofs.Ytgieeeeeiggoeaa
