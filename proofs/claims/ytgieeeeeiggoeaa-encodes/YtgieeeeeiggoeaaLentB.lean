import Derived.Test.YtgieeeeeiggoeaaLentA
namespace Go.Proofs.Ytgieeeeeiggoeaa
open Go.RowKit

set_option maxHeartbeats 1000000 in
set_option maxRecDepth 100000 in
theorem lentInts_any (v : Value) (l : List Int) (w : World) (hv : IntsAt w v l) (hl : l.length ≤ 17592186043904) :
    Calls Try.prog 8 #[v] w fun e w' => e = .returned (.slice (some ⟨w.heap.size, 0, none⟩) l.length (l.length + 1)) ∧ Below w.heap.size w w' ∧ w'.heap[w.heap.size]? = some (.cells (ints (l ++ [-77])).toArray 3) := by
  obtain ⟨W2, hcp, hh, hb, hs⟩ := copy_ints w v l hv
  have hmk := make_ints' (l.length + 1) (by omega)
  rw [show ((l.length + 1 : Nat) : Int) = (l.length : Int) + 1 by omega] at hmk
  obtain ⟨a, c, rfl, -⟩ := hv
  have c1 : W2.cell? ⟨w.heap.size, l.length, none⟩ = some (.int .i64 0) := by
    rw [Joins.cell_of_block hh]
    simp [ints]
  have f1 : W2.frozen? ⟨w.heap.size, l.length, none⟩ = false := Joins.unfrozen_of_block hh _
  have h2 := Joins.block_setCell (i := l.length) hh (.int .i64 (-77))
  have e2 : (ints (l ++ [0])).toArray.setIfInBounds l.length (.int .i64 (-77)) = (ints (l ++ [-77])).toArray := by
    apply Array.toList_inj.1
    simp [ints]
  rw [e2] at h2
  have H2 := hideA h2
  have hb2 := hideA (hb.setCell (p := ⟨w.heap.size, l.length, none⟩) (Nat.le_refl _) (.int .i64 (-77)))
  clear h2 e2 hh hb
  go_enter Try.func8, Try.ntmps8
  go_wp2_with fail
  go_ret
  exact ⟨rfl, hb2.out, H2.out⟩

/-- What lentLog writes behind the end. -/
def lentE : Ent := ⟨-77, 0, 0, 0, 0⟩

set_option maxHeartbeats 1000000 in
set_option maxRecDepth 100000 in
theorem lentLog_any (v : Value) (l : List Ent) (w : World) (hv : LogAt w v l) (hl : l.length ≤ 3518437208780) :
    Calls Try.prog 9 #[v] w fun e w' => e = .returned (.slice (some ⟨w.heap.size, 0, none⟩) l.length (l.length + 1)) ∧ Below w.heap.size w w' ∧ w'.heap[w.heap.size]? = some (.cells (ints (entsNums (l ++ [lentE]))).toArray 59) := by
  obtain ⟨W2, hcp, hh, hb, hs⟩ := copy_ents w v l hv
  have hmk := make_ents' (l.length + 1) (by omega)
  rw [show ((l.length + 1 : Nat) : Int) = (l.length : Int) + 1 by omega] at hmk
  obtain ⟨a, c, rfl, -⟩ := hv
  have hsz : (ints (entsNums (l ++ [Ent.zero]))).length = l.length * 5 + 5 := by
    rw [ints_length, entsNums_length, List.length_append]
    simp
    omega
  have cc : ∀ j, j < 5 → ∃ u, W2.cell? ⟨w.heap.size, l.length * 5 + j, none⟩ = some u := fun j hj => by
    rw [Joins.cell_of_block hh, List.getElem?_toArray]
    exact ⟨_, List.getElem?_eq_getElem (by rw [hsz]; omega)⟩
  obtain ⟨u0, c0⟩ := cc 0 (by omega)
  obtain ⟨u1, c1⟩ := cc 1 (by omega)
  obtain ⟨u2, c2⟩ := cc 2 (by omega)
  obtain ⟨u3, c3⟩ := cc 3 (by omega)
  obtain ⟨u4, c4⟩ := cc 4 (by omega)
  rw [Nat.add_zero] at c0
  have f0 : W2.frozen? ⟨w.heap.size, l.length * 5, none⟩ = false := Joins.unfrozen_of_block hh _
  have f1 : W2.frozen? ⟨w.heap.size, l.length * 5 + 1, none⟩ = false := Joins.unfrozen_of_block hh _
  have f2 : W2.frozen? ⟨w.heap.size, l.length * 5 + 2, none⟩ = false := Joins.unfrozen_of_block hh _
  have f3 : W2.frozen? ⟨w.heap.size, l.length * 5 + 3, none⟩ = false := Joins.unfrozen_of_block hh _
  have f4 : W2.frozen? ⟨w.heap.size, l.length * 5 + 4, none⟩ = false := Joins.unfrozen_of_block hh _
  have h2 := Joins.block_setCell (i := l.length * 5 + 4) (Joins.block_setCell (i := l.length * 5 + 3) (Joins.block_setCell (i := l.length * 5 + 2) (Joins.block_setCell (i := l.length * 5 + 1) (Joins.block_setCell (i := l.length * 5) hh (.int .i64 (-77))) (.int .i64 0)) (.int .i64 0)) (.int .i64 0)) (.int .i64 0)
  have hw := ents_write l Ent.zero lentE [] l.length rfl
  change (((((ints (entsNums (l ++ [Ent.zero]))).set (l.length * 5) (.int .i64 (-77))).set (l.length * 5 + 1) (.int .i64 0)).set (l.length * 5 + 2) (.int .i64 0)).set (l.length * 5 + 3) (.int .i64 0)).set (l.length * 5 + 4) (.int .i64 0) = _ at hw
  have e2 : (((((ints (entsNums (l ++ [Ent.zero]))).toArray.setIfInBounds (l.length * 5) (.int .i64 (-77))).setIfInBounds (l.length * 5 + 1) (.int .i64 0)).setIfInBounds (l.length * 5 + 2) (.int .i64 0)).setIfInBounds (l.length * 5 + 3) (.int .i64 0)).setIfInBounds (l.length * 5 + 4) (.int .i64 0) = (ints (entsNums (l ++ [lentE]))).toArray := by
    apply Array.toList_inj.1
    rw [Array.toList_setIfInBounds, Array.toList_setIfInBounds, Array.toList_setIfInBounds, Array.toList_setIfInBounds, Array.toList_setIfInBounds]
    exact hw
  rw [e2] at h2
  have H2 := hideA h2
  have hb2 := hideA (((((hb.setCell (p := ⟨w.heap.size, l.length * 5, none⟩) (Nat.le_refl _) (.int .i64 (-77))).setCell (p := ⟨w.heap.size, l.length * 5 + 1, none⟩) (Nat.le_refl _) (.int .i64 0)).setCell (p := ⟨w.heap.size, l.length * 5 + 2, none⟩) (Nat.le_refl _) (.int .i64 0)).setCell (p := ⟨w.heap.size, l.length * 5 + 3, none⟩) (Nat.le_refl _) (.int .i64 0)).setCell (p := ⟨w.heap.size, l.length * 5 + 4, none⟩) (Nat.le_refl _) (.int .i64 0))
  clear h2 e2 hh hb hw cc hsz
  go_enter Try.func9, Try.ntmps9
  go_wp2_with fail
  go_ret
  exact ⟨rfl, hb2.out, H2.out⟩

set_option maxHeartbeats 1000000 in
set_option maxRecDepth 100000 in
theorem keptInts_any (g : Nat) (v : Value) (l : List Int) (w : World) (h1 : IntsAt w (.slice (some ⟨g, 0, none⟩) l.length (l.length + 1)) l) (h2 : IntsAt w v l) (hc : w.cell? ⟨g, l.length, none⟩ = some (.int .i64 (-77))) (hl : l.length ≤ 17592186043904) :
    Calls Try.prog 12 #[.slice (some ⟨g, 0, none⟩) l.length (l.length + 1), v] w fun e w' => e = .returned (.bool true) ∧ ∃ q, w' = w.drewN q := by
  have hsame := cordonlaw_sameInts _ _ l w h1 h2 (by omega)
  obtain ⟨a, c, rfl, -⟩ := h2
  go_enter Try.func12, Try.ntmps12
  go_wp2_with fail
  refine hsame.mono ?_
  rintro e w1 ⟨rfl, q1, rfl⟩
  go_wp2_with fail
  go_ret
  exact ⟨rfl, q1, rfl⟩

set_option maxHeartbeats 1000000 in
set_option maxRecDepth 100000 in
theorem keptLog_any (g : Nat) (v : Value) (l : List Ent) (w : World) (h1 : LogAt w (.slice (some ⟨g, 0, none⟩) l.length (l.length + 1)) l) (h2 : LogAt w v l)
    (c0 : w.cell? ⟨g, l.length * 5, none⟩ = some (.int .i64 (-77))) (c1 : w.cell? ⟨g, l.length * 5 + 1, none⟩ = some (.int .i64 0)) (c2 : w.cell? ⟨g, l.length * 5 + 2, none⟩ = some (.int .i64 0)) (c3 : w.cell? ⟨g, l.length * 5 + 3, none⟩ = some (.int .i64 0)) (c4 : w.cell? ⟨g, l.length * 5 + 4, none⟩ = some (.int .i64 0))
    (hl : l.length ≤ 3518437208780) :
    Calls Try.prog 13 #[.slice (some ⟨g, 0, none⟩) l.length (l.length + 1), v] w fun e w' => e = .returned (.bool true) ∧ ∃ q, w' = w.drewN q := by
  have hsame := cordonlaw_sameLogs _ _ l w h1 h2 (by omega)
  obtain ⟨a, c, rfl, -⟩ := h2
  go_enter Try.func13, Try.ntmps13
  go_wp2_with fail
  refine hsame.mono ?_
  rintro e w1 ⟨rfl, q1, rfl⟩
  go_wp2_with fail
  go_ret
  exact ⟨rfl, q1, rfl⟩

end Go.Proofs.Ytgieeeeeiggoeaa
