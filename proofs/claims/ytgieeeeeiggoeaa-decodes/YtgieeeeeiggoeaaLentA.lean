import Derived.Test.YtgieeeeeiggoeaaWireB
import Derived.Test.YtgieeeeeiggoeaaSame
import Derived.Laws.CopyRow
import Derived.Lib.SmallJoins
namespace Go.Proofs.Ytgieeeeeiggoeaa
open Go.RowKit

section
variable {P : Program}
/-- copy onto the head of a row, whatever the element's size. -/
theorem run_copy_head (w : World) (dT sT ty elem : TypeId) (size g dLen dCap : Nat) (a : Option Addr) (sLen sCap : Nat) (cur : Array Value) (t : TypeId) (cs : List Value)
    (hu : P.underlying dT = some (.slice elem)) (hs : (P.info? elem).map (·.size) = some size)
    (hg : w.heap[g]? = some (.cells cur t (0, 0))) (hle : sLen ≤ dLen) (hn : cs.length = sLen * size)
    (hsrc : ∀ j u, cs[j]? = some u → ∃ x, a = some x ∧ w.cell? (x.add j) = some u) (ha : a = none → sLen = 0) (hfit : cs.length ≤ cur.size) (h1 : ∀ u ∈ cs, u.oneCell' = true) :
    (Builtin.copy_ #[dT, sT] ty #[.slice (some ⟨g, 0, none⟩) dLen dCap, .slice a sLen sCap]).run P w =
      .ok (goInt sLen) (w.setRow g (cs ++ cur.toList.drop cs.length).toArray) := by
  have hst := run_storeCells_at P g 0 t cs 0 cur w hg (by simpa using hfit) h1
  simp only [Nat.add_zero, Nat.zero_add, List.take_zero, List.nil_append] at hst
  have hmin : Nat.min sLen dLen = sLen := Nat.min_eq_left hle
  cases hq : P.info? elem with
  | none => simp [hq] at hs
  | some i =>
    have hi : i.size = size := by simpa [hq] using hs
    cases a with
    | none =>
      have h0 := ha rfl
      subst h0
      have hcs : cs = [] := List.eq_nil_of_length_eq_zero (by simpa using hn)
      subst hcs
      simp only [List.length_nil, List.drop_zero, List.nil_append, Array.toArray_toList] at hst ⊢
      rw [setRow_self w g cur t (0, 0) hg]
      simp [Builtin.copy_, run_underlying hu, Builtin.lenOf, Builtin.firstCells, sizeOf, typeInfo, hq, storeCells]
    | some x =>
      have hl := run_loadCells_list (P := P) w x cs (fun j u hj => by
        obtain ⟨x', hx, hc⟩ := hsrc j u hj
        cases hx
        exact hc)
      rw [hn] at hl
      simp [Builtin.copy_, run_underlying hu, Builtin.lenOf, Builtin.firstCells, sizeOf, typeInfo, hq, hi, hmin, hl, hst]
end

theorem make_ints' (n : Nat) (h : n ≤ 17592186044416) : ∀ w, (Instr.makeSlice 22 (.int .i64 (n : Int)) (.int .i64 (n : Int))).run Try.prog w = .ok (.slice (some ⟨w.heap.size, 0, none⟩) n n) (w.alloc (.cells (intsRow n) 3)) := by
  intro w
  obtain ⟨i0, hi, hz0, hz1, hz2⟩ := info_parts infoInt
  have := run_make (P := Try.prog) w 22 3 i0 _ Try.underlying22 hi hz0 .i64 .i64 n n (by omega) (Int.le_refl _) (by rw [hz2]; omega) (by omega)
  rw [Int.toNat_natCast, hz1] at this
  exact this

theorem make_ents' (n : Nat) (h : n ≤ 3518437208882) : ∀ w, (Instr.makeSlice 23 (.int .i64 (n : Int)) (.int .i64 (n : Int))).run Try.prog w = .ok (.slice (some ⟨w.heap.size, 0, none⟩) n n) (w.alloc (.cells (entsRow n) 59)) := by
  intro w
  obtain ⟨i0, hi, hz0, hz1, hz2⟩ := info_parts infoEnt
  have := run_make (P := Try.prog) w 23 59 i0 _ Try.underlying23 hi hz0 .i64 .i64 n n (by omega) (Int.le_refl _) (by rw [hz2]; omega) (by omega)
  rw [Int.toNat_natCast, hz1] at this
  exact this

theorem setRow_below (w : World) (g : Nat) (cs : Array Value) : Below g w (w.setRow g cs) :=
  ⟨rfl, rfl, rfl, by simp, fun k hk => setRow_other w g k _ (by omega)⟩

/-- What copying a list of ints into a new row of one more gives. -/
theorem copy_ints (w : World) (v : Value) (l : List Int) (hv : IntsAt w v l) :
    ∃ W2, (∀ ty, (Builtin.copy_ #[22, 22] ty #[.slice (some ⟨w.heap.size, 0, none⟩) (l.length + 1) (l.length + 1), v]).run Try.prog (w.alloc (.cells (intsRow (l.length + 1)) 3)) = .ok (goInt l.length) W2) ∧
      W2.heap[w.heap.size]? = some (.cells (ints (l ++ [0])).toArray 3) ∧ Below w.heap.size w W2 ∧ W2.heap.size = w.heap.size + 1 := by
  obtain ⟨a, c, rfl, hv⟩ := hv
  have hlst : (intsRow (l.length + 1)).toList = ints (List.replicate (l.length + 1) 0) := intsRow_list _
  have hr : (ints l ++ (intsRow (l.length + 1)).toList.drop (ints l).length) = ints (l ++ [0]) := by
    rw [hlst, ints_length, ints_append]
    congr 1
    simp [ints]
  refine ⟨(w.alloc (.cells (intsRow (l.length + 1)) 3)).setRow w.heap.size (ints (l ++ [0])).toArray, fun ty => ?_, ?_, ?_, ?_⟩
  · have := run_copy_head (P := Try.prog) (w.alloc (.cells (intsRow (l.length + 1)) 3)) 22 22 ty 3 1 w.heap.size (l.length + 1) (l.length + 1) a l.length c (intsRow (l.length + 1)) 3 (ints l)
      Try.underlying22 (by kernel_rfl) (heap_new _ _) (by omega) (by rw [ints_length]; omega) ?_ ?_ ?_ (ints_one _)
    · rw [hr] at this
      exact this
    · intro j u hj
      have hjl : j < l.length := by
        have := (List.getElem?_eq_some_iff.1 hj).1
        rwa [ints_length] at this
      obtain ⟨b, off, rfl, hc⟩ := hv j hjl
      refine ⟨_, rfl, ?_⟩
      have e : (⟨b, off, none⟩ : Addr).add j = ⟨b, off + j, none⟩ := by unfold Addr.add; simp
      rw [e, cell_later ((Below.refl _ _).alloc (Nat.le_refl _) _) hc]
      simp [ints, List.getElem?_eq_getElem hjl] at hj
      simp [List.getD, List.getElem?_eq_getElem hjl, hj]
    · intro ha
      rcases Nat.eq_zero_or_pos l.length with h0 | h0
      · exact h0
      · obtain ⟨b, off, hb, _⟩ := hv 0 h0
        rw [ha] at hb
        cases hb
    · rw [ints_length, (size_rows _).1]; omega
  · exact setRow_heap _ _ (intsRow (l.length + 1)) _ _ _ (heap_new _ _)
  · exact ((Below.refl _ _).alloc (Nat.le_refl _) _).trans (setRow_below _ _ _)
  · show ((w.alloc _).setRow _ _).heap.size = _
    simp
/-- One entry of a row written: its five cells, one after the other. -/
theorem ents_write (A : List Ent) (x y : Ent) (C : List Ent) (n : Nat) (hn : n = A.length) :
    (((((ints (entsNums (A ++ x :: C))).set (n * 5) (.int .i64 y.client)).set (n * 5 + 1) (.int .i64 y.seq)).set (n * 5 + 2) (.int .i64 y.kind)).set (n * 5 + 3) (.int .i64 y.key)).set (n * 5 + 4) (.int .i64 y.value) = ints (entsNums (A ++ y :: C)) := by
  subst hn
  rw [ints_set, ints_set, ints_set, ints_set, ints_set]
  congr 1
  rw [entsNums_append, entsNums_append]
  have hl : (entsNums A).length = A.length * 5 := by rw [entsNums_length]; omega
  rw [← hl]
  have e1 : entsNums (x :: C) = x.client :: x.seq :: x.kind :: x.key :: x.value :: entsNums C := rfl
  have e2 : entsNums (y :: C) = y.client :: y.seq :: y.kind :: y.key :: y.value :: entsNums C := rfl
  rw [e1, e2]
  rw [List.set_append_right _ _ (Nat.le_refl _), List.set_append_right _ _ (by omega), List.set_append_right _ _ (by omega), List.set_append_right _ _ (by omega), List.set_append_right _ _ (by omega)]
  rw [Nat.sub_self, Nat.add_sub_cancel_left, Nat.add_sub_cancel_left, Nat.add_sub_cancel_left, Nat.add_sub_cancel_left]
  rfl


/-- The cells of a log. -/
theorem LogAt.cellAt {w : World} {a : Option Addr} {n c : Nat} {es : List Ent} (h : LogAt w (.slice a n c) es) (j : Nat) (u : Value) (hj : (ints (entsNums es))[j]? = some u) : ∃ x, a = some x ∧ w.cell? (x.add j) = some u := by
  obtain ⟨a', c', hv, hc⟩ := h
  cases hv
  have hjl : j < es.length * 5 := by
    have := (List.getElem?_eq_some_iff.1 hj).1
    rw [ints_length, entsNums_length] at this
    omega
  obtain ⟨b, off, rfl, d0, d1, d2, d3, d4⟩ := hc (j / 5) (by omega)
  refine ⟨_, rfl, ?_⟩
  have e : (⟨b, off, none⟩ : Addr).add j = ⟨b, off + j, none⟩ := by unfold Addr.add; simp
  rw [e]
  have hu : u = .int .i64 ((entsNums es).getD j 0) := by
    have hjl' : j < (entsNums es).length := by rw [entsNums_length]; omega
    simp [ints, List.getElem?_eq_getElem hjl'] at hj
    simp [List.getD, List.getElem?_eq_getElem hjl', ← hj]
  have hg := entsNums_getD es (j / 5) (j % 5) (by omega) (by omega)
  rw [show j / 5 * 5 + j % 5 = j by omega] at hg
  rw [hu, hg]
  have h5 : j % 5 = 0 ∨ j % 5 = 1 ∨ j % 5 = 2 ∨ j % 5 = 3 ∨ j % 5 = 4 := by omega
  rcases h5 with h5 | h5 | h5 | h5 | h5 <;> rw [h5]
  · rw [show off + j = off + j / 5 * 5 by omega, d0]; rfl
  · rw [show off + j = off + j / 5 * 5 + 1 by omega, d1]; rfl
  · rw [show off + j = off + j / 5 * 5 + 2 by omega, d2]; rfl
  · rw [show off + j = off + j / 5 * 5 + 3 by omega, d3]; rfl
  · rw [show off + j = off + j / 5 * 5 + 4 by omega, d4]; rfl

/-- What copying a log into a new row of one more gives. -/
theorem copy_ents (w : World) (v : Value) (l : List Ent) (hv : LogAt w v l) :
    ∃ W2, (∀ ty, (Builtin.copy_ #[23, 23] ty #[.slice (some ⟨w.heap.size, 0, none⟩) (l.length + 1) (l.length + 1), v]).run Try.prog (w.alloc (.cells (entsRow (l.length + 1)) 59)) = .ok (goInt l.length) W2) ∧
      W2.heap[w.heap.size]? = some (.cells (ints (entsNums (l ++ [Ent.zero]))).toArray 59) ∧ Below w.heap.size w W2 ∧ W2.heap.size = w.heap.size + 1 := by
  have hv' := hv.below (w' := w.alloc (.cells (entsRow (l.length + 1)) 59)) ((Below.refl _ _).alloc (Nat.le_refl _) _)
  obtain ⟨a, c, rfl, hc⟩ := hv
  have hlst : (entsRow (l.length + 1)).toList = ints (List.replicate ((l.length + 1) * 5) 0) := entsRow_list _
  have hr : (ints (entsNums l) ++ (entsRow (l.length + 1)).toList.drop (ints (entsNums l)).length) = ints (entsNums (l ++ [Ent.zero])) := by
    rw [hlst, ints_length, entsNums_append, ints_append, entsNums_length]
    congr 1
    rw [show (ints (List.replicate ((l.length + 1) * 5) 0)).drop (5 * l.length) = ints ((List.replicate ((l.length + 1) * 5) 0).drop (5 * l.length)) by simp [ints]]
    rw [List.drop_replicate, show (l.length + 1) * 5 - 5 * l.length = 5 by omega]
    rfl
  refine ⟨(w.alloc (.cells (entsRow (l.length + 1)) 59)).setRow w.heap.size (ints (entsNums (l ++ [Ent.zero]))).toArray, fun ty => ?_, ?_, ?_, ?_⟩
  · have := run_copy_head (P := Try.prog) (w.alloc (.cells (entsRow (l.length + 1)) 59)) 23 23 ty 59 5 w.heap.size (l.length + 1) (l.length + 1) a l.length c (entsRow (l.length + 1)) 59 (ints (entsNums l))
      Try.underlying23 (by kernel_rfl) (heap_new _ _) (by omega) (by rw [ints_length, entsNums_length]; omega) hv'.cellAt ?_ ?_ (ints_one _)
    · rw [hr] at this
      exact this
    · intro ha
      rcases Nat.eq_zero_or_pos l.length with h0 | h0
      · exact h0
      · obtain ⟨b, off, hb, _⟩ := hc 0 h0
        rw [ha] at hb
        cases hb
    · rw [ints_length, entsNums_length, (size_rows _).2]; omega
  · exact setRow_heap _ _ (entsRow (l.length + 1)) _ _ _ (heap_new _ _)
  · exact ((Below.refl _ _).alloc (Nat.le_refl _) _).trans (setRow_below _ _ _)
  · show ((w.alloc _).setRow _ _).heap.size = _
    simp

end Go.Proofs.Ytgieeeeeiggoeaa
