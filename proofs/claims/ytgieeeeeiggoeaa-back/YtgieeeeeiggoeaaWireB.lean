import Derived.Test.YtgieeeeeiggoeaaWireA
import Derived.Test.YtgieeeeeiggoeaaRefF
import Derived.OneCell
import Derived.Deep.DeepCutAuto
namespace Go.Proofs.Ytgieeeeeiggoeaa
open Go.RowKit

/-- A new row of ints, of entries. -/
def intsRow (n : Nat) : Array Value := madeCells #[.int .i64 0] (n * 1)
def entsRow (n : Nat) : Array Value := madeCells #[.int .i64 0, .int .i64 0, .int .i64 0, .int .i64 0, .int .i64 0] (n * 5)

theorem make_ints (n : Nat) (h : n ≤ 1000000) : ∀ w, (Instr.makeSlice 22 (.int .i64 (n : Int)) (.int .i64 (n : Int))).run Try.prog w = .ok (.slice (some ⟨w.heap.size, 0, none⟩) n n) (w.alloc (.cells (intsRow n) 3)) := by
  intro w
  obtain ⟨i0, hi, hz0, hz1, hz2⟩ := info_parts infoInt
  have := run_make (P := Try.prog) w 22 3 i0 _ Try.underlying22 hi hz0 .i64 .i64 n n (by omega) (Int.le_refl _) (by rw [hz2]; omega) (by omega)
  rw [Int.toNat_natCast, hz1] at this
  exact this

theorem make_ents (n : Nat) (h : n ≤ 1000000) : ∀ w, (Instr.makeSlice 23 (.int .i64 (n : Int)) (.int .i64 (n : Int))).run Try.prog w = .ok (.slice (some ⟨w.heap.size, 0, none⟩) n n) (w.alloc (.cells (entsRow n) 59)) := by
  intro w
  obtain ⟨i0, hi, hz0, hz1, hz2⟩ := info_parts infoEnt
  have := run_make (P := Try.prog) w 23 59 i0 _ Try.underlying23 hi hz0 .i64 .i64 n n (by omega) (Int.le_refl _) (by rw [hz2]; omega) (by omega)
  rw [Int.toNat_natCast, hz1] at this
  exact this

theorem heap_new (W : World) (a : Obj) : (W.alloc a).heap[W.heap.size]? = some a := by
  show (W.heap.push a)[W.heap.size]? = some a
  simp

section
variable (W : World) (a b c : Obj)
theorem heap3_2 : (((W.alloc a).alloc b).alloc c).heap[W.heap.size + 1 + 1]? = some c := by
  have := heap_new ((W.alloc a).alloc b) c
  rwa [World.size_alloc, World.size_alloc] at this
theorem heap3_1 : (((W.alloc a).alloc b).alloc c).heap[W.heap.size + 1]? = some b := by
  rw [Below.heap_alloc _ _ _ (by rw [World.size_alloc, World.size_alloc]; omega)]
  have := heap_new (W.alloc a) b
  rwa [World.size_alloc] at this
theorem heap3_0 : (((W.alloc a).alloc b).alloc c).heap[W.heap.size]? = some a := by
  rw [Below.heap_alloc _ _ _ (by rw [World.size_alloc, World.size_alloc]; omega), Below.heap_alloc _ _ _ (by rw [World.size_alloc]; omega)]
  exact heap_new W a
theorem below3 : Below W.heap.size W (((W.alloc a).alloc b).alloc c) := (((Below.refl _ _).alloc (Nat.le_refl _) _).alloc (by rw [World.size_alloc]; omega) _).alloc (by rw [World.size_alloc, World.size_alloc]; omega) _
end

theorem cell_of_heap {w : World} {B : Nat} {cs : Array Value} {T : TypeId} (h : w.heap[B]? = some (.cells cs T)) (j : Nat) : w.cell? ⟨B, j, none⟩ = cs[j]? := by
  simp [World.cell?, h]

theorem frozen_of_heap {w : World} {B : Nat} {cs : Array Value} {T : TypeId} (h : w.heap[B]? = some (.cells cs T)) (j : Nat) : w.frozen? ⟨B, j, none⟩ = false := by
  simp [World.frozen?, h]

theorem byteAt_drop (T : List UInt8) (d k : Nat) : byteAt (T.drop d) k = byteAt T (d + k) := by
  unfold byteAt; rw [List.getD, List.getElem?_drop, List.getD]

theorem numAt_drop (T : List UInt8) (d : Nat) : numAt (T.drop d) 0 = numAt T d := by
  unfold numAt; rw [byteAt_drop, byteAt_drop, Nat.add_zero, Nat.zero_add]

/-- What readBody's four blocks hold: the message's box B, the reader's R, the rows gm and gl. -/
structure RBI (T : List UInt8) (B R gm gl nm ne base : Nat) (W wr : World) (d : Nat) (F : Nat → Option Value) (ms es : List Int) : Prop where
  cB : ∀ j, wr.cell? ⟨B, j, none⟩ = F j
  fB : ∀ j, wr.frozen? ⟨B, j, none⟩ = false
  cR : wr.cell? ⟨R, 0, none⟩ = some (.string (bs (T.drop d)))
  fR : wr.frozen? ⟨R, 0, none⟩ = false
  om : wr.ownsRow base 3 1 (.slice (some ⟨gm, 0, none⟩) nm nm) nm (ints ms)
  ol : wr.ownsRow base 59 5 (.slice (some ⟨gl, 0, none⟩) ne ne) ne (ints es)
  be : Below base W wr
  oB : base ≤ B
  oR : base ≤ R
  om' : base ≤ gm
  ol' : base ≤ gl
  lR : R < wr.heap.size
  nB : B ≠ R
  n1 : B ≠ gm
  n2 : B ≠ gl
  n3 : gm ≠ gl
  n4 : R ≠ gm
  n5 : R ≠ gl

theorem RBI.reads {T : List UInt8} {B R gm gl nm ne base : Nat} {W wr : World} {d : Nat} {F : Nat → Option Value} {ms es : List Int} (h : RBI T B R gm gl nm ne base W wr d F ms es) (d' q : Nat) :
    RBI T B R gm gl nm ne base W ((wr.setCell ⟨R, 0, none⟩ (.string (bs (T.drop d')))).drewN q) d' F ms es where
  cB j := (World.cell?_setCell_other wr _ _ _ (by intro e; cases e; exact h.nB rfl)).trans (h.cB j)
  fB j := (World.frozen?_setCell wr _ _ _).trans (h.fB j)
  cR := World.cell?_setCell_same' wr _ _ (by rw [h.cR]; rfl)
  fR := (World.frozen?_setCell wr _ _ _).trans h.fR
  om := ownsRow_setCell_other h.om (by intro e; cases e; exact h.n4 rfl) _
  ol := ownsRow_setCell_other h.ol (by intro e; cases e; exact h.n5 rfl) _
  be := below_drewN (h.be.setCell h.oR _) q
  oB := h.oB
  oR := h.oR
  om' := h.om'
  ol' := h.ol'
  lR := by have := h.lR; simpa using this
  nB := h.nB
  n1 := h.n1
  n2 := h.n2
  n3 := h.n3
  n4 := h.n4
  n5 := h.n5

theorem RBI.setB {T : List UInt8} {B R gm gl nm ne base : Nat} {W wr : World} {d : Nat} {F : Nat → Option Value} {ms es : List Int} (h : RBI T B R gm gl nm ne base W wr d F ms es) (k : Nat) (v : Value) (hk : (F k).isSome = true) :
    RBI T B R gm gl nm ne base W (wr.setCell ⟨B, k, none⟩ v) d (fun j => if j = k then some v else F j) ms es where
  cB j := by
    by_cases e : j = k
    · subst e
      rw [if_pos rfl]
      exact World.cell?_setCell_same' wr _ _ (by rw [h.cB j]; exact hk)
    · rw [if_neg e]
      exact (World.cell?_setCell_other wr _ _ _ (by intro e'; cases e'; exact e rfl)).trans (h.cB j)
  fB j := (World.frozen?_setCell wr _ _ _).trans (h.fB j)
  cR := (World.cell?_setCell_other wr _ _ _ (by intro e; cases e; exact h.nB rfl)).trans h.cR
  fR := (World.frozen?_setCell wr _ _ _).trans h.fR
  om := ownsRow_setCell_other h.om (by intro e; cases e; exact h.n1 rfl) _
  ol := ownsRow_setCell_other h.ol (by intro e; cases e; exact h.n2 rfl) _
  be := h.be.setCell h.oB _
  oB := h.oB
  oR := h.oR
  om' := h.om'
  ol' := h.ol'
  lR := by have := h.lR; simpa using this
  nB := h.nB
  n1 := h.n1
  n2 := h.n2
  n3 := h.n3
  n4 := h.n4
  n5 := h.n5

theorem ints_set (l : List Int) (k : Nat) (x : Int) : (ints l).set k (.int .i64 x) = ints (l.set k x) := by
  simp [ints, List.map_set]

theorem RBI.setM {T : List UInt8} {B R gm gl nm ne base : Nat} {W wr : World} {d : Nat} {F : Nat → Option Value} {ms es : List Int} (h : RBI T B R gm gl nm ne base W wr d F ms es) (k : Nat) (x : Int) :
    RBI T B R gm gl nm ne base W (wr.setCell ⟨gm, k, none⟩ (.int .i64 x)) d F (ms.set k x) es where
  cB j := (World.cell?_setCell_other wr _ _ _ (by intro e; cases e; exact h.n1 rfl)).trans (h.cB j)
  fB j := (World.frozen?_setCell wr _ _ _).trans (h.fB j)
  cR := (World.cell?_setCell_other wr _ _ _ (by intro e; cases e; exact h.n4 rfl)).trans h.cR
  fR := (World.frozen?_setCell wr _ _ _).trans h.fR
  om := by rw [← ints_set]; exact (h.om.stored k _).1
  ol := ownsRow_setCell_other h.ol (by intro e; cases e; exact h.n3 rfl) _
  be := h.be.setCell h.om' _
  oB := h.oB
  oR := h.oR
  om' := h.om'
  ol' := h.ol'
  lR := by have := h.lR; simpa using this
  nB := h.nB
  n1 := h.n1
  n2 := h.n2
  n3 := h.n3
  n4 := h.n4
  n5 := h.n5

theorem RBI.setL {T : List UInt8} {B R gm gl nm ne base : Nat} {W wr : World} {d : Nat} {F : Nat → Option Value} {ms es : List Int} (h : RBI T B R gm gl nm ne base W wr d F ms es) (k : Nat) (x : Int) :
    RBI T B R gm gl nm ne base W (wr.setCell ⟨gl, k, none⟩ (.int .i64 x)) d F ms (es.set k x) where
  cB j := (World.cell?_setCell_other wr _ _ _ (by intro e; cases e; exact h.n2 rfl)).trans (h.cB j)
  fB j := (World.frozen?_setCell wr _ _ _).trans (h.fB j)
  cR := (World.cell?_setCell_other wr _ _ _ (by intro e; cases e; exact h.n5 rfl)).trans h.cR
  fR := (World.frozen?_setCell wr _ _ _).trans h.fR
  om := ownsRow_setCell_other h.om (by intro e; cases e; exact h.n3 rfl) _
  ol := by rw [← ints_set]; exact (h.ol.stored k _).1
  be := h.be.setCell h.ol' _
  oB := h.oB
  oR := h.oR
  om' := h.om'
  ol' := h.ol'
  lR := by have := h.lR; simpa using this
  nB := h.nB
  n1 := h.n1
  n2 := h.n2
  n3 := h.n3
  n4 := h.n4
  n5 := h.n5

/-- What lies behind a call that makes memory and turns nothing old. -/
theorem RBI.below {T : List UInt8} {B R gm gl nm ne base : Nat} {W wr w2 : World} {d : Nat} {F : Nat → Option Value} {ms es : List Int} (h : RBI T B R gm gl nm ne base W wr d F ms es) (hb : Below wr.heap.size wr w2)
    (lB : B < wr.heap.size) (lbase : base ≤ wr.heap.size) : RBI T B R gm gl nm ne base W w2 d F ms es where
  cB j := (hb.cell (p := ⟨B, j, none⟩) lB).trans (h.cB j)
  fB j := (hb.frozen (p := ⟨B, j, none⟩) lB).trans (h.fB j)
  cR := (hb.cell (p := ⟨R, 0, none⟩) h.lR).trans h.cR
  fR := (hb.frozen (p := ⟨R, 0, none⟩) h.lR).trans h.fR
  om := owns_kept h.om fun k _ hk => hb.block k hk
  ol := owns_kept h.ol fun k _ hk => hb.block k hk
  be := h.be.trans (hb.mono lbase)
  oB := h.oB
  oR := h.oR
  om' := h.om'
  ol' := h.ol'
  lR := Nat.lt_of_lt_of_le h.lR hb.size
  nB := h.nB
  n1 := h.n1
  n2 := h.n2
  n3 := h.n3
  n4 := h.n4
  n5 := h.n5

theorem intsRow_list (n : Nat) : (intsRow n).toList = ints (List.replicate n 0) := by
  unfold intsRow
  rw [toList_madeCells_one, Nat.mul_one]
  simp [ints]

theorem entsRow_list (n : Nat) : (entsRow n).toList = ints (List.replicate (n * 5) 0) := by
  apply List.ext_getElem?
  intro j
  unfold entsRow ints
  by_cases hj : j < n * 5
  · have h5 : j % 5 < 5 := Nat.mod_lt _ (by omega)
    have : ∀ k, k < 5 → (#[Value.int .i64 0, .int .i64 0, .int .i64 0, .int .i64 0, .int .i64 0][k]! : Value) = .int .i64 0 := by
      intro k hk
      match k, hk with
      | 0, _ => rfl
      | 1, _ => rfl
      | 2, _ => rfl
      | 3, _ => rfl
      | 4, _ => rfl
    have h := this (j % 5) h5
    simp [madeCells, hj]
    simpa using h
  · simp [madeCells, hj]

theorem size_rows (n : Nat) : (intsRow n).size = n * 1 ∧ (entsRow n).size = n * 5 := ⟨size_madeCells _ _, size_madeCells _ _⟩

theorem types_ne {w : World} {a b : Nat} {x y : Array Value} {s t : TypeId} (ha : w.heap[a]? = some (.cells x s)) (hb : w.heap[b]? = some (.cells y t)) (hst : s ≠ t) : a ≠ b := by
  intro e
  subst e
  rw [ha] at hb
  injection hb with hb
  injection hb with _ h
  exact hst h

end Go.Proofs.Ytgieeeeeiggoeaa
