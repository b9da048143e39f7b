import Derived.Test.YtlminmokpmdgoaaP08
import Derived.Test.YtlminmokpmdgoaaP02
import Derived.Test.YtlminmokpmdgoaaP06
import Derived.Test.YtlminmokpmdgoaaP05
namespace Go.Proofs.Ytlminmokpmdgoaa
open Go.RowKit Go.Shelf
def findV (gs n : Nat) (d : Int) : Value := .pointer ((nodPlace n d).map fun j => ⟨gs, j * 3, none⟩)
set_option maxRecDepth 100000 in
set_option maxHeartbeats 1000000 in
theorem find_any (w : World) (F : Nat → Prop) (x gs cap : Nat) (c : Clu) (b : Nat → Nat) (Fn : Nat → Nat → Prop) (vr va vm vb vt : Value) (d : Int) (h : CluIn w F x gs cap c b Fn vr va vm vb vt) :
  Calls Try.prog 95 #[.pointer (some ⟨x, 0, none⟩), .int .i64 d] w fun e w' => e = .returned (findV gs c.reps.length d) ∧ w' = w := by
 have n5 := h.n5
 have c0 := cell_of_heap h.bag.blk 0
 obtain ⟨cs, hcs, hst⟩ := h.sta
 have HC : Hid (∀ j, j < c.reps.length + 5 → w.cell? ⟨gs, j * 3, none⟩ = some (.int .i64 (numOf c.reps.length j))) := hideA fun j hj => (cell_of_heap hcs (j * 3)).trans (hst j hj).1
 have HFs : Hid (∀ j, j < c.reps.length + 5 → numOf c.reps.length j = d → findV gs c.reps.length d = .pointer (some ⟨gs, j * 3, none⟩)) := hideA fun j hj e => by unfold findV; rw [← e, num_nodPlace n5 hj]; rfl
 have HFn : Hid ((∀ j, j < c.reps.length + 5 → numOf c.reps.length j ≠ d) → findV gs c.reps.length d = .pointer none) := hideA fun hh => by
  unfold findV
  cases hp : nodPlace c.reps.length d with
  | none => rfl
  | some j => exact absurd (nodPlace_num hp) (hh j (nodPlace_lt hp))
 have hcap := h.hcap
 clear h hcs hst
 generalize findV gs c.reps.length d = fv at *
 generalize hN : c.reps.length + 5 = N at *
 generalize numOf c.reps.length = nf at *
 go_enter Try.func95, Try.ntmps95
 go_wp2_with fail
 go_loopw [11] (fun i wr => ∃ k : Nat, k ≤ N ∧ i = .int .i64 k ∧ wr = w ∧ ∀ j, j < k → nf j ≠ d) (fun i _ => N - (intOf i).toNat)
 case atStart => exact ⟨0, Nat.zero_le _, rfl, rfl, fun j hj => absurd hj (Nat.not_lt_zero _)⟩
 case round =>
  obtain ⟨k, hk, rfl, rfl, hno⟩ := hrel
  by_cases hlt : k < N
  ·have ck := HC.out k hlt
   have hk1 : (k : Int) < (N : Int) := by omega
   have HFk := hideA (HFs.out k hlt)
   have HNo := hideA hno
   clear hno
   generalize hy : nf k = y at *
   by_cases hyd : y = d
   ·have H := hideA (HFk.out hyd)
    subst hyd
    go_wp2_with fail
    go_ret
    exact ⟨by rw [H.out]; rfl, rfl⟩
   ·have hxd : (y == d) = false := by simp [hyd]
    go_wp2_with fail
    go_roundw
    case rel =>
     refine ⟨k + 1, by omega, by go_num, by trivial, fun j hj => ?_⟩
     by_cases e : j = k
     ·subst e
      rw [hy]
      exact hyd
     ·exact HNo.out j (by omega)
    case measure => simp [intOf]; omega
  ·obtain rfl : k = N := by omega
   have H := hideA (HFn.out hno)
   clear hno
   go_wp2_with fail
   go_ret
   exact ⟨by rw [H.out]; rfl, rfl⟩
def findIn (c : Clu) (gs : Nat) (up : Bool) (d : Int) : Value :=
 match nodPlace c.reps.length d with
 | none => .tuple #[.pointer none, .int .i64 4]
 | some j => if (c.nod j).up = up then .tuple #[.pointer (some ⟨gs, j * 3, none⟩), .int .i64 0] else .tuple #[.pointer none, .int .i64 5]
set_option maxRecDepth 100000 in
set_option maxHeartbeats 1000000 in
theorem findIn_any (w : World) (F : Nat → Prop) (x gs cap : Nat) (c : Clu) (b : Nat → Nat) (Fn : Nat → Nat → Prop) (vr va vm vb vt : Value) (up : Bool) (d : Int) (h : CluIn w F x gs cap c b Fn vr va vm vb vt) :
  Calls Try.prog 94 #[.pointer (some ⟨x, 0, none⟩), .int .i64 (upInt up), .int .i64 d] w fun e w' => e = .returned (findIn c gs up d) ∧ w' = w := by
 have hf := find_any w F x gs cap c b Fn vr va vm vb vt d h
 obtain ⟨cs, hcs, hst⟩ := h.sta
 cases hp : nodPlace c.reps.length d with
 | none =>
  have H : Hid (findIn c gs up d = .tuple #[.pointer none, .int .i64 4]) := hideA (by unfold findIn; rw [hp])
  have e : findV gs c.reps.length d = .pointer none := by unfold findV; rw [hp]; rfl
  rw [e] at hf
  clear h e
  go_enter Try.func94, Try.ntmps94
  go_wp2_with fail
  refine hf.mono ?_
  rintro e w1 ⟨rfl, rfl⟩
  clear hf
  go_wp2_with fail
  go_ret2
  exact ⟨by rw [H.out]; rfl, rfl⟩
 | some j =>
  have hj := nodPlace_lt hp
  have e : findV gs c.reps.length d = .pointer (some ⟨gs, j * 3, none⟩) := by unfold findV; rw [hp]; rfl
  have c1 : w.cell? ⟨gs, j * 3 + 1, none⟩ = some (.int .i64 (upInt (c.nod j).up)) := (cell_of_heap hcs (j * 3 + 1)).trans (hst j hj).2.1
  rw [e] at hf
  clear h e hcs hst
  by_cases hu : (c.nod j).up = up
  ·have H : Hid (findIn c gs up d = .tuple #[.pointer (some ⟨gs, j * 3, none⟩), .int .i64 0]) := hideA (by unfold findIn; rw [hp]; simp [hu])
   rw [hu] at c1
   generalize upInt up = u at *
   go_enter Try.func94, Try.ntmps94
   go_wp2_with fail
   refine hf.mono ?_
   rintro e w1 ⟨rfl, rfl⟩
   clear hf
   go_wp2_with fail
   go_ret2
   exact ⟨by rw [H.out]; rfl, rfl⟩
  ·have H : Hid (findIn c gs up d = .tuple #[.pointer none, .int .i64 5]) := hideA (by unfold findIn; rw [hp]; simp [hu])
   have hne : (upInt (c.nod j).up == upInt up) = false := by
    revert hu
    cases (c.nod j).up <;> cases up <;> simp [upInt]
   have hne2 : ¬ upInt (c.nod j).up = upInt up := by simpa using hne
   generalize upInt up = u at *
   generalize upInt (c.nod j).up = u2 at *
   go_enter Try.func94, Try.ntmps94
   go_wp2_with fail
   refine hf.mono ?_
   rintro e w1 ⟨rfl, rfl⟩
   clear hf
   go_wp2_with fail
   go_ret2
   exact ⟨by rw [H.out]; rfl, rfl⟩
set_option maxRecDepth 100000 in
theorem isUp_any (w : World) (F : Nat → Prop) (x gs cap : Nat) (c : Clu) (b : Nat → Nat) (Fn : Nat → Nat → Prop) (vr va vm vb vt : Value) (d : Int) (h : CluIn w F x gs cap c b Fn vr va vm vb vt) :
  Calls Try.prog 87 #[.pointer (some ⟨x, 0, none⟩), .int .i64 d] w fun e w' => e = .returned (.bool (decide (c.upOf d = some true))) ∧ w' = w := by
 have hf : Calls Try.prog 94 #[.pointer (some ⟨x, 0, none⟩), .int .i64 0, .int .i64 d] w fun e w' => e = .returned (findIn c gs true d) ∧ w' = w := findIn_any w F x gs cap c b Fn vr va vm vb vt true d h
 have hu := upOf_nod c d
 clear h
 cases hp : nodPlace c.reps.length d with
 | none =>
  have e : findIn c gs true d = .tuple #[.pointer none, .int .i64 4] := by unfold findIn; rw [hp]
  have H : Hid (decide (c.upOf d = some true) = false) := hideA (by rw [hu, hp]; rfl)
  rw [e] at hf
  clear e hu
  go_enter Try.func87, Try.ntmps87
  go_wp2_with fail
  refine hf.mono ?_
  rintro e w1 ⟨rfl, rfl⟩
  clear hf
  go_wp2_with fail
  go_ret
  exact ⟨by rw [H.out]; rfl, rfl⟩
 | some j =>
  by_cases hu2 : (c.nod j).up = true
  ·have e : findIn c gs true d = .tuple #[.pointer (some ⟨gs, j * 3, none⟩), .int .i64 0] := by unfold findIn; rw [hp]; simp [hu2]
   have H : Hid (decide (c.upOf d = some true) = true) := hideA (by rw [hu, hp]; simp [hu2])
   rw [e] at hf
   clear e hu
   go_enter Try.func87, Try.ntmps87
   go_wp2_with fail
   refine hf.mono ?_
   rintro e w1 ⟨rfl, rfl⟩
   clear hf
   go_wp2_with fail
   go_ret
   exact ⟨by rw [H.out]; rfl, rfl⟩
  ·have e : findIn c gs true d = .tuple #[.pointer none, .int .i64 5] := by unfold findIn; rw [hp]; simp [hu2]
   have H : Hid (decide (c.upOf d = some true) = false) := hideA (by rw [hu, hp]; simp [hu2])
   rw [e] at hf
   clear e hu
   go_enter Try.func87, Try.ntmps87
   go_wp2_with fail
   refine hf.mono ?_
   rintro e w1 ⟨rfl, rfl⟩
   clear hf
   go_wp2_with fail
   go_ret
   exact ⟨by rw [H.out]; rfl, rfl⟩
set_option maxRecDepth 100000 in
theorem cluBag_any {w : World} {F : Nat → Prop} {x : Nat} {c : Clu} (h : CAt w F x c) (hg : c.bag.length ≤ 200) :
  Calls Try.prog 65 #[.pointer (some ⟨x, 0, none⟩)] w fun r w' => ∃ v, r = .returned v ∧ w'.ownsRow w.heap.size 9 1 v c.bag.length (bagV c.bag) ∧ Below w.heap.size w w' := by
 obtain ⟨gs, cap, b, Fn, vr, va, vm, vb, vt, h⟩ := h
 have HL := hideA (bagList_any x _ vr va vm vb vt c.bag w h.bag hg)
 clear h
 go_enter Try.func65, Try.ntmps65
 go_wp2_with fail
 refine HL.out.mono ?_
 rintro e W ⟨v, rfl, h1, h2⟩
 obtain ⟨a9, c9, rfl⟩ := owns_shape h1
 have H1 := hideA h1
 clear h1
 go_wp2_with fail
 go_ret
 exact ⟨_, rfl, H1.out, h2⟩
set_option maxRecDepth 100000 in
theorem cluAnswers_any {w : World} {F : Nat → Prop} {x : Nat} {c : Clu} (h : CAt w F x c) (hg : c.told.length ≤ 3000000000000) :
  Calls Try.prog 69 #[.pointer (some ⟨x, 0, none⟩)] w fun r w' => ∃ v, r = .returned v ∧ w'.ownsRow w.heap.size 77 3 v c.told.length (ints (ansNums c.told)) ∧ Below w.heap.size w w' := by
 obtain ⟨gs, cap, b, Fn, vr, va, vm, vb, vt, h⟩ := h
 have HC := hideA (clone_anss vt c.told.length (ints (ansNums c.told)) w (CellsAt.of_owns h.rt) (by rw [ints_length, ansNums_length]) (ints_one _) hg)
 obtain ⟨at', ct, rfl⟩ := owns_shape h.rt
 have c5 := cell_of_heap h.bag.blk 5
 clear h
 go_enter Try.func69, Try.ntmps69
 go_wp2_with fail
 refine HC.out.mono ?_
 rintro e W ⟨v, rfl, h1, h2⟩
 obtain ⟨a9, c9, rfl⟩ := owns_shape h1
 have H1 := hideA h1
 clear h1
 go_wp2_with fail
 go_ret
 exact ⟨_, rfl, H1.out, h2⟩
theorem ptrs_at (b : Nat → Nat) (from_ m k : Nat) (h : k < m) : (ptrs b from_ m)[k]? = some (.pointer (some ⟨b (from_ + k), 0, none⟩)) := by
 unfold ptrs
 rw [List.getElem?_map, List.getElem?_range h]
 rfl
set_option maxRecDepth 100000 in
theorem pickRep_any (v : Value) (b : Nat → Nat) (s n : Nat) (f d : Int) (w : World) (h : w.ownsRow 0 154 1 v n (ptrs b s n)) (hn : n ≤ 100) (hf : 0 ≤ f ∧ f ≤ 1000) :
  Calls Try.prog 85 #[v, .int .i64 f, .int .i64 d] w fun e w' => e = .returned (if f ≤ d ∧ d < f + n then .tuple #[.pointer (some ⟨b (s + (d - f).toNat), 0, none⟩), .bool true] else .tuple #[.pointer none, .bool false]) ∧ w' = w := by
 obtain ⟨a, c, rfl⟩ := owns_shape h
 have hw1 : IntKind.i64.wrap (f + (n : Int)) = f + (n : Int) := by rw [IntKind.wrap_i64]; omega
 by_cases h1 : d < f
 ·have H : Hid ((if f ≤ d ∧ d < f + n then Value.tuple #[.pointer (some ⟨b (s + (d - f).toNat), 0, none⟩), .bool true] else .tuple #[.pointer none, .bool false]) = .tuple #[.pointer none, .bool false]) := hideA (if_neg (by omega))
  rw [H.out]
  clear h
  go_enter Try.func85, Try.ntmps85
  go_wp2_with fail
  go_ret2
  exact ⟨rfl, rfl⟩
 ·by_cases h2 : f + (n : Int) ≤ d
  ·have H : Hid ((if f ≤ d ∧ d < f + n then Value.tuple #[.pointer (some ⟨b (s + (d - f).toNat), 0, none⟩), .bool true] else .tuple #[.pointer none, .bool false]) = .tuple #[.pointer none, .bool false]) := hideA (if_neg (by omega))
   rw [H.out]
   clear h
   go_enter Try.func85, Try.ntmps85
   go_wp2_with fail
   go_ret2
   exact ⟨rfl, rfl⟩
  ·have H : Hid ((if f ≤ d ∧ d < f + n then Value.tuple #[.pointer (some ⟨b (s + (d - f).toNat), 0, none⟩), .bool true] else .tuple #[.pointer none, .bool false]) = .tuple #[.pointer (some ⟨b (s + (d - f).toNat), 0, none⟩), .bool true]) := hideA (if_pos (by omega))
   rw [H.out]
   have hw2 : IntKind.i64.wrap (d - f) = ((d - f).toNat : Int) := by rw [IntKind.wrap_i64]; omega
   have hkl : (d - f).toNat < n := by omega
   obtain ⟨g, cap, hv, -, -⟩ := h.form (by omega)
   cases hv
   have ck : w.cell? ⟨g, (d - f).toNat, none⟩ = some (.pointer (some ⟨b (s + (d - f).toNat), 0, none⟩)) := by
    rw [World.ownsRow.cellAt h (d - f).toNat (by omega)]
    exact ptrs_at b s n _ hkl
   clear h
   generalize (d - f).toNat = k at *
   have hk0 : (0 : Int) ≤ (k : Int) := by omega
   have hk1 : (k : Int) < (n : Int) := by omega
   go_enter Try.func85, Try.ntmps85
   go_wp2_with fail
   go_ret2
   exact ⟨rfl, rfl⟩
set_option maxRecDepth 100000 in
theorem pickAcc_any (v : Value) (b : Nat → Nat) (s n : Nat) (f d : Int) (w : World) (h : w.ownsRow 0 157 1 v n (ptrs b s n)) (hn : n ≤ 100) (hf : 0 ≤ f ∧ f ≤ 1000) :
  Calls Try.prog 89 #[v, .int .i64 f, .int .i64 d] w fun e w' => e = .returned (if f ≤ d ∧ d < f + n then .tuple #[.pointer (some ⟨b (s + (d - f).toNat), 0, none⟩), .bool true] else .tuple #[.pointer none, .bool false]) ∧ w' = w := by
 obtain ⟨a, c, rfl⟩ := owns_shape h
 have hw1 : IntKind.i64.wrap (f + (n : Int)) = f + (n : Int) := by rw [IntKind.wrap_i64]; omega
 by_cases h1 : d < f
 ·have H : Hid ((if f ≤ d ∧ d < f + n then Value.tuple #[.pointer (some ⟨b (s + (d - f).toNat), 0, none⟩), .bool true] else .tuple #[.pointer none, .bool false]) = .tuple #[.pointer none, .bool false]) := hideA (if_neg (by omega))
  rw [H.out]
  clear h
  go_enter Try.func89, Try.ntmps89
  go_wp2_with fail
  go_ret2
  exact ⟨rfl, rfl⟩
 ·by_cases h2 : f + (n : Int) ≤ d
  ·have H : Hid ((if f ≤ d ∧ d < f + n then Value.tuple #[.pointer (some ⟨b (s + (d - f).toNat), 0, none⟩), .bool true] else .tuple #[.pointer none, .bool false]) = .tuple #[.pointer none, .bool false]) := hideA (if_neg (by omega))
   rw [H.out]
   clear h
   go_enter Try.func89, Try.ntmps89
   go_wp2_with fail
   go_ret2
   exact ⟨rfl, rfl⟩
  ·have H : Hid ((if f ≤ d ∧ d < f + n then Value.tuple #[.pointer (some ⟨b (s + (d - f).toNat), 0, none⟩), .bool true] else .tuple #[.pointer none, .bool false]) = .tuple #[.pointer (some ⟨b (s + (d - f).toNat), 0, none⟩), .bool true]) := hideA (if_pos (by omega))
   rw [H.out]
   have hw2 : IntKind.i64.wrap (d - f) = ((d - f).toNat : Int) := by rw [IntKind.wrap_i64]; omega
   have hkl : (d - f).toNat < n := by omega
   obtain ⟨g, cap, hv, -, -⟩ := h.form (by omega)
   cases hv
   have ck : w.cell? ⟨g, (d - f).toNat, none⟩ = some (.pointer (some ⟨b (s + (d - f).toNat), 0, none⟩)) := by
    rw [World.ownsRow.cellAt h (d - f).toNat (by omega)]
    exact ptrs_at b s n _ hkl
   clear h
   generalize (d - f).toNat = k at *
   have hk0 : (0 : Int) ≤ (k : Int) := by omega
   have hk1 : (k : Int) < (n : Int) := by omega
   go_enter Try.func89, Try.ntmps89
   go_wp2_with fail
   go_ret2
   exact ⟨rfl, rfl⟩
end Go.Proofs.Ytlminmokpmdgoaa
