import Derived.Test.YtgieeeeeiggoeaaP01
import Derived.Test.YtgieeeeeiggoeaaProg
import Derived.WalkKit
import Derived.WalkSpells
import Derived.WalkLawsBesides
import Derived.Deep.RegionHeld3
import Derived.Deep.QuietTactic
import Derived.BigQuiet
namespace Go.Proofs.Ytgieeeeeiggoeaa
open Go.RowKit
theorem ret_int {k : IntKind} {a b : Int} (h : a = b) : Ending.returned (.int k a) = .returned (.int k b) := by rw [h]
theorem wrap_i64_nat (n : Nat) (h : n < 9223372036854775808) : IntKind.i64.wrap (n : Int) = (n : Int) := by
 have e : IntKind.i64.wrap (n : Int) = if (true && decide ((n : Int) % 18446744073709551616 ≥ 9223372036854775808)) = true then (n : Int) % 18446744073709551616 - 18446744073709551616 else (n : Int) % 18446744073709551616 := rfl
 rw [e]
 have : ((n : Int) % 18446744073709551616) = n := by omega
 simp only [this]
 rw [if_neg]
 simp only [Bool.true_and, decide_eq_true_eq]
 omega
theorem conv1 (w : World) (x : Int) : (convert 56 9 (.slice (some ⟨w.heap.size, 0, none⟩) 1 1)).run Try.prog (w.alloc (.cells #[.int .u8 x] 5))
  = .ok (.string ⟨#[UInt8.ofNat x.toNat]⟩) (w.alloc (.cells #[.int .u8 x] 5)) := by
 have h := run_convert_bytes_arg (P := Try.prog) (w.alloc (.cells #[.int .u8 x] 5)) 56 5 Try.underlying56 Try.underlying5 w.heap.size 0 1 1 [x] rfl (fun i hi => by
  obtain rfl : i = 0 := by omega
  simp) 9 Try.underlying9
 rw [h]
 rfl
def IntsAt (w : World) (v : Value) (l : List Int) : Prop :=
 ∃ a c, v = .slice a l.length c ∧ ∀ i, i < l.length → ∃ b off, a = some ⟨b, off, none⟩ ∧ w.cell? ⟨b, off + i, none⟩ = some (.int .i64 (l.getD i 0))
theorem IntsAt.below {w w' : World} {v : Value} {l : List Int} (h : IntsAt w v l) (hb : Below w.heap.size w w') : IntsAt w' v l := by
 obtain ⟨a, c, rfl, h⟩ := h
 refine ⟨a, c, rfl, fun i hi => ?_⟩
 obtain ⟨b, off, ha, hc⟩ := h i hi
 exact ⟨b, off, ha, cell_later hb hc⟩
def LogAt (w : World) (v : Value) (es : List Ent) : Prop :=
 ∃ a c, v = .slice a es.length c ∧ ∀ i, i < es.length → ∃ b off, a = some ⟨b, off, none⟩ ∧
  w.cell? ⟨b, off + i * 5, none⟩ = some (.int .i64 (es.getD i Ent.zero).client) ∧ w.cell? ⟨b, off + i * 5 + 1, none⟩ = some (.int .i64 (es.getD i Ent.zero).seq) ∧
  w.cell? ⟨b, off + i * 5 + 2, none⟩ = some (.int .i64 (es.getD i Ent.zero).kind) ∧ w.cell? ⟨b, off + i * 5 + 3, none⟩ = some (.int .i64 (es.getD i Ent.zero).key) ∧
  w.cell? ⟨b, off + i * 5 + 4, none⟩ = some (.int .i64 (es.getD i Ent.zero).value)
theorem LogAt.below {w w' : World} {v : Value} {es : List Ent} (h : LogAt w v es) (hb : Below w.heap.size w w') : LogAt w' v es := by
 obtain ⟨a, c, rfl, h⟩ := h
 refine ⟨a, c, rfl, fun i hi => ?_⟩
 obtain ⟨b, off, ha, h1, h2, h3, h4, h5⟩ := h i hi
 exact ⟨b, off, ha, cell_later hb h1, cell_later hb h2, cell_later hb h3, cell_later hb h4, cell_later hb h5⟩
theorem infoInt : (Try.prog.info? 3).map (fun i => (i.zero, i.size, i.bytes)) = some (some (.int .i64 0), 1, 8) := by kernel_rfl
def ints (l : List Int) : List Value := l.map (Value.int .i64)
theorem ints_length (l : List Int) : (ints l).length = l.length := by simp [ints]
theorem ints_append (l m : List Int) : ints (l ++ m) = ints l ++ ints m := by simp [ints]
theorem ints_one (l : List Int) : ∀ u ∈ ints l, u.oneCell' = true := by
 intro u hu
 simp only [ints, List.mem_map] at hu
 obtain ⟨n, _, rfl⟩ := hu
 rfl
theorem IntsAt.of_owns {w : World} {base : Nat} {v : Value} {l : List Int} (h : w.ownsRow base 3 1 v l.length (ints l)) : IntsAt w v l := by
 rcases h.2 with ⟨rfl, h0⟩ | ⟨g, cap, cur, rfl, hb, hg, _, _, hs, ht⟩
 ·exact ⟨none, 0, by rw [h0], fun i hi => by omega⟩
 ·refine ⟨some ⟨g, 0, none⟩, cap, rfl, fun i hi => ⟨g, 0, rfl, ?_⟩⟩
  have := h.cellAt i (by omega)
  rw [Nat.zero_add, this]
  simp [ints, List.getD, List.getElem?_eq_getElem hi]
theorem infoEnt : (Try.prog.info? 59).map (fun i => (i.zero, i.size, i.bytes)) = some (some (.agg #[.int .i64 0, .int .i64 0, .int .i64 0, .int .i64 0, .int .i64 0]), 5, 40) := by kernel_rfl
theorem entsNums_getD (es : List Ent) (i j : Nat) (hi : i < es.length) (hj : j < 5) : (entsNums es).getD (i * 5 + j) 0 = (es.getD i Ent.zero).nums.getD j 0 := by
 induction es generalizing i with
 | nil => simp at hi
 | cons a l ih =>
  rw [show entsNums (a :: l) = a.nums ++ entsNums l from rfl]
  cases i with
  | zero =>
   rw [List.getD, List.getElem?_append_left (by show _ < 5; omega)]
   simp
  | succ i =>
   rw [List.getD, List.getElem?_append_right (by show 5 ≤ _; omega)]
   rw [show (i + 1) * 5 + j - a.nums.length = i * 5 + j by show (i + 1) * 5 + j - 5 = _; omega]
   have := ih i (by simpa using hi)
   rw [List.getD] at this
   rw [this]
   simp
theorem LogAt.of_owns {w : World} {base : Nat} {v : Value} {es : List Ent} (h : w.ownsRow base 59 5 v es.length (ints (entsNums es))) : LogAt w v es := by
 rcases h.2 with ⟨rfl, h0⟩ | ⟨g, cap, cur, rfl, hb, hg, _, _, hs, ht⟩
 ·exact ⟨none, 0, by rw [h0], fun i hi => by omega⟩
 ·refine ⟨some ⟨g, 0, none⟩, cap, rfl, fun i hi => ⟨g, 0, rfl, ?_⟩⟩
  have key : ∀ j, j < 5 → w.cell? ⟨g, i * 5 + j, none⟩ = some (.int .i64 ((es.getD i Ent.zero).nums.getD j 0)) := by
   intro j hj
   have hlt : i * 5 + j < (entsNums es).length := by rw [entsNums_length]; omega
   rw [h.cellAt (i * 5 + j) (by omega), ← entsNums_getD es i j hi hj]
   simp [ints, List.getD, List.getElem?_eq_getElem hlt]
  refine ⟨?_, ?_, ?_, ?_, ?_⟩
  ·rw [Nat.zero_add]; exact key 0 (by omega)
  ·rw [Nat.zero_add]; exact key 1 (by omega)
  ·rw [Nat.zero_add]; exact key 2 (by omega)
  ·rw [Nat.zero_add]; exact key 3 (by omega)
  ·rw [Nat.zero_add]; exact key 4 (by omega)
theorem boxed (w : World) (cs : Array Value) (T : TypeId) : ∃ W, w.alloc (.cells cs T) = W ∧ Below w.heap.size w W ∧ W.heap.size = w.heap.size + 1 ∧
  (∀ j, W.cell? ⟨w.heap.size, j, none⟩ = cs[j]?) ∧ (∀ j, W.frozen? ⟨w.heap.size, j, none⟩ = false) :=
 ⟨_, rfl, (Below.refl _ _).alloc (Nat.le_refl _) _, World.size_alloc _ _, fun j => by rw [World.cell?_alloc_at _ _ _ _ rfl], fun j => World.frozen?_alloc_at _ _ _ _ rfl⟩
theorem hideA {p : Prop} (h : p) : Hid p := h
set_option maxHeartbeats 400000 in
theorem cordonlaw_sameInts (a b : Value) (l : List Int) (w : World) (ha : IntsAt w a l) (hb : IntsAt w b l) (hl : l.length ≤ 140737488355328) :
  Calls Try.prog 32 #[a, b] w fun e w' => e = .returned (.bool true) ∧ ∃ q, w' = w.drewN q := by
 obtain ⟨x, c, rfl, ha⟩ := ha
 obtain ⟨y, d, rfl, hb⟩ := hb
 have HA : Hid (∀ i, i < l.length → ∃ b off, x = some ⟨b, off, none⟩ ∧ w.cell? ⟨b, off + i, none⟩ = some (.int .i64 (l.getD i 0))) := ha
 have HB : Hid (∀ i, i < l.length → ∃ b off, y = some ⟨b, off, none⟩ ∧ w.cell? ⟨b, off + i, none⟩ = some (.int .i64 (l.getD i 0))) := hb
 clear ha hb
 go_enter Try.func32, Try.ntmps32
 go_wp2_with fail
 go_loopw [5] (fun i wr => ∃ k q : Nat, k ≤ l.length ∧ i = .int .i64 k ∧ wr = w.drewN q) (fun i _ => l.length - (intOf i).toNat)
 case atStart => exact ⟨0, 0, Nat.zero_le _, rfl, rfl⟩
 case round =>
  obtain ⟨k, q, hk, rfl, rfl⟩ := hrel
  have hl0 : (0 : Int) ≤ (k : Int) := by omega
  by_cases hlt : k < l.length
  ·obtain ⟨b1, o1, rfl, c1⟩ := HA.out k hlt
   obtain ⟨b2, o2, rfl, c2⟩ := HB.out k hlt
   generalize l.getD k 0 = v at *
   have hl1 : (k : Int) < (l.length : Int) := by omega
   go_wp2_with fail
   go_quiet (fail)
   go_wp2_with fail
   exact ⟨⟨k + 1, _, by omega, by go_num, rfl⟩, by simp [intOf]; omega⟩
  ·go_wp2_with fail
   go_ret
   exact ⟨rfl, q, rfl⟩
set_option maxHeartbeats 1000000 in
set_option maxRecDepth 100000 in
theorem cordonlaw_sameLogs (a b : Value) (l : List Ent) (w : World) (ha : LogAt w a l) (hb : LogAt w b l) (hl : l.length ≤ 140737488355328) :
  Calls Try.prog 33 #[a, b] w fun e w' => e = .returned (.bool true) ∧ ∃ q, w' = w.drewN q := by
 obtain ⟨x, c, rfl, ha⟩ := ha
 obtain ⟨y, d, rfl, hb⟩ := hb
 have HA := hideA ha
 have HB := hideA hb
 clear ha hb
 go_enter Try.func33, Try.ntmps33
 go_wp2_with fail
 go_loopw [5] (fun i wr => ∃ k q : Nat, k ≤ l.length ∧ i = .int .i64 k ∧ wr = w.drewN q) (fun i _ => l.length - (intOf i).toNat)
 case atStart => exact ⟨0, 0, Nat.zero_le _, rfl, rfl⟩
 case round =>
  obtain ⟨k, q, hk, rfl, rfl⟩ := hrel
  have hl0 : (0 : Int) ≤ (k : Int) := by omega
  by_cases hlt : k < l.length
  ·obtain ⟨b1, o1, rfl, c1, c2, c3, c4, c5⟩ := HA.out k hlt
   obtain ⟨b2, o2, rfl, d1, d2, d3, d4, d5⟩ := HB.out k hlt
   generalize l.getD k Ent.zero = v at *
   have hl1 : (k : Int) < (l.length : Int) := by omega
   go_wp2_with fail
   go_quiet (fail)
   go_wp2_with fail
   exact ⟨⟨k + 1, _, by omega, by go_num, rfl⟩, by simp [intOf]; omega⟩
  ·go_wp2_with fail
   go_ret
   exact ⟨rfl, q, rfl⟩
def CellsAt (w : World) (v : Value) (n : Nat) (xs : List Value) : Prop :=
 ∃ a c, v = .slice a n c ∧ (∀ j u, xs[j]? = some u → ∃ x, a = some x ∧ w.cell? (x.add j) = some u)
theorem CellsAt.of_owns {w : World} {base size n : Nat} {e : TypeId} {v : Value} {xs : List Value} (h : w.ownsRow base e size v n xs) : CellsAt w v n xs := by
 rcases h.2 with ⟨rfl, rfl⟩ | ⟨g, cap, cur, rfl, hb, hg, hn, hm, hs, ht⟩
 ·refine ⟨_, _, rfl, fun j u hj => ?_⟩
  have h0 := h.1
  have := (List.getElem?_eq_some_iff.1 hj).1
  omega
 ·exact ⟨_, _, rfl, fun j u hj => ⟨_, rfl, h.cells rfl j u hj⟩⟩
theorem infoStr : (Try.prog.info? 9).map (fun i => (i.zero, i.size, i.bytes)) = some (some (.string ⟨#[]⟩), 1, 16) := by kernel_rfl
theorem infoAns : (Try.prog.info? 77).map (fun i => (i.zero, i.size, i.bytes)) = some (some (.agg #[.int .i64 0, .int .i64 0, .int .i64 0]), 3, 24) := by kernel_rfl
theorem below_grown_new {w w' : World} {o : Obj} (hg : (w.alloc o).grownBy w' (Value.ownBlock (.slice (some ⟨w.heap.size, 0, none⟩) 0 0))) : Below w.heap.size w w' :=
 ((Below.refl w.heap.size w).alloc (Nat.le_refl _) o).grown hg (by simp) (fun k hk => by simp [Value.ownBlock] at hk; omega)
theorem eqNil_ints (w : World) (a : Option Addr) (n c : Nat) : (binOp .eql 22 (.slice a n c) (.slice none 0 0)).run Try.prog w = .ok (.bool a.isNone) w := by
 unfold binOp
 simp [run_equal_slice_nil w _ _ a n c Try.underlying22]
set_option maxRecDepth 100000 in
set_option maxHeartbeats 1000000 in
theorem clone_ints (v : Value) (n : Nat) (xs : List Value) (w : World) (hv : CellsAt w v n xs) (hx : xs.length = n * 1) (h1 : ∀ u ∈ xs, u.oneCell' = true) (hl : n ≤ 3000000000000) :
  Calls Try.prog 91 #[v] w fun e w' => ∃ v', e = .returned v' ∧ w'.ownsRow w.heap.size 3 1 v' n xs ∧ Below w.heap.size w w' := by
 obtain ⟨a, c, rfl, hc⟩ := hv
 have Hc := hideA hc
 have hE := fun w => eqNil_ints w a n c
 have H1 := hideA h1
 clear hc h1
 cases a with
 | none =>
  obtain rfl : xs = [] := by
   cases xs with
   | nil => rfl
   | cons u t => obtain ⟨x, hx, _⟩ := Hc.out 0 u rfl; cases hx
  obtain rfl : n = 0 := by simp at hx; omega
  go_enter Try.func91, Try.ntmps91
  go_wp2_with fail
  go_ret
  exact ⟨_, rfl, World.ownsRow_nil _ _ _ _, Below.refl _ _⟩
 | some ad =>
  obtain ⟨i0, hi, hz0, hz1, hz2⟩ := info_parts infoInt
  go_enter Try.func91, Try.ntmps91
  go_wp2_with (at_builtin; refine wpList_append_own _ rfl _ _ 22 rfl w.heap.size 3 i0 _ 1 8 Try.underlying22 hi hz0 hz1 hz2 rfl (by decide) (.slice (some ⟨w.heap.size, 0, none⟩) 0 0) 0 [] rfl (World.ownsRow_made w #[] 0 (Nat.le_refl _) (by unfold maxLen; omega) rfl) ad n c xs rfl hx (fun j u hj => by obtain ⟨x, e, hc⟩ := Hc.out j u hj; cases e; exact cell_later ((Below.refl _ w).alloc (Nat.le_refl _) _) hc) H1.out (by unfold maxLen; omega) (by omega) (by simp) ?_)
  intro v' w' ho hg _
  go_wp2_with fail
  go_ret
  exact ⟨_, rfl, by simpa using ho, below_grown_new hg⟩
theorem eqNil_ents (w : World) (a : Option Addr) (n c : Nat) : (binOp .eql 23 (.slice a n c) (.slice none 0 0)).run Try.prog w = .ok (.bool a.isNone) w := by
 unfold binOp
 simp [run_equal_slice_nil w _ _ a n c Try.underlying23]
set_option maxRecDepth 100000 in
set_option maxHeartbeats 1000000 in
theorem clone_ents (v : Value) (n : Nat) (xs : List Value) (w : World) (hv : CellsAt w v n xs) (hx : xs.length = n * 5) (h1 : ∀ u ∈ xs, u.oneCell' = true) (hl : n ≤ 3000000000000) :
  Calls Try.prog 92 #[v] w fun e w' => ∃ v', e = .returned v' ∧ w'.ownsRow w.heap.size 59 5 v' n xs ∧ Below w.heap.size w w' := by
 obtain ⟨a, c, rfl, hc⟩ := hv
 have Hc := hideA hc
 have hE := fun w => eqNil_ents w a n c
 have H1 := hideA h1
 clear hc h1
 cases a with
 | none =>
  obtain rfl : xs = [] := by
   cases xs with
   | nil => rfl
   | cons u t => obtain ⟨x, hx, _⟩ := Hc.out 0 u rfl; cases hx
  obtain rfl : n = 0 := by simp at hx; omega
  go_enter Try.func92, Try.ntmps92
  go_wp2_with fail
  go_ret
  exact ⟨_, rfl, World.ownsRow_nil _ _ _ _, Below.refl _ _⟩
 | some ad =>
  obtain ⟨i0, hi, hz0, hz1, hz2⟩ := info_parts infoEnt
  go_enter Try.func92, Try.ntmps92
  go_wp2_with (at_builtin; refine wpList_append_own _ rfl _ _ 23 rfl w.heap.size 59 i0 _ 5 40 Try.underlying23 hi hz0 hz1 hz2 rfl (by decide) (.slice (some ⟨w.heap.size, 0, none⟩) 0 0) 0 [] rfl (World.ownsRow_made w #[] 0 (Nat.le_refl _) (by unfold maxLen; omega) rfl) ad n c xs rfl hx (fun j u hj => by obtain ⟨x, e, hc⟩ := Hc.out j u hj; cases e; exact cell_later ((Below.refl _ w).alloc (Nat.le_refl _) _) hc) H1.out (by unfold maxLen; omega) (by omega) (by simp) ?_)
  intro v' w' ho hg _
  go_wp2_with fail
  go_ret
  exact ⟨_, rfl, by simpa using ho, below_grown_new hg⟩
theorem eqNil_strs (w : World) (a : Option Addr) (n c : Nat) : (binOp .eql 74 (.slice a n c) (.slice none 0 0)).run Try.prog w = .ok (.bool a.isNone) w := by
 unfold binOp
 simp [run_equal_slice_nil w _ _ a n c Try.underlying74]
theorem eqNil_anss (w : World) (a : Option Addr) (n c : Nat) : (binOp .eql 75 (.slice a n c) (.slice none 0 0)).run Try.prog w = .ok (.bool a.isNone) w := by
 unfold binOp
 simp [run_equal_slice_nil w _ _ a n c Try.underlying75]
set_option maxRecDepth 100000 in
set_option maxHeartbeats 1000000 in
theorem clone_anss (v : Value) (n : Nat) (xs : List Value) (w : World) (hv : CellsAt w v n xs) (hx : xs.length = n * 3) (h1 : ∀ u ∈ xs, u.oneCell' = true) (hl : n ≤ 3000000000000) :
  Calls Try.prog 84 #[v] w fun e w' => ∃ v', e = .returned v' ∧ w'.ownsRow w.heap.size 77 3 v' n xs ∧ Below w.heap.size w w' := by
 obtain ⟨a, c, rfl, hc⟩ := hv
 have Hc := hideA hc
 have hE := fun w => eqNil_anss w a n c
 have H1 := hideA h1
 clear hc h1
 cases a with
 | none =>
  obtain rfl : xs = [] := by
   cases xs with
   | nil => rfl
   | cons u t => obtain ⟨x, hx, _⟩ := Hc.out 0 u rfl; cases hx
  obtain rfl : n = 0 := by simp at hx; omega
  go_enter Try.func84, Try.ntmps84
  go_wp2_with fail
  go_ret
  exact ⟨_, rfl, World.ownsRow_nil _ _ _ _, Below.refl _ _⟩
 | some ad =>
  obtain ⟨i0, hi, hz0, hz1, hz2⟩ := info_parts infoAns
  go_enter Try.func84, Try.ntmps84
  go_wp2_with (at_builtin; refine wpList_append_own _ rfl _ _ 75 rfl w.heap.size 77 i0 _ 3 24 Try.underlying75 hi hz0 hz1 hz2 rfl (by decide) (.slice (some ⟨w.heap.size, 0, none⟩) 0 0) 0 [] rfl (World.ownsRow_made w #[] 0 (Nat.le_refl _) (by unfold maxLen; omega) rfl) ad n c xs rfl hx (fun j u hj => by obtain ⟨x, e, hc⟩ := Hc.out j u hj; cases e; exact cell_later ((Below.refl _ w).alloc (Nat.le_refl _) _) hc) H1.out (by unfold maxLen; omega) (by omega) (by simp) ?_)
  intro v' w' ho hg _
  go_wp2_with fail
  go_ret
  exact ⟨_, rfl, by simpa using ho, below_grown_new hg⟩
end Go.Proofs.Ytgieeeeeiggoeaa
