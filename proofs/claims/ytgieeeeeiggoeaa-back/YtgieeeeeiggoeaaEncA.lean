import Derived.RangeFuncNested
import Derived.RangeFuncBound
import Derived.RangeFuncCalls
import Derived.RangeFuncLeaves
import Derived.Shelf.Abstract
import Derived.Shelf.RegionOpen
import Derived.OwnWalkIn
import Derived.TacticsInMore
import Derived.LoopNIn
import Derived.LoopIn
import Derived.Test.YtgieeeeeiggoeaaWireC
import Derived.Test.YtgieeeeeiggoeaaSame
namespace Go.Proofs.Ytgieeeeeiggoeaa
open Go.RowKit Go.Shelf

attribute [local go_sem] Oper.semAt_some

/-- Only rows of bytes and boxes of such may have turned. -/
def KeepT (W W' : World) : Prop := ∀ (k : Nat) (cs : Array Value) (T : TypeId) (fz : Nat × Nat), T ≠ 5 → T ≠ 56 → W.heap[k]? = some (Obj.cells cs T fz) → W'.heap[k]? = some (Obj.cells cs T fz)

theorem KeepT.refl (W : World) : KeepT W W := fun _ _ _ _ _ _ h => h
theorem KeepT.trans {A B C : World} (h : KeepT A B) (k : KeepT B C) : KeepT A C := fun i cs T fz h1 h2 h3 => k i cs T fz h1 h2 (h i cs T fz h1 h2 h3)
theorem KeepT.below {A B : World} (h : Below A.heap.size A B) : KeepT A B := fun i _ _ _ _ _ h3 => (h.block i (Array.getElem?_eq_some_iff.1 h3).1).trans h3

theorem grown_of_below {A B : World} (h : Below A.heap.size A B) : A.grownBy B none := ⟨h.os, h.tape, h.output, h.size, fun k hk _ => h.block k hk⟩

/-- Block g holds the entries es. -/
def RowIs (w : World) (g : Nat) (es : List Ent) : Prop :=
  ∃ cur fz, w.heap[g]? = some (.cells cur 59 fz) ∧ ∀ i, i < es.length →
    w.cell? ⟨g, i * 5, none⟩ = some (.int .i64 (es.getD i Ent.zero).client) ∧ w.cell? ⟨g, i * 5 + 1, none⟩ = some (.int .i64 (es.getD i Ent.zero).seq) ∧
    w.cell? ⟨g, i * 5 + 2, none⟩ = some (.int .i64 (es.getD i Ent.zero).kind) ∧ w.cell? ⟨g, i * 5 + 3, none⟩ = some (.int .i64 (es.getD i Ent.zero).key) ∧
    w.cell? ⟨g, i * 5 + 4, none⟩ = some (.int .i64 (es.getD i Ent.zero).value)

theorem cell_same {A B : World} {g : Nat} (h : B.heap[g]? = A.heap[g]?) (j : Nat) : B.cell? ⟨g, j, none⟩ = A.cell? ⟨g, j, none⟩ := World.cell?_of_block (a := ⟨g, j, none⟩) h

theorem RowIs.keep {A B : World} {g : Nat} {es : List Ent} (h : RowIs A g es) (k : KeepT A B) : RowIs B g es := by
  obtain ⟨cur, fz, h1, h2⟩ := h
  have h3 := k g cur 59 fz (by decide) (by decide) h1
  have e : B.heap[g]? = A.heap[g]? := h3.trans h1.symm
  refine ⟨cur, fz, h3, fun i hi => ?_⟩
  rw [cell_same e, cell_same e, cell_same e, cell_same e, cell_same e]
  exact h2 i hi

theorem nums_take (e : Ent) (j : Nat) (h : j < 5) : e.nums.take (j + 1) = e.nums.take j ++ [e.nums.getD j 0] := take_snoc_ints _ _ h

theorem ent_cell {w : World} {E : Nat} {e : Ent} (h : w.heap[E]? = some (.cells #[.int .i64 e.client, .int .i64 e.seq, .int .i64 e.kind, .int .i64 e.key, .int .i64 e.value] 59)) (j : Nat) (hj : j < 5) :
    w.cell? ⟨E, j, none⟩ = some (.int .i64 (e.nums.getD j 0)) := by
  rw [cell_of_heap h]
  match j, hj with
  | 0, _ => rfl
  | 1, _ => rfl
  | 2, _ => rfl
  | 3, _ => rfl
  | 4, _ => rfl

set_option maxRecDepth 100000 in
set_option maxHeartbeats 2000000 in
theorem nums1_in (n : Nat) (l Bs g cap : Nat) (es : List Ent) (hl : es.length ≤ 24) (J Jx : List Int → World → Prop) (W : World)
    (hJ : AbidesFrom W.heap.size J)
    (hY : ∀ pre x W1, J pre W1 → pre.length < (entsNums es).length → YieldAt Fence.wide (n - 1) Try.prog l #[.int .i64 x] W1 fun e W' =>
      (e = .returned (.bool true) ∧ J (pre ++ [x]) W' ∧ KeepT W1 W') ∨ (e = .returned (.bool false) ∧ Jx (pre ++ [x]) W'))
    (hBs : W.cell? ⟨Bs, 0, none⟩ = some (.slice (some ⟨g, 0, none⟩) es.length cap)) (hrow : RowIs W g es) (h0 : J [] W) :
    CallsIn Fence.wide n Try.prog 76 #[.func (.yield l) #[] #[], .pointer (some ⟨Bs, 0, none⟩)] W fun e W' => (∃ v, e = .returned v) ∧
      ((∃ ys, ys = entsNums es ∧ J ys W') ∨ (∃ pre, pre <+: entsNums es ∧ Jx pre W')) := by
  refine callsIn_of_wp Try.func76 rfl trivial ?_ rfl
  simp only [Try.ntmps76, List.size_toArray, List.length_cons, List.length_nil, Nat.reduceAdd, Nat.reduceSub, Array.replicate_succ, Array.replicate_zero, List.push_toArray, List.append_toArray, List.nil_append, List.cons_append]
  gi_wp2
  gi_loopw [9] (fun i wr => ∃ k : Nat, k ≤ es.length ∧ i = .int .i64 k ∧ J (entsNums (es.take k)) wr ∧ RowIs wr g es  )
    (fun i _ => es.length - (intOf i).toNat)
  case atStart => exact ⟨0, Nat.zero_le _, rfl, h0, hrow⟩
  case round =>
    obtain ⟨k, hk, rfl, hJs, hr⟩ := hrel
    by_cases hlt : k < es.length
    · obtain ⟨cur, fz, hg, hc⟩ := hr
      obtain ⟨c0, c1, c2, c3, c4⟩ := hc k hlt
      have hr : RowIs wr g es := ⟨cur, fz, hg, hc⟩
      have Hg : Hid (wr.heap[g]? = some (.cells cur 59 fz)) := hg
      clear hc hg
      have ht : Hid (es.take (k + 1) = es.take k ++ [es.getD k Ent.zero]) := take_snoc_ents es k hlt
      have Hes : Hid (∃ rest, es = es.take k ++ [es.getD k Ent.zero] ++ rest) := ⟨es.drop (k + 1), by rw [← take_snoc_ents es k hlt, List.take_append_drop]⟩
      generalize es.getD k Ent.zero = x at *
      gi_wp2_with fail
      obtain ⟨A, hA, hbA, hszA, -, -⟩ := boxed wr #[.int .i64 x.client, .int .i64 x.seq, .int .i64 x.kind, .int .i64 x.key, .int .i64 x.value] 59
      have hE : A.heap[wr.heap.size]? = some (.cells #[.int .i64 x.client, .int .i64 x.seq, .int .i64 x.kind, .int .i64 x.key, .int .i64 x.value] 59) := by rw [← hA]; exact heap_new _ _
      rw [hA]
      clear hA
      refine ⟨trivial, by simp [Fence.wide], (callsIn_wide.2 (fields_any wr.heap.size 0 A)).mono ?_⟩
      rintro e w5 ⟨hb5, rfl⟩
      have hbw5 : Below wr.heap.size wr w5 := hbA.trans (hb5.mono hbA.size)
      have hJ5 := hJ _ _ _ none hJs (grown_of_below hbw5) (fun r e => by cases e)
      have hr5 := hr.keep (KeepT.below hbw5)
      have hE5 : w5.heap[wr.heap.size]? = some (.cells #[.int .i64 x.client, .int .i64 x.seq, .int .i64 x.kind, .int .i64 x.key, .int .i64 x.value] 59) := (hb5.block _ (by omega)).trans hE
      have HE5 := hideA hE5
      generalize wr.heap.size = E at *
      clear hE hE5 c0 c1 c2 c3 c4 Hg hszA
      gi_wp2_with fail
      gi_loopw [14] (fun i wr => ∃ j : Nat, j ≤ 5 ∧ i = .int .i64 j ∧ J (entsNums (es.take k) ++ x.nums.take j) wr ∧ RowIs wr g es ∧ Hid (wr.heap[E]? = some (.cells #[.int .i64 x.client, .int .i64 x.seq, .int .i64 x.kind, .int .i64 x.key, .int .i64 x.value] 59))  )
        (fun i _ => 5 - (intOf i).toNat)
      case atStart => exact ⟨0, Nat.zero_le _, rfl, by simpa using hJ5, hr5, HE5⟩
      case round =>
        clear hJ5 hr5 HE5
        obtain ⟨j, hj, rfl, hJj, hrj, hEj⟩ := hrel
        by_cases hlj : j < 5
        · have hix := field_index E 0 j hlj
          have hcj := ent_cell hEj.out j hlj
          have htj : Hid (x.nums.take (j + 1) = x.nums.take j ++ [x.nums.getD j 0]) := nums_take x j hlj
          have hpl : (entsNums (es.take k) ++ x.nums.take j).length < (entsNums es).length := by
            rw [List.length_append, entsNums_length, entsNums_length, List.length_take, List.length_take]
            have : x.nums.length = 5 := rfl
            omega
          obtain ⟨fn, tmps, assign, body, hy, hR⟩ := hY _ (x.nums.getD j 0) _ hJj hpl
          generalize x.nums.getD j 0 = z at *
          gi_wp2
          refine ⟨by simp [Fence.wide], hR.mono ?_⟩
          rintro e W3 (⟨rfl, hJ3, hk3⟩ | ⟨rfl, hJx3⟩)
          · gi_wp2
            go_roundw
            case rel => exact ⟨j + 1, by omega, by go_num, by rw [htj.out, ← List.append_assoc]; exact hJ3, hrj.keep hk3, hk3 _ _ _ _ (by decide) (by decide) hEj.out⟩
            case measure => simp [intOf]; omega
          · gi_wp2
            refine bodyPost_ret (results_none rfl _ _ _) rfl ?_
            refine ⟨⟨_, rfl⟩, .inr ⟨_, ?_, hJx3⟩⟩
            obtain ⟨rest, hrest⟩ := Hes.out
            refine ⟨x.nums.drop (j + 1) ++ entsNums rest, ?_⟩
            rw [List.append_assoc (entsNums (es.take k)), ← htj.out, List.append_assoc, ← List.append_assoc (x.nums.take (j + 1)), List.take_append_drop]
            conv => rhs; rw [hrest]
            rw [entsNums_append, entsNums_append, entsNums_one, List.append_assoc]
        · obtain rfl : j = 5 := by omega
          gi_wp2
          go_roundw
          case rel =>
            refine ⟨k + 1, by omega, by go_num, ?_, hrj⟩
            rw [ht.out, entsNums_append, entsNums_one]
            exact hJj
          case measure => simp [intOf]; omega
    · obtain rfl : k = es.length := by omega
      rw [List.take_length] at hJs
      gi_wp2
      go_end0
      exact ⟨⟨_, rfl⟩, .inl ⟨_, rfl, hJs⟩⟩
end Go.Proofs.Ytgieeeeeiggoeaa
