import Derived.Test.YtgieeeeeiggoeaaP05
import Derived.Deep.OwnRows
import Derived.Test.YtgieeeeeiggoeaaP06
import Derived.Test.YtgieeeeeiggoeaaP01
import Derived.Test.YtgieeeeeiggoeaaP04
import Derived.RangeFuncNested
import Derived.RangeFuncBound
import Derived.RangeFuncCalls
import Derived.RangeFuncLeaves
import Derived.Shelf.Abstract
import Derived.Shelf.RegionOpen
import Derived.OwnWalkIn
import Derived.TacticsInMore
import Derived.LoopNIn
import Derived.LoopIn
namespace Go.Proofs.Ytgieeeeeiggoeaa
open Go.RowKit
def runOf (a : Int) (n : Nat) : List Int := (List.range n).map (fun (i : Nat) => a + (i : Int))
theorem runOf_succ (a : Int) (k : Nat) : runOf a (k + 1) = runOf a k ++ [a + (k : Int)] := by
 unfold runOf
 rw [List.range_succ, List.map_append]
 rfl
theorem runOf_length (a : Int) (n : Nat) : (runOf a n).length = n := by simp [runOf]
def midRow (a : Int) (n k : Nat) : List Value := ints (runOf a k) ++ List.replicate (n - k) (.int .i64 0)
theorem midRow_at (a : Int) (n k : Nat) (hk : k < n) : (midRow a n k)[k]? = some (.int .i64 0) := by
 unfold midRow
 rw [List.getElem?_append_right (by rw [ints_length, runOf_length]; omega), ints_length, runOf_length, Nat.sub_self, List.getElem?_replicate, if_pos (by omega)]
theorem midRow_set (a : Int) (n k : Nat) (hk : k < n) : (midRow a n k).set k (.int .i64 (a + (k : Int))) = midRow a n (k + 1) := by
 unfold midRow
 rw [runOf_succ, List.set_append_right _ _ (by rw [ints_length, runOf_length]; omega), ints_length, runOf_length, Nat.sub_self]
 obtain ⟨d, hd⟩ : ∃ d, n - k = d + 1 := ⟨n - k - 1, by omega⟩
 rw [hd, List.replicate_succ, List.set_cons_zero, show n - (k + 1) = d by omega, ints_append]
 simp [ints]
set_option maxRecDepth 100000 in
set_option maxHeartbeats 1000000 in
theorem memNumbers_any (a : Int) (n : Nat) (w : World) (hn : n ≤ 5) (ha : 0 ≤ a ∧ a ≤ 1000) :
  Calls Try.prog 78 #[.int .i64 a, .int .i64 (n : Int)] w fun e w' => ∃ c, e = .returned (.slice (some ⟨w.heap.size, 0, none⟩) n c) ∧ w'.ownsRow w.heap.size 3 1 (.slice (some ⟨w.heap.size, 0, none⟩) n c) n (ints (runOf a n)) ∧ Below w.heap.size w w' := by
 have hmk := run_make_row' (P := Try.prog) 22 3 (.int .i64 0) 8 Try.underlying22 infoInt rfl .i64 .i64 n (by omega) (by omega)
 go_enter Try.func78, Try.ntmps78
 go_wp2_with fail
 go_loopw [11] (fun i wr => ∃ k : Nat, k ≤ n ∧ i = .int .i64 k ∧ (∃ cs : Array Value, wr.heap[w.heap.size]? = some (.cells cs 3) ∧ cs.toList = midRow a n k) ∧ Below w.heap.size w wr) (fun i _ => n - (intOf i).toNat)
 case atStart =>
  refine ⟨0, Nat.zero_le _, rfl, ⟨_, heap_new _ _, ?_⟩, (Below.refl _ w).alloc (Nat.le_refl _) _⟩
  apply List.ext_getElem?
  intro i
  unfold midRow madeCells
  simp only [Array.toList_map, Array.toList_range, List.getElem?_map, runOf, ints, List.range_zero, List.map_nil, List.nil_append, Nat.sub_zero, List.getElem?_replicate]
  by_cases hi : i < n
  ·rw [List.getElem?_range hi, if_pos hi]
   simp [Nat.mod_one]
  ·rw [List.getElem?_eq_none (by simpa using hi), if_neg hi]
   rfl
 case round =>
  obtain ⟨k, hk, rfl, ⟨cs, hcs, hl⟩, hb⟩ := hrel
  by_cases hlt : k < n
  ·have hk1 : (k : Int) < (n : Int) := by omega
   have ck : wr.cell? ⟨w.heap.size, k, none⟩ = some (.int .i64 0) := (cell_of_heap hcs k).trans (by rw [← Array.getElem?_toList, hl, midRow_at a n k hlt])
   have fk := frozen_of_heap hcs k
   have hw : IntKind.i64.wrap (a + (k : Int)) = a + (k : Int) := by rw [IntKind.wrap_i64]; omega
   have HC := hideA (And.intro hcs hl)
   clear hcs hl
   go_wp2_with fail
   go_roundw
   case rel => exact ⟨k + 1, by omega, by go_num, ⟨_, heap_setCell_same _ _ _ _ _ _ HC.out.1, by rw [Array.toList_setIfInBounds, HC.out.2, midRow_set a n k hlt]⟩, hb.setCell (by exact Nat.le_refl _) _⟩
   case measure => simp [intOf]; omega
  ·obtain rfl : k = n := by omega
   have HC := hideA (And.intro hcs hl)
   clear hcs hl
   go_wp2_with fail
   go_ret
   have hcl : cs.toList = ints (runOf a k) := by rw [HC.out.2]; unfold midRow; simp
   have hsz : cs.size = k := by rw [← Array.length_toList, hcl, ints_length, runOf_length]
   refine ⟨k, rfl, ⟨by rw [ints_length, runOf_length, Nat.mul_one], .inr ⟨w.heap.size, k, cs, rfl, Nat.le_refl _, HC.out.1, Nat.le_refl _, by unfold maxLen; omega, by omega, ?_⟩⟩, hb⟩
   rw [hcl]
   exact List.take_of_length_le (by rw [ints_length, runOf_length]; omega)
end Go.Proofs.Ytgieeeeeiggoeaa
namespace Go.Proofs.Ytgieeeeeiggoeaa
open Go.RowKit Go.Shelf
theorem wpList_append_run {ops : Array Oper} {rest : List Oper} {o : Oper} {a : Act} {W : World} {Q : Exit → Act → World → Prop} (hgd : o.guard = none) (s x : Operand) (t : TypeId)
  (hop : o.op = Op.call { callee := Callee.builtin Builtin.append, args := #[s, x], argTypes := #[t, t] }) (v u v' : Value) (W' : World) (hs : a.eval s = v) (hx : a.eval x = u)
  (hrun : ∀ ty, (Builtin.append_ #[t, t] ty #[v, u]).run Try.prog W = .ok v' W') (h : wpList Try.prog ops Q rest (a.put o.dst v') W') : wpList Try.prog ops Q (o :: rest) a W := by
 refine wpList_plain hgd fun K hK => ?_
 unfold Oper.wp execOp
 simp only [hop, resolve, invoke, builtin, Sem.run_bind, Sem.run_pure, Result.andThen_ok, List.map_toArray, List.map_cons, List.map_nil, hs, hx, hrun]
 exact hK _ _ h
theorem no_row {k : Nat} : (Value.slice none 0 0).ownBlock ≠ some k := fun h => nomatch h
set_option maxRecDepth 100000 in
theorem masNew_any (own : Int) (w : World) :
  Calls Try.prog 82 #[.int .i64 own] w fun e w' => ∃ b F, e = .returned (.pointer (some ⟨b, 0, none⟩)) ∧ MasAt w' F b own { begun := 0, doing := 0, waits := [], epoch := 0, old := [], vote := 0, mems := [], log := [] } ∧ (∀ k, F k → w.heap.size ≤ k) ∧ Below w.heap.size w w' := by
 go_enter Try.func82, Try.ntmps82
 go_wp2_with fail
 go_ret
 refine ⟨_, fun k => k = w.heap.size, rfl, ⟨.slice none 0 0, .slice none 0 0, .slice none 0 0, .slice none 0 0, heap_new _ _, World.ownsRow_nil _ _ _ _, World.ownsRow_nil _ _ _ _, World.ownsRow_nil _ _ _ _, World.ownsRow_nil _ _ _ _, rfl, fun k e => absurd e no_row, fun k e => absurd e no_row, fun k e => absurd e no_row, fun k e => absurd e no_row, fun k e => absurd e no_row, fun k e => by simp; omega⟩, fun k e => by omega, (Below.refl _ w).alloc (Nat.le_refl _) _⟩
set_option maxRecDepth 100000 in
set_option maxHeartbeats 1000000 in
theorem repNew_any (own : Int) (l : List Int) (v : Value) (w : World) (hv : IntOwn w v l) (hl : l.length ≤ 5) :
  Calls Try.prog 79 #[.int .i64 own, v] w fun e w' => ∃ b vm, e = .returned (.pointer (some ⟨b, 0, none⟩)) ∧ RepAt w' b own { up := true, epoch := 0, lock := 0, mems := l, log := [], base := 0, commit := 0 } vm (.slice none 0 0) ∧ w.heap.size ≤ b ∧ (∀ k, vm.ownBlock = some k → w.heap.size ≤ k) ∧ Below w.heap.size w w' := by
 have hc := cloneMems_any v l w hv (by omega)
 obtain ⟨a0, c0, rfl⟩ := owns_shape hv
 clear hv
 go_enter Try.func79, Try.ntmps79
 go_wp2_with fail
 refine hc.mono ?_
 rintro e W ⟨a, c, rfl, ho, hb⟩
 clear hc
 have HO := hideA ho
 go_wp2_with fail
 go_ret
 refine ⟨_, .slice a l.length c, rfl, ⟨heap_new _ _, (owns_base HO.out (Nat.zero_le _)).alloc _, LogOwn.nil _⟩, hb.size, fun k hk => by obtain ⟨_, _, h3⟩ := ownBlock_cells HO.out hk; have := h3; omega, hb.alloc hb.size _⟩
set_option maxRecDepth 100000 in
set_option maxHeartbeats 2000000 in
theorem repStatus_any (b : Nat) (own : Int) (r : Rep) (vm vl : Value) (w : World) (h : RepAt w b own r vm vl) (ok : RepOK r) :
  Calls Try.prog 86 #[.pointer (some ⟨b, 0, none⟩)] w fun e w' => ∃ a c a' c', e = .returned (.agg #[.bool false, .int .i64 r.epoch, .int .i64 r.lock, .int .i64 (r.commit : Int), .slice a r.mems.length c, .slice a' r.log.length c']) ∧
   w'.ownsRow w.heap.size 3 1 (.slice a r.mems.length c) r.mems.length (ints r.mems) ∧ w'.ownsRow w.heap.size 59 5 (.slice a' r.log.length c') r.log.length (ints (entsNums r.log)) ∧ Below w.heap.size w w' := by
 obtain ⟨am, cm, rfl⟩ := owns_shape h.hm
 obtain ⟨al, cl, rfl⟩ := owns_shape h.hl
 have hbl : b < w.heap.size := (Array.getElem?_eq_some_iff.1 h.blk).1
 have hne1 : ¬ b = w.heap.size := by omega
 have hne2 : ¬ w.heap.size = b := by omega
 have hm5 := ok.m
 have hl24 := ok.l
 have HR := hideA h
 have HS : Hid (∀ W, Below w.heap.size w W → W.cell? ⟨b, 1, none⟩ = some (.int .i64 r.epoch) ∧ W.cell? ⟨b, 2, none⟩ = some (.int .i64 r.lock) ∧ W.cell? ⟨b, 6, none⟩ = some (.int .i64 (r.commit : Int)) ∧ W.cell? ⟨b, 3, none⟩ = some (.slice am r.mems.length cm) ∧ W.cell? ⟨b, 4, none⟩ = some (.slice al r.log.length cl)) := hideA fun W hb =>
  ⟨cell_of_heap (HR.out.below hb).blk 1, cell_of_heap (HR.out.below hb).blk 2, cell_of_heap (HR.out.below hb).blk 6, cell_of_heap (HR.out.below hb).blk 3, cell_of_heap (HR.out.below hb).blk 4⟩
 have HC1 : Hid (∀ W, Below w.heap.size w W → W.heap[w.heap.size]? = some (.cells #[.bool false, .int .i64 0, .int .i64 0, .int .i64 0, .slice none 0 0, .slice none 0 0] 136) → Calls Try.prog 91 #[.slice am r.mems.length cm] W fun e w' => ∃ a c, e = .returned (.slice a r.mems.length c) ∧ w'.ownsRow (w.heap.size + 1) 3 1 (.slice a r.mems.length c) r.mems.length (ints r.mems) ∧ Below W.heap.size W w' ∧ Below w.heap.size w w' ∧ w'.heap[w.heap.size]? = some (.cells #[.bool false, .int .i64 0, .int .i64 0, .int .i64 0, .slice none 0 0, .slice none 0 0] 136)) := hideA fun W hb hB => (cloneMems_any _ r.mems W (HR.out.below hb).hm (by omega)).mono (by
  rintro e w' ⟨a, c, rfl, h1, h2⟩
  exact ⟨a, c, rfl, owns_base h1 (by have := (Array.getElem?_eq_some_iff.1 hB).1; omega), h2, hb.trans (h2.mono hb.size), (h2.block _ (Array.getElem?_eq_some_iff.1 hB).1).trans hB⟩)
 have HC2 : Hid (∀ W, Below w.heap.size w W → W.heap[w.heap.size]? = some (.cells #[.bool false, .int .i64 0, .int .i64 0, .int .i64 0, .slice none 0 0, .slice none 0 0] 136) → Calls Try.prog 92 #[.slice al r.log.length cl] W fun e w' => ∃ a c, e = .returned (.slice a r.log.length c) ∧ w'.ownsRow (w.heap.size + 1) 59 5 (.slice a r.log.length c) r.log.length (ints (entsNums r.log)) ∧ Below W.heap.size W w' ∧ Below w.heap.size w w' ∧ w'.heap[w.heap.size]? = some (.cells #[.bool false, .int .i64 0, .int .i64 0, .int .i64 0, .slice none 0 0, .slice none 0 0] 136)) := hideA fun W hb hB => (cloneLog_any _ r.log W (HR.out.below hb).hl (by omega)).mono (by
  rintro e w' ⟨a, c, rfl, h1, h2⟩
  exact ⟨a, c, rfl, owns_base h1 (by have := (Array.getElem?_eq_some_iff.1 hB).1; omega), h2, hb.trans (h2.mono hb.size), (h2.block _ (Array.getElem?_eq_some_iff.1 hB).1).trans hB⟩)
 clear h ok
 go_enter Try.func86, Try.ntmps86
 go_wp2_with fail
 have hb0 := (Below.refl w.heap.size w).alloc (Nat.le_refl _) (.cells #[.bool false, .int .i64 0, .int .i64 0, .int .i64 0, .slice none 0 0, .slice none 0 0] 136)
 have hB0 : (w.alloc (.cells #[.bool false, .int .i64 0, .int .i64 0, .int .i64 0, .slice none 0 0, .slice none 0 0] 136)).heap[w.heap.size]? = some (.cells #[.bool false, .int .i64 0, .int .i64 0, .int .i64 0, .slice none 0 0, .slice none 0 0] 136) := heap_new _ _
 generalize w.alloc (.cells #[.bool false, .int .i64 0, .int .i64 0, .int .i64 0, .slice none 0 0, .slice none 0 0] 136) = X at *
 obtain ⟨s1, s2, s6, s3, s4⟩ := HS.out X hb0
 have HB0 := hideA hB0
 clear hB0
 go_region_held3 (fun w' => w'.cell? ⟨b, 1, none⟩ = some (.int .i64 r.epoch) ∧ w'.cell? ⟨b, 2, none⟩ = some (.int .i64 r.lock) ∧ w'.cell? ⟨b, 6, none⟩ = some (.int .i64 (r.commit : Int)) ∧ w'.cell? ⟨b, 3, none⟩ = some (.slice am r.mems.length cm) ∧ w'.cell? ⟨b, 4, none⟩ = some (.slice al r.log.length cl)) (first | (simp [go_sem]; done) | (simp [go_sem, *]; done) | go_keep)
  (first
   | (go_at_call 91; refine (HC1.out _ hb0.drew HB0.out).mono ?_; rintro e Y1 ⟨a1, c1, rfl, o1, hl1, hb1, B1⟩; obtain ⟨u1, u2, u6, u3, u4⟩ := HS.out Y1 hb1; have HB1 := hideA B1; have O1 := hideA o1; have gM := fun j => cell_of_heap B1 j; have gF := fun j => frozen_of_heap B1 j; clear B1 o1)
   | (go_at_call 91; refine (HC1.out _ hb2 HB2.out).mono ?_; rintro e Y1 ⟨a1, c1, rfl, o1, hl1, hb1, B1⟩; obtain ⟨u1, u2, u6, u3, u4⟩ := HS.out Y1 hb1; have HB1 := hideA B1; have O1 := hideA o1; have gM1 := fun j => cell_of_heap B1 j; have gF1 := fun j => frozen_of_heap B1 j; clear B1 o1)
   | (go_at_call 92; refine (HC2.out _ hb0.drew HB0.out).mono ?_; rintro e Y2 ⟨a2, c2, rfl, o2, hl2, hb2, B2⟩; obtain ⟨v1, v2, v6, v3, v4⟩ := HS.out Y2 hb2; have HB2 := hideA B2; have O2 := hideA o2; have gN := fun j => cell_of_heap B2 j; have gG := fun j => frozen_of_heap B2 j; clear B2 o2)
   | (go_at_call 92; refine (HC2.out _ hb1 HB1.out).mono ?_; rintro e Y2 ⟨a2, c2, rfl, o2, hl2, hb2, B2⟩; obtain ⟨v1, v2, v6, v3, v4⟩ := HS.out Y2 hb2; have HB2 := hideA B2; have O2 := hideA o2; have gN := fun j => cell_of_heap B2 j; have gG := fun j => frozen_of_heap B2 j; clear B2 o2))
 all_goals go_wp2_with fail
 all_goals (
  refine bodyPost_ret (v := .agg #[.bool false, .int .i64 r.epoch, .int .i64 r.lock, .int .i64 (r.commit : Int), .slice a1 r.mems.length c1, .slice a2 r.log.length c2]) (by simp [results, Try.results86, go_sem, gN]) rfl ?_
  have hz : w.heap.size < w.heap.size + 1 := Nat.lt_succ_self _
  have o1' := owns_kept O1.out (fun k _ hk => hl2.block k hk)
  exact ⟨a1, c1, a2, c2, rfl, owns_base (ownsRow_setCell_below (ownsRow_setCell_below (ownsRow_setCell_below (ownsRow_setCell_below (ownsRow_setCell_below (ownsRow_setCell_below o1' hz _) hz _) hz _) hz _) hz _) hz _) (Nat.le_succ _),
      owns_base (ownsRow_setCell_below (ownsRow_setCell_below (ownsRow_setCell_below (ownsRow_setCell_below (ownsRow_setCell_below (ownsRow_setCell_below O2.out hz _) hz _) hz _) hz _) hz _) hz _) (Nat.le_succ _), by
      iterate 6 refine Below.setCell ?_ (by exact Nat.le_refl _) _
      exact hb2⟩)
end Go.Proofs.Ytgieeeeeiggoeaa
