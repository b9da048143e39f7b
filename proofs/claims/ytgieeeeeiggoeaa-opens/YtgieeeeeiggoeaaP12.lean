import Derived.Test.YtgieeeeeiggoeaaP11
import Derived.Test.YtgieeeeeiggoeaaP04
namespace Go.Proofs.Ytgieeeeeiggoeaa
open Go.RowKit
def markE (mk : Int) : Ent := ⟨mk, 0, 0, 0, 0⟩
set_option maxRecDepth 100000 in
theorem markEntry_any (k : Int) (w : World) (h0 : 0 ≤ k) (h1 : k ≤ 2000000000) : Calls Try.prog 40 #[.int .i64 k] w fun e w' => e = .returned (.agg #[.int .i64 (-1000 - k), .int .i64 0, .int .i64 0, .int .i64 0, .int .i64 0]) ∧ Below w.heap.size w w' := by
 obtain ⟨W, hW, hb0, hsz, q, fz⟩ := boxed w #[.int .i64 0, .int .i64 0, .int .i64 0, .int .i64 0, .int .i64 0] 59
 go_enter Try.func40, Try.ntmps40
 go_wp2_with fail
 clear hW
 refine (markInt_any _ _ h0 h1).mono ?_
 rintro e W1 ⟨rfl, rfl⟩
 go_wp2_with fail
 refine bodyPost_ret (v := .agg #[.int .i64 (-1000 - k), .int .i64 0, .int .i64 0, .int .i64 0, .int .i64 0]) (by simp [results, Try.results40, go_sem, q]) rfl ⟨rfl, ?_⟩
 iterate 5 refine Below.setCell ?_ (by exact Nat.le_refl _) _
 exact hb0
theorem wpList_keeps_ent {w : World} {ops : Array Oper} {rest : List Oper} {o : Oper} {a : Act} {Q : Exit → Act → World → Prop} (hgd : o.guard = none) (s x : Operand)
  (ho : o.op = .call { callee := .builtin .append, args := #[s, x], argTypes := #[23, 23] })
  (base : Nat) (v : Value) (n : Nat) (mk : Int) (hs : a.eval s = v) (hown : w.ownsRow base 59 5 v n (ints (entsNums (List.replicate n (markE mk)))))
  (g c : Nat) (hx : a.eval x = .slice (some ⟨g, 0, none⟩) 1 c) (hnew : w.heap[g]? = some (.cells #[.int .i64 mk, .int .i64 0, .int .i64 0, .int .i64 0, .int .i64 0] 59))
  (h63 : n ≤ 2000000000) (hbase : base ≤ w.heap.size)
  (h : ∀ g' cap w', w'.ownsRow base 59 5 (.slice (some ⟨g', 0, none⟩) (n + 1) cap) (n + 1) (ints (entsNums (List.replicate (n + 1) (markE mk)))) → w.grownBy w' v.ownBlock → w'.ownsRow base 59 5 v n (ints (entsNums (List.replicate n (markE mk)))) → (v.ownBlock = some g' ∨ g' = w.heap.size) → wpList Try.prog ops Q rest (a.put o.dst (.slice (some ⟨g', 0, none⟩) (n + 1) cap)) w') :
  wpList Try.prog ops Q (o :: rest) a w := by
 obtain ⟨i0, hi, hz0, hz1, hz2⟩ := info_parts infoEnt
 refine wpList_append_keeps w hgd s x 23 ho base 59 i0 _ 5 40 Try.underlying23 hi hz0 hz1 hz2 rfl (by decide) v n _ hs hown ⟨g, 0, none⟩ 1 c (ints (markE mk).nums) hx rfl ?_ (ints_one _) (by omega) (by unfold maxLen; omega) (by omega) hbase ?_
 ·exact World.news_of_block hnew
 ·intro g' cap w' h1 h2 h3 h4
  rw [← ints_append, ← entsNums_one, ← entsNums_append, ← List.replicate_succ'] at h1
  exact h g' cap w' h1 h2 h3 h4
theorem infoTxt : (Try.prog.info? 74).map (fun i => (i.zero, i.size, i.bytes)) = some (some (.slice none 0 0), 1, 24) := by kernel_rfl
theorem infoAnsRow : (Try.prog.info? 75).map (fun i => (i.zero, i.size, i.bytes)) = some (some (.slice none 0 0), 1, 24) := by kernel_rfl
def markTail (acc : List UInt8) (k : Nat) : List UInt8 :=
 if h : k = 0 then acc else markTail (acc ++ [UInt8.ofNat (65 + k % 26)]) (k / 26)
termination_by k
decreasing_by omega
def markT (k : Nat) : List UInt8 := markTail [116, 104, 101, 32, 99, 97, 108, 108, 101, 114, 39, 115, 32] k
theorem markTail_zero (acc : List UInt8) : markTail acc 0 = acc := by unfold markTail; simp
theorem markTail_pos (acc : List UInt8) (k : Nat) (h : 0 < k) : markTail acc k = markTail (acc ++ [UInt8.ofNat (65 + k % 26)]) (k / 26) := by rw [markTail]; simp [Nat.ne_of_gt h]
set_option maxHeartbeats 1000000 in
set_option maxRecDepth 100000 in
theorem markText_any (k : Nat) (w : World) (hk : k ≤ 1000000000) : Calls Try.prog 41 #[.int .i64 (k : Int)] w fun e w' => e = .returned (.string (bs (markT k))) ∧ Below w.heap.size w w' := by
 go_enter Try.func41, Try.ntmps41
 go_wp2_with fail
 go_loopw [0, 3] (fun n s wr => ∃ (j : Nat) (acc : List UInt8), j ≤ 1000000000 ∧ n = .int .i64 (j : Int) ∧ s = .string (bs acc) ∧ markTail acc j = markT k ∧ acc.length + j ≤ 2000000000 ∧ Below w.heap.size w wr) (fun n _ _ => (intOf n).toNat)
 case atStart => exact ⟨k, [116, 104, 101, 32, 99, 97, 108, 108, 101, 114, 39, 115, 32], hk, rfl, rfl, rfl, by simp; omega, Below.refl _ _⟩
 case round =>
  obtain ⟨j, acc, hj, rfl, rfl, hm, hacc, hb⟩ := hrel
  by_cases h0 : 0 < j
  ·have hj1 : (0 : Int) < (j : Int) := by omega
   have hc := conv1
   have ha : ∀ w, (Op.stringOp .add (bs acc) { data := #[65 + UInt8.ofNat (j % 26)] }).run Try.prog w = .ok (.string (bs (acc ++ [65 + UInt8.ofNat (j % 26)]))) w := add_bs acc [65 + UInt8.ofNat (j % 26)] (by simp; omega)
   have hstep : Hid (markTail (acc ++ [65 + UInt8.ofNat (j % 26)]) (j / 26) = markT k) := hideA (by rw [← hm, markTail_pos acc j h0]; congr 3; simp)
   have Hb := hideA hb
   clear hb hm
   go_wp2_with fail
   refine ⟨⟨j / 26, _, by omega, by simp, rfl, hstep.out, by simp; omega, Hb.out.alloc Hb.out.size _⟩, ?_⟩
   simp [intOf]
   omega
  ·obtain rfl : j = 0 := by omega
   rw [markTail_zero] at hm
   go_wp2_with fail
   go_ret
   exact ⟨by rw [hm]; rfl, hb⟩
theorem markText_int (z : Int) (w : World) (k : Nat) (hz : z = (k : Int)) (hk : k ≤ 1000000000) : Calls Try.prog 41 #[.int .i64 z] w fun e w' => e = .returned (.string (bs (markT k))) ∧ Below w.heap.size w w' := by
 subst hz
 exact markText_any k w hk
def strs (l : List (List UInt8)) : List Value := l.map (fun x => Value.string (bs x))
theorem strs_length (l : List (List UInt8)) : (strs l).length = l.length := List.length_map _
theorem strs_append (l m : List (List UInt8)) : strs (l ++ m) = strs l ++ strs m := List.map_append
theorem txts_length (l : List (List UInt8)) (k : Nat) (mk : List UInt8) (hk : k ≤ l.length) : (List.replicate k mk ++ l.drop k).length = l.length := by
 rw [List.length_append, List.length_replicate, List.length_drop]; omega
theorem strs_step (l : List (List UInt8)) (k : Nat) (mk : List UInt8) (hk : k < l.length) : (strs (List.replicate k mk ++ l.drop k)).set k (.string (bs mk)) = strs (List.replicate (k + 1) mk ++ l.drop (k + 1)) := by
 unfold strs
 rw [← List.map_set (f := fun x => Value.string (bs x)) (a := mk)]
 congr 1
 rw [List.set_append_right _ _ (by simp), List.length_replicate, Nat.sub_self, List.drop_eq_getElem_cons hk, List.set_cons_zero, List.replicate_succ', List.append_assoc]
 rfl
theorem infoStr1 : (Try.prog.info? 9).map (fun i => (i.zero, i.size, i.bytes)) = some (some (.string ⟨#[]⟩), 1, 16) := by kernel_rfl
theorem wpList_keeps_txt {w : World} {ops : Array Oper} {rest : List Oper} {o : Oper} {a : Act} {Q : Exit → Act → World → Prop} (hgd : o.guard = none) (s x : Operand)
  (ho : o.op = .call { callee := .builtin .append, args := #[s, x], argTypes := #[74, 74] })
  (base : Nat) (v : Value) (n : Nat) (mk : List UInt8) (hs : a.eval s = v) (hown : w.ownsRow base 9 1 v n (strs (List.replicate n mk)))
  (g c : Nat) (hx : a.eval x = .slice (some ⟨g, 0, none⟩) 1 c) (hnew : w.cell? ⟨g, 0, none⟩ = some (.string (bs mk)))
  (h63 : n ≤ 2000000000) (hbase : base ≤ w.heap.size)
  (h : ∀ g' cap w', w'.ownsRow base 9 1 (.slice (some ⟨g', 0, none⟩) (n + 1) cap) (n + 1) (strs (List.replicate (n + 1) mk)) → w.grownBy w' v.ownBlock → w'.ownsRow base 9 1 v n (strs (List.replicate n mk)) → (v.ownBlock = some g' ∨ g' = w.heap.size) → wpList Try.prog ops Q rest (a.put o.dst (.slice (some ⟨g', 0, none⟩) (n + 1) cap)) w') :
  wpList Try.prog ops Q (o :: rest) a w := by
 obtain ⟨i0, hi, hz0, hz1, hz2⟩ := info_parts infoStr1
 refine wpList_append_keeps w hgd s x 74 ho base 9 i0 _ 1 16 Try.underlying74 hi hz0 hz1 hz2 rfl (by decide) v n _ hs hown ⟨g, 0, none⟩ 1 c [.string (bs mk)] hx rfl ?_ (by intro u hu; simp at hu; subst hu; rfl) (by omega) (by unfold maxLen; omega) (by omega) hbase ?_
 ·intro j u hj
  have hj0 : j = 0 := by
   have := (List.getElem?_eq_some_iff.1 hj).1
   simp at this
   exact this
  subst hj0
  have e : (⟨g, 0, none⟩ : Addr).add 0 = ⟨g, 0, none⟩ := by unfold Addr.add; simp
  rw [e, hnew]
  simpa using hj
 ·intro g' cap w' h1 h2 h3 h4
  refine h g' cap w' ?_ h2 h3 h4
  have : strs (List.replicate (n + 1) mk) = strs (List.replicate n mk) ++ [.string (bs mk)] := by rw [List.replicate_succ', strs_append]; rfl
  rw [this]
  exact h1
end Go.Proofs.Ytgieeeeeiggoeaa
