import Derived.Test.YtocoojmhmgjgoaaKeepC
namespace Go.Proofs.Ytocoojmhmgjgoaa
open Go.RowKit

/-- The mark of a list of entries. -/
def markE (mk : Int) : Ent := ⟨mk, 0, 0, 0, 0⟩

set_option maxRecDepth 100000 in
theorem markEntry_any (k : Int) (w : World) (h0 : 0 ≤ k) (h1 : k ≤ 1000000) : Calls Try.prog 37 #[.int .i64 k] w fun e w' => e = .returned (.agg #[.int .i64 (-1000 - k), .int .i64 0, .int .i64 0, .int .i64 0, .int .i64 0]) ∧ Below w.heap.size w w' := by
  obtain ⟨W, hW, hb0, hsz, q, fz⟩ := boxed w #[.int .i64 0, .int .i64 0, .int .i64 0, .int .i64 0, .int .i64 0] 54
  go_enter Try.func37, Try.ntmps37
  go_wp2_with fail
  clear hW
  refine (markInt_any _ _ h0 h1).mono ?_
  rintro e W1 ⟨rfl, rfl⟩
  go_wp2_with fail
  refine bodyPost_ret (v := .agg #[.int .i64 (-1000 - k), .int .i64 0, .int .i64 0, .int .i64 0, .int .i64 0]) (by simp [results, Try.results37, go_sem, q]) rfl ⟨rfl, ?_⟩
  iterate 5 refine Below.setCell ?_ (by exact Nat.le_refl _) _
  exact hb0

/-- One entry of a row written: its five cells, one after the other. -/
theorem ents_write (A : List Ent) (x y : Ent) (C : List Ent) (n : Nat) (hn : n = A.length) :
    (((((ints (entsNums (A ++ x :: C))).set (n * 5) (.int .i64 y.client)).set (n * 5 + 1) (.int .i64 y.seq)).set (n * 5 + 2) (.int .i64 y.kind)).set (n * 5 + 3) (.int .i64 y.key)).set (n * 5 + 4) (.int .i64 y.value) = ints (entsNums (A ++ y :: C)) := by
  subst hn
  rw [ints_set, ints_set, ints_set, ints_set, ints_set]
  congr 1
  rw [entsNums_append, entsNums_append]
  have hl : (entsNums A).length = A.length * 5 := by rw [entsNums_length]; omega
  rw [← hl]
  have e1 : entsNums (x :: C) = x.client :: x.seq :: x.kind :: x.key :: x.value :: entsNums C := rfl
  have e2 : entsNums (y :: C) = y.client :: y.seq :: y.kind :: y.key :: y.value :: entsNums C := rfl
  rw [e1, e2]
  rw [List.set_append_right _ _ (Nat.le_refl _), List.set_append_right _ _ (by omega), List.set_append_right _ _ (by omega), List.set_append_right _ _ (by omega), List.set_append_right _ _ (by omega)]
  rw [Nat.sub_self, Nat.add_sub_cancel_left, Nat.add_sub_cancel_left, Nat.add_sub_cancel_left, Nat.add_sub_cancel_left]
  rfl

/-- One append of a mark to marks. -/
theorem wpList_keeps_ent {w : World} {ops : Array Oper} {rest : List Oper} {o : Oper} {a : Act} {Q : Exit → Act → World → Prop} (hgd : o.guard = none) (s x : Operand)
    (ho : o.op = .call { callee := .builtin .append, args := #[s, x], argTypes := #[23, 23] })
    (base : Nat) (v : Value) (n : Nat) (mk : Int) (hs : a.eval s = v) (hown : w.ownsRow base 54 5 v n (ints (entsNums (List.replicate n (markE mk)))))
    (g c : Nat) (hx : a.eval x = .slice (some ⟨g, 0, none⟩) 1 c) (hnew : w.heap[g]? = some (.cells #[.int .i64 mk, .int .i64 0, .int .i64 0, .int .i64 0, .int .i64 0] 54))
    (h63 : n ≤ 1000000) (hbase : base ≤ w.heap.size)
    (h : ∀ g' cap w', w'.ownsRow base 54 5 (.slice (some ⟨g', 0, none⟩) (n + 1) cap) (n + 1) (ints (entsNums (List.replicate (n + 1) (markE mk)))) → w.grownBy w' v.ownBlock → w'.ownsRow base 54 5 v n (ints (entsNums (List.replicate n (markE mk)))) → (v.ownBlock = some g' ∨ g' = w.heap.size) → wpList Try.prog ops Q rest (a.put o.dst (.slice (some ⟨g', 0, none⟩) (n + 1) cap)) w') :
    wpList Try.prog ops Q (o :: rest) a w := by
  obtain ⟨i0, hi, hz0, hz1, hz2⟩ := info_parts infoEnt
  refine wpList_append_keeps w hgd s x 23 ho base 54 i0 _ 5 40 Try.underlying23 hi hz0 hz1 hz2 rfl (by decide) v n _ hs hown ⟨g, 0, none⟩ 1 c (ints (markE mk).nums) hx rfl ?_ (ints_one _) (by omega) (by unfold maxLen; omega) (by omega) hbase ?_
  · exact World.news_of_block hnew
  · intro g' cap w' h1 h2 h3 h4
    rw [← ints_append, ← entsNums_one, ← entsNums_append, ← List.replicate_succ'] at h1
    exact h g' cap w' h1 h2 h3 h4

end Go.Proofs.Ytocoojmhmgjgoaa
