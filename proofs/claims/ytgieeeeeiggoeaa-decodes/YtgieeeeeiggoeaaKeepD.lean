import Derived.Test.YtgieeeeeiggoeaaKeepC
import Derived.Test.YtgieeeeeiggoeaaLentA
namespace Go.Proofs.Ytgieeeeeiggoeaa
open Go.RowKit

/-- The mark of a list of entries. -/
def markE (mk : Int) : Ent := ⟨mk, 0, 0, 0, 0⟩

set_option maxRecDepth 100000 in
theorem markEntry_any (k : Int) (w : World) (h0 : 0 ≤ k) (h1 : k ≤ 2000000000) : Calls Try.prog 40 #[.int .i64 k] w fun e w' => e = .returned (.agg #[.int .i64 (-1000 - k), .int .i64 0, .int .i64 0, .int .i64 0, .int .i64 0]) ∧ Below w.heap.size w w' := by
  obtain ⟨W, hW, hb0, hsz, q, fz⟩ := boxed w #[.int .i64 0, .int .i64 0, .int .i64 0, .int .i64 0, .int .i64 0] 59
  go_enter Try.func40, Try.ntmps40
  go_wp2_with fail
  clear hW
  refine (markInt_any _ _ h0 h1).mono ?_
  rintro e W1 ⟨rfl, rfl⟩
  go_wp2_with fail
  refine bodyPost_ret (v := .agg #[.int .i64 (-1000 - k), .int .i64 0, .int .i64 0, .int .i64 0, .int .i64 0]) (by simp [results, Try.results40, go_sem, q]) rfl ⟨rfl, ?_⟩
  iterate 5 refine Below.setCell ?_ (by exact Nat.le_refl _) _
  exact hb0

/-- One append of a mark to marks. -/
theorem wpList_keeps_ent {w : World} {ops : Array Oper} {rest : List Oper} {o : Oper} {a : Act} {Q : Exit → Act → World → Prop} (hgd : o.guard = none) (s x : Operand)
    (ho : o.op = .call { callee := .builtin .append, args := #[s, x], argTypes := #[23, 23] })
    (base : Nat) (v : Value) (n : Nat) (mk : Int) (hs : a.eval s = v) (hown : w.ownsRow base 59 5 v n (ints (entsNums (List.replicate n (markE mk)))))
    (g c : Nat) (hx : a.eval x = .slice (some ⟨g, 0, none⟩) 1 c) (hnew : w.heap[g]? = some (.cells #[.int .i64 mk, .int .i64 0, .int .i64 0, .int .i64 0, .int .i64 0] 59))
    (h63 : n ≤ 2000000000) (hbase : base ≤ w.heap.size)
    (h : ∀ g' cap w', w'.ownsRow base 59 5 (.slice (some ⟨g', 0, none⟩) (n + 1) cap) (n + 1) (ints (entsNums (List.replicate (n + 1) (markE mk)))) → w.grownBy w' v.ownBlock → w'.ownsRow base 59 5 v n (ints (entsNums (List.replicate n (markE mk)))) → (v.ownBlock = some g' ∨ g' = w.heap.size) → wpList Try.prog ops Q rest (a.put o.dst (.slice (some ⟨g', 0, none⟩) (n + 1) cap)) w') :
    wpList Try.prog ops Q (o :: rest) a w := by
  obtain ⟨i0, hi, hz0, hz1, hz2⟩ := info_parts infoEnt
  refine wpList_append_keeps w hgd s x 23 ho base 59 i0 _ 5 40 Try.underlying23 hi hz0 hz1 hz2 rfl (by decide) v n _ hs hown ⟨g, 0, none⟩ 1 c (ints (markE mk).nums) hx rfl ?_ (ints_one _) (by omega) (by unfold maxLen; omega) (by omega) hbase ?_
  · exact World.news_of_block hnew
  · intro g' cap w' h1 h2 h3 h4
    rw [← ints_append, ← entsNums_one, ← entsNums_append, ← List.replicate_succ'] at h1
    exact h g' cap w' h1 h2 h3 h4

end Go.Proofs.Ytgieeeeeiggoeaa
