import Derived.Test.YtgieeeeeiggoeaaPickA
import Derived.Test.YtgieeeeeiggoeaaWireD
import Derived.Deep.AppendLies
import Derived.Deep.RegionLaw
namespace Go.Proofs.Ytgieeeeeiggoeaa
open Go.RowKit

/-- One append of an int, as a step of a region that draws its order. -/
theorem step_append_int {w : World} {ops : Array Oper} {o : Oper} {a : Act} {K : Act → World → Prop} {Q : Exit → Act → World → Prop} {E : Prop} (hgd : o.guard = none) (s x : Operand)
    (ho : o.op = .call { callee := .builtin .append, args := #[s, x], argTypes := #[22, 22] })
    (base : Nat) (v : Value) (l : List Int) (hs : a.eval s = v) (hown : w.ownsRow base 3 1 v l.length (ints l))
    (g c : Nat) (z : Int) (hx : a.eval x = .slice (some ⟨g, 0, none⟩) 1 c) (hnew : w.cell? ⟨g, 0, none⟩ = some (.int .i64 z))
    (h63 : l.length ≤ 1000000) (hbase : base ≤ w.heap.size)
    (h : ∀ g' cap w', w'.ownsRow base 3 1 (.slice (some ⟨g', 0, none⟩) (l.length + 1) cap) (l ++ [z]).length (ints (l ++ [z])) → w.grownBy w' v.ownBlock → K (a.put o.dst (.slice (some ⟨g', 0, none⟩) (l.length + 1) cap)) w') :
    if Region.wanted o (yielded ops a.tmps) = true then Oper.wp Try.prog o a w K Q else E := by
  obtain ⟨i0, hi, hz0, hz1, hz2⟩ := info_parts infoInt
  refine step_append_lies w hgd s x 22 ho base 3 i0 _ 1 8 Try.underlying22 hi hz0 hz1 hz2 rfl (by decide) v l.length (ints l) hs hown ⟨g, 0, none⟩ 1 c (ints [z]) hx rfl ?_ (ints_one _) (by omega) (by unfold maxLen; omega) (by omega) hbase _ rfl ?_
  · intro j u hj
    have hj0 : j = 0 := by
      have := (List.getElem?_eq_some_iff.1 hj).1
      rw [ints_length] at this
      simp at this
      exact this
    subst hj0
    have e : (⟨g, 0, none⟩ : Addr).add 0 = ⟨g, 0, none⟩ := by unfold Addr.add; simp
    rw [e, hnew]
    simpa [ints] using hj
  · intro g' cap w' h1 h2 _ _
    refine h g' cap w' ?_ h2
    rw [ints_append, List.length_append]
    exact h1

theorem step_append_entry {w : World} {ops : Array Oper} {o : Oper} {a : Act} {K : Act → World → Prop} {Q : Exit → Act → World → Prop} {E : Prop} (hgd : o.guard = none) (s x : Operand)
    (ho : o.op = .call { callee := .builtin .append, args := #[s, x], argTypes := #[23, 23] })
    (base : Nat) (v : Value) (l : List Ent) (hs : a.eval s = v) (hown : w.ownsRow base 59 5 v l.length (ints (entsNums l)))
    (g c : Nat) (z : Ent) (hx : a.eval x = .slice (some ⟨g, 0, none⟩) 1 c) (hnew : w.heap[g]? = some (.cells #[.int .i64 z.client, .int .i64 z.seq, .int .i64 z.kind, .int .i64 z.key, .int .i64 z.value] 59))
    (h63 : l.length ≤ 1000000) (hbase : base ≤ w.heap.size)
    (h : ∀ g' cap w', w'.ownsRow base 59 5 (.slice (some ⟨g', 0, none⟩) (l.length + 1) cap) (l ++ [z]).length (ints (entsNums (l ++ [z]))) → w.grownBy w' v.ownBlock → K (a.put o.dst (.slice (some ⟨g', 0, none⟩) (l.length + 1) cap)) w') :
    if Region.wanted o (yielded ops a.tmps) = true then Oper.wp Try.prog o a w K Q else E := by
  obtain ⟨i0, hi, hz0, hz1, hz2⟩ := info_parts infoEnt
  refine step_append_lies w hgd s x 23 ho base 59 i0 _ 5 40 Try.underlying23 hi hz0 hz1 hz2 rfl (by decide) v l.length (ints (entsNums l)) hs hown ⟨g, 0, none⟩ 1 c (ints z.nums) hx rfl ?_ (ints_one _) (by omega) (by unfold maxLen; omega) (by omega) hbase _ rfl ?_
  · exact World.news_of_block hnew
  · intro g' cap w' h1 h2 _ _
    refine h g' cap w' ?_ h2
    rw [entsNums_append, entsNums_one, ints_append, List.length_append]
    exact h1

theorem below_step {wr w1 : World} {o : Obj} {row : Option Nat} {base : Nat} (hs : base ≤ wr.heap.size) (hg : (wr.alloc o).grownBy w1 row) (hr : ∀ k, row = some k → base ≤ k) : Below base wr w1 :=
  ((Below.refl base wr).alloc hs o).grown hg (by simp; omega) hr

end Go.Proofs.Ytgieeeeeiggoeaa
