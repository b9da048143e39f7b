import Derived.Test.YtgieeeeeiggoeaaKeepA
import Derived.Lib.SmallJoins
namespace Go.Proofs.Ytgieeeeeiggoeaa
open Go.RowKit

theorem infoRow : (Try.prog.info? 22).map (fun i => (i.zero, i.size, i.bytes)) = some (some (.slice none 0 0), 1, 24) := by kernel_rfl
theorem infoLog : (Try.prog.info? 23).map (fun i => (i.zero, i.size, i.bytes)) = some (some (.slice none 0 0), 1, 24) := by kernel_rfl

/-- One append of an int: the old row reads on. -/
theorem wpList_keeps_int {w : World} {ops : Array Oper} {rest : List Oper} {o : Oper} {a : Act} {Q : Exit → Act → World → Prop} (hgd : o.guard = none) (s x : Operand)
    (ho : o.op = .call { callee := .builtin .append, args := #[s, x], argTypes := #[22, 22] })
    (base : Nat) (v : Value) (l : List Int) (hs : a.eval s = v) (hown : w.ownsRow base 3 1 v l.length (ints l))
    (g c : Nat) (z : Int) (hx : a.eval x = .slice (some ⟨g, 0, none⟩) 1 c) (hnew : w.cell? ⟨g, 0, none⟩ = some (.int .i64 z))
    (h63 : l.length ≤ 2000000000) (hbase : base ≤ w.heap.size)
    (h : ∀ g' cap w', w'.ownsRow base 3 1 (.slice (some ⟨g', 0, none⟩) (l.length + 1) cap) (l ++ [z]).length (ints (l ++ [z])) → w.grownBy w' v.ownBlock → w'.ownsRow base 3 1 v l.length (ints l) → (v.ownBlock = some g' ∨ g' = w.heap.size) → wpList Try.prog ops Q rest (a.put o.dst (.slice (some ⟨g', 0, none⟩) (l.length + 1) cap)) w') :
    wpList Try.prog ops Q (o :: rest) a w := by
  obtain ⟨i0, hi, hz0, hz1, hz2⟩ := info_parts infoInt
  refine wpList_append_keeps w hgd s x 22 ho base 3 i0 _ 1 8 Try.underlying22 hi hz0 hz1 hz2 rfl (by decide) v l.length (ints l) hs hown ⟨g, 0, none⟩ 1 c (ints [z]) hx rfl ?_ (ints_one _) (by omega) (by unfold maxLen; omega) (by omega) hbase ?_
  · intro j u hj
    have hj0 : j = 0 := by
      have := (List.getElem?_eq_some_iff.1 hj).1
      rw [ints_length] at this
      simp at this
      exact this
    subst hj0
    have e : (⟨g, 0, none⟩ : Addr).add 0 = ⟨g, 0, none⟩ := by unfold Addr.add; simp
    rw [e, hnew]
    simpa [ints] using hj
  · intro g' cap w' h1 h2 h3 h4
    refine h g' cap w' ?_ h2 h3 h4
    rw [ints_append, List.length_append]
    exact h1

/-- One append of lists to a list of lists. -/
theorem wpList_keeps_row {w : World} {ops : Array Oper} {rest : List Oper} {o : Oper} {a : Act} {Q : Exit → Act → World → Prop} (hgd : o.guard = none) (s x : Operand) (T E : TypeId)
    (hT : Try.prog.underlying T = some (.slice E)) (hE : (Try.prog.info? E).map (fun i => (i.zero, i.size, i.bytes)) = some (some (.slice none 0 0), 1, 24))
    (ho : o.op = .call { callee := .builtin .append, args := #[s, x], argTypes := #[T, T] })
    (base : Nat) (v : Value) (N : Nat) (xs : List Value) (hs : a.eval s = v) (hown : w.ownsRow base E 1 v N xs)
    (g m c : Nat) (news : List Value) (hm : news.length = m) (hm0 : 0 < m) (hm1 : m ≤ 1000) (hx : a.eval x = .slice (some ⟨g, 0, none⟩) m c) (hnew : w.heap[g]? = some (.cells news.toArray E)) (h1 : ∀ u ∈ news, u.oneCell' = true)
    (h63 : N ≤ 2000000000) (hbase : base ≤ w.heap.size)
    (h : ∀ g' cap w', w'.ownsRow base E 1 (.slice (some ⟨g', 0, none⟩) (N + m) cap) (N + m) (xs ++ news) → w.grownBy w' v.ownBlock → (v.ownBlock = some g' ∨ g' = w.heap.size) → wpList Try.prog ops Q rest (a.put o.dst (.slice (some ⟨g', 0, none⟩) (N + m) cap)) w') :
    wpList Try.prog ops Q (o :: rest) a w := by
  obtain ⟨i0, hi, hz0, hz1, hz2⟩ := info_parts hE
  refine wpList_append_keeps w hgd s x T ho base E i0 _ 1 24 hT hi hz0 hz1 hz2 rfl (by decide) v N xs hs hown ⟨g, 0, none⟩ m c news hx (by omega) ?_ h1 hm0 (by unfold maxLen; omega) (by omega) hbase ?_
  · intro j u hj
    exact World.news_of_block hnew j u (by simpa using hj)
  · intro g' cap w' h1 h2 h3 h4
    exact h g' cap w' h1 h2 h4

theorem marks_snoc (n : Nat) (mk : Int) : List.replicate n mk ++ [mk] = List.replicate (n + 1) mk := List.replicate_succ'.symm

/-- One append of a mark to marks. -/
theorem wpList_keeps_mark {w : World} {ops : Array Oper} {rest : List Oper} {o : Oper} {a : Act} {Q : Exit → Act → World → Prop} (hgd : o.guard = none) (s x : Operand)
    (ho : o.op = .call { callee := .builtin .append, args := #[s, x], argTypes := #[22, 22] })
    (base : Nat) (v : Value) (n : Nat) (mk : Int) (hs : a.eval s = v) (hown : w.ownsRow base 3 1 v n (ints (List.replicate n mk)))
    (g c : Nat) (hx : a.eval x = .slice (some ⟨g, 0, none⟩) 1 c) (hnew : w.cell? ⟨g, 0, none⟩ = some (.int .i64 mk))
    (h63 : n ≤ 2000000000) (hbase : base ≤ w.heap.size)
    (h : ∀ g' cap w', w'.ownsRow base 3 1 (.slice (some ⟨g', 0, none⟩) (n + 1) cap) (n + 1) (ints (List.replicate (n + 1) mk)) → w.grownBy w' v.ownBlock → w'.ownsRow base 3 1 v n (ints (List.replicate n mk)) → (v.ownBlock = some g' ∨ g' = w.heap.size) → wpList Try.prog ops Q rest (a.put o.dst (.slice (some ⟨g', 0, none⟩) (n + 1) cap)) w') :
    wpList Try.prog ops Q (o :: rest) a w := by
  have hn : (List.replicate n mk).length = n := List.length_replicate
  refine wpList_keeps_int hgd s x ho base v (List.replicate n mk) hs (by rw [hn]; exact hown) g c mk hx hnew (by omega) hbase ?_
  intro g' cap w' h1 h2 h3 h4
  rw [marks_snoc] at h1
  rw [hn] at h1 h3 ⊢
  rw [List.length_replicate] at h1
  exact h g' cap w' h1 h2 h3 h4

theorem markInt_any (k : Int) (w : World) (h0 : 0 ≤ k) (h1 : k ≤ 2000000000) : Calls Try.prog 39 #[.int .i64 k] w fun e w' => e = .returned (.int .i64 (-1000 - k)) ∧ w' = w := by
  go_enter Try.func39, Try.ntmps39
  go_wp2
  go_ret
  exact ⟨ret_int (by go_num), rfl⟩

end Go.Proofs.Ytgieeeeeiggoeaa
