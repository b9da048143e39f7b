import Derived.Test.YtgieeeeeiggoeaaAppA
namespace Go.Proofs.Ytgieeeeeiggoeaa
open Go.RowKit

section
variable {P : Program} (w : World)

/-- An append that may grow, onto a row that the call owns: the old row reads on as it did. -/
theorem run_append_keeps (t ty : TypeId) (base : Nat) (e : TypeId) (i : TypeInfo) (z : Value) (size bytes : Nat) (ht : P.underlying t = some (.slice e)) (hi : P.info? e = some i) (hz : i.zero = some z)
    (hsize : i.size = size) (hby : i.bytes = bytes) (hzs : z.cells.size = size) (hsz : 0 < size)
    (v : Value) (n : Nat) (xs : List Value) (hown : w.ownsRow base e size v n xs)
    (ad : Addr) (m c : Nat) (news : List Value) (hl : news.length = m * size) (hnews : ∀ j u, news[j]? = some u → w.cell? (ad.add j) = some u) (h1 : ∀ u ∈ news, u.oneCell' = true)
    (hm : 0 < m) (h63 : n + m ≤ maxLen) (hbytes : (n + m) * bytes ≤ 140737488355328) (hbase : base ≤ w.heap.size) :
    ∃ g cap w', (Builtin.append_ #[t, t] ty #[v, .slice (some ad) m c]).run P w = .ok (.slice (some ⟨g, 0, none⟩) (n + m) cap) w' ∧
      w'.ownsRow base e size (.slice (some ⟨g, 0, none⟩) (n + m) cap) (n + m) (xs ++ news) ∧ w.grownBy w' v.ownBlock ∧ w'.ownsRow base e size v n xs ∧ (v.ownBlock = some g ∨ g = w.heap.size) := by
  obtain ⟨g, cap, w', hr, h2, h3, h4, h5⟩ := run_append_lies (P := P) w t ty base e i z size bytes ht hi hz hsize hby hzs hsz v n xs hown ad m c news hl hnews h1 hm h63 hbytes hbase _ rfl
  refine ⟨g, cap, w', hr, h2, h3, ?_, h4⟩
  have hsmall : n + m ≤ 9223372036854775807 := by simp only [maxLen] at h63; omega
  rcases hown.2 with ⟨rfl, rfl⟩ | ⟨g0, cap0, cur, rfl, hbg, hg, hnc, hcm, hcs, htake⟩
  · exact ⟨hown.1, .inl ⟨rfl, rfl⟩⟩
  · by_cases hroom : n + m ≤ cap0
    · have hfit : n * i.size + news.length ≤ cur.size := by rw [hl, hcs, hsize, ← Nat.add_mul]; exact Nat.mul_le_mul_right _ hroom
      have hr2 := run_append_room (P := P) w t ty e i ht hi g0 n cap0 cur hg ad m c news (by rw [hsize]; exact hl) hnews h1 hroom hfit
      rw [hr2] at hr
      injection hr with hv hw
      subst hw
      refine ⟨hown.1, .inr ⟨g0, cap0, _, rfl, hbg, setRow_heap w g0 cur _ e _ hg, hnc, hcm, ?_, ?_⟩⟩
      · simp only [List.size_toArray, List.length_append, List.length_take, List.length_drop, Array.length_toList]
        omega
      · have hlen : xs.length = n * size := hown.1
        rw [hsize, htake, List.append_assoc]
        simp only []
        rw [← hlen]
        exact List.take_left
    · have holds : ∀ j u, xs[j]? = some u → w.cell? ((⟨g0, 0, none⟩ : Addr).add j) = some u := hown.cells (g := g0) rfl
      have hr2 := run_append_grow (P := P) w t ty e i z ht hi hz ⟨g0, 0, none⟩ n cap0 xs (by rw [hsize]; exact hown.1) holds ad m c news (by rw [hsize]; exact hl) hnews (by omega) (by omega) (growslice_fits (by omega) (by rw [hby]; exact hbytes))
      rw [hr2] at hr
      injection hr with hv hw
      subst hw
      refine ⟨hown.1, .inr ⟨g0, cap0, cur, rfl, hbg, ?_, hnc, hcm, hcs, htake⟩⟩
      rw [Below.heap_alloc w.drew _ g0 (Array.getElem?_eq_some_iff.1 hg).1]
      exact hg

theorem wpList_append_keeps {ops : Array Oper} {rest : List Oper} {o : Oper} {a : Act} {Q : Exit → Act → World → Prop} (hgd : o.guard = none) (s x : Operand) (t : TypeId)
    (ho : o.op = .call { callee := .builtin .append, args := #[s, x], argTypes := #[t, t] })
    (base : Nat) (e : TypeId) (i : TypeInfo) (z : Value) (size bytes : Nat) (ht : P.underlying t = some (.slice e)) (hi : P.info? e = some i) (hz : i.zero = some z)
    (hsize : i.size = size) (hby : i.bytes = bytes) (hzs : z.cells.size = size) (hsz : 0 < size)
    (v : Value) (n : Nat) (xs : List Value) (hs : a.eval s = v) (hown : w.ownsRow base e size v n xs)
    (ad : Addr) (m c : Nat) (news : List Value) (hx : a.eval x = .slice (some ad) m c) (hl : news.length = m * size) (hnews : ∀ j u, news[j]? = some u → w.cell? (ad.add j) = some u) (h1 : ∀ u ∈ news, u.oneCell' = true)
    (hm : 0 < m) (h63 : n + m ≤ maxLen) (hbytes : (n + m) * bytes ≤ 140737488355328) (hbase : base ≤ w.heap.size)
    (h : ∀ g cap w', w'.ownsRow base e size (.slice (some ⟨g, 0, none⟩) (n + m) cap) (n + m) (xs ++ news) → w.grownBy w' v.ownBlock → w'.ownsRow base e size v n xs → (v.ownBlock = some g ∨ g = w.heap.size) → wpList P ops Q rest (a.put o.dst (.slice (some ⟨g, 0, none⟩) (n + m) cap)) w') : wpList P ops Q (o :: rest) a w := by
  refine wpList_plain hgd fun _ hK => ?_
  obtain ⟨g, cap, w', hr, h2, h3, h4, h5⟩ := run_append_keeps (P := P) w t o.type base e i z size bytes ht hi hz hsize hby hzs hsz v n xs hown ad m c news hl hnews h1 hm h63 hbytes hbase
  unfold Oper.wp execOp
  simp only [ho, resolve, invoke, builtin, Sem.run_bind, Sem.run_pure, Result.andThen_ok, List.map_toArray, List.map_cons, List.map_nil, hs, hx, hr]
  exact hK _ _ (h g cap w' h2 h3 h4 h5)
end

/-- A row beside one that was appended to: another row, or no longer than that one. -/
theorem owns_beside {w w' : World} {base1 base2 : Nat} {e1 e2 : TypeId} {size n1 n2 : Nat} {v1 v2 : Value} {xs1 xs2 : List Value} (h1 : w.ownsRow base1 e1 size v1 n1 xs1) (h2 : w.ownsRow base2 e2 size v2 n2 xs2)
    (hg : w.grownBy w' v2.ownBlock) (h2' : w'.ownsRow base2 e2 size v2 n2 xs2) (hle : n1 ≤ n2) (hs : 0 < size) : w'.ownsRow base1 e1 size v1 n1 xs1 := by
  rcases h1.2 with ⟨rfl, rfl⟩ | ⟨g1, cap1, cur1, rfl, hb1, hg1, hn1, hc1, hs1, ht1⟩
  · exact ⟨h1.1, .inl ⟨rfl, rfl⟩⟩
  · by_cases he : v2.ownBlock = some g1
    · rcases h2.2 with ⟨rfl, rfl⟩ | ⟨g2, cap2, cur2, rfl, hb2, hg2, hn2, hc2, hs2, ht2⟩
      · cases he
      · have hgg : g2 = g1 := by simpa [Value.ownBlock] using he
        subst hgg
        rw [hg1] at hg2
        cases hg2
        have hcap : cap1 = cap2 := Nat.eq_of_mul_eq_mul_right hs (by rw [← hs1, ← hs2])
        subst hcap
        rcases h2'.2 with ⟨h0, _⟩ | ⟨g3, cap3, cur3, hv3, hb3, hg3, hn3, hc3, hs3, ht3⟩
        · cases h0
        · cases hv3
          refine ⟨h1.1, .inr ⟨_, _, cur3, rfl, hb1, hg3, hn1, hc1, hs3, ?_⟩⟩
          have e1 : cur3.toList.take (n1 * size) = (cur3.toList.take (n2 * size)).take (n1 * size) := by
            rw [List.take_take, Nat.min_eq_left (Nat.mul_le_mul_right _ hle)]
          rw [e1, ht3, ← ht2, List.take_take, Nat.min_eq_left (Nat.mul_le_mul_right _ hle), ht1]
    · refine ⟨h1.1, .inr ⟨g1, cap1, cur1, rfl, hb1, ?_, hn1, hc1, hs1, ht1⟩⟩
      rw [hg.block g1 (Array.getElem?_eq_some_iff.1 hg1).1 (fun h => he h.symm)]
      exact hg1

/-- All but the blocks of S are as they were. -/
structure Moved (w w' : World) (S : Nat → Prop) : Prop where
  os : w'.os = w.os
  tape : w'.tape = w.tape
  output : w'.output = w.output
  size : w.heap.size ≤ w'.heap.size
  block : ∀ k, k < w.heap.size → ¬ S k → w'.heap[k]? = w.heap[k]?

theorem Moved.refl (w : World) (S : Nat → Prop) : Moved w w S := ⟨rfl, rfl, rfl, Nat.le_refl _, fun _ _ _ => rfl⟩

theorem Moved.trans {w w1 w2 : World} {S S' : Nat → Prop} (h : Moved w w1 S) (h' : Moved w1 w2 S') (hs : ∀ k, k < w.heap.size → S' k → S k) : Moved w w2 S :=
  ⟨h'.os.trans h.os, h'.tape.trans h.tape, h'.output.trans h.output, Nat.le_trans h.size h'.size, fun k hk hS => (h'.block k (Nat.lt_of_lt_of_le hk h.size) (fun h2 => hS (hs k hk h2))).trans (h.block k hk hS)⟩

theorem Moved.grown {w w1 w2 : World} {S : Nat → Prop} {row : Option Nat} (h : Moved w w1 S) (h' : w1.grownBy w2 row) (hs : ∀ k, k < w.heap.size → row = some k → S k) : Moved w w2 S :=
  h.trans (S' := fun k => row = some k) ⟨h'.os, h'.tape, h'.output, h'.size, fun k hk hS => h'.block k hk (fun e => hS e.symm)⟩ hs

theorem Moved.alloc {w w1 : World} {S : Nat → Prop} (h : Moved w w1 S) (o : Obj) : Moved w (w1.alloc o) S :=
  h.trans (S' := fun _ => False) ⟨rfl, rfl, rfl, by simp, fun k hk _ => Below.heap_alloc _ _ k hk⟩ (fun _ _ h => h.elim)

theorem Moved.setCell {w w1 : World} {S : Nat → Prop} (h : Moved w w1 S) (p : Addr) (hp : S p.block) (u : Value) : Moved w (w1.setCell p u) S :=
  h.trans (S' := fun k => k = p.block) ⟨rfl, rfl, rfl, by simp, fun k _ hS => Below.heap_setCell _ _ _ k hS⟩ (fun k _ e => e ▸ hp)

theorem Moved.drew {w w1 : World} {S : Nat → Prop} (h : Moved w w1 S) : Moved w w1.drew S := ⟨h.os, h.tape, h.output, h.size, h.block⟩

theorem Moved.below {w w1 w2 : World} {S : Nat → Prop} (h : Moved w w1 S) (h' : Below w1.heap.size w1 w2) : Moved w w2 S :=
  h.trans (S' := fun _ => False) ⟨h'.os, h'.tape, h'.output, h'.size, fun k hk _ => h'.block k hk⟩ (fun _ _ h => h.elim)

theorem Moved.to_below {w w' : World} {S : Nat → Prop} {B : Nat} (h : Moved w w' S) (hS : ∀ k, S k → B ≤ k) (hB : B ≤ w.heap.size) : Below B w w' :=
  ⟨h.os, h.tape, h.output, h.size, fun k hk => h.block k (Nat.lt_of_lt_of_le hk hB) (fun hs => by have := hS k hs; omega)⟩

theorem Moved.owns {w w' : World} {S : Nat → Prop} {base size n : Nat} {e : TypeId} {v : Value} {xs : List Value} (h : Moved w w' S) (ho : w.ownsRow base e size v n xs) (hv : ∀ k, v.ownBlock = some k → ¬ S k) : w'.ownsRow base e size v n xs := by
  refine ⟨ho.1, ?_⟩
  rcases ho.2 with h0 | ⟨g, cap, cur, rfl, hb, hg, rest⟩
  · exact .inl h0
  · exact .inr ⟨g, cap, cur, rfl, hb, (h.block g (Array.getElem?_eq_some_iff.1 hg).1 (hv g rfl)).trans hg, rest⟩

/-- Rows of two types are two rows. -/
theorem owns_two {w : World} {b1 b2 s1 s2 n1 n2 : Nat} {e1 e2 : TypeId} {v1 v2 : Value} {xs1 xs2 : List Value} (h1 : w.ownsRow b1 e1 s1 v1 n1 xs1) (h2 : w.ownsRow b2 e2 s2 v2 n2 xs2) (he : e1 ≠ e2) : ∀ k, v1.ownBlock = some k → v2.ownBlock ≠ some k := by
  intro k hk hk2
  rcases h1.2 with ⟨rfl, _⟩ | ⟨g1, _, _, rfl, _, hg1, _⟩
  · cases hk
  · rcases h2.2 with ⟨rfl, _⟩ | ⟨g2, _, _, rfl, _, hg2, _⟩
    · cases hk2
    · have e1' : g1 = k := by simpa [Value.ownBlock] using hk
      have e2' : g2 = k := by simpa [Value.ownBlock] using hk2
      subst e1' e2'
      rw [hg1] at hg2
      injection hg2 with h
      injection h with _ h
      exact he h

end Go.Proofs.Ytgieeeeeiggoeaa
