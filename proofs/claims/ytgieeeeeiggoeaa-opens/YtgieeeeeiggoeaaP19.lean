import Derived.Test.YtgieeeeeiggoeaaP18
namespace Go.Proofs.Ytgieeeeeiggoeaa
open Go.RowKit Go.Shelf
theorem four_at {l l4 : List (Value × Nat)} {a0 a1 a2 a3 : Value × Nat} (h4 : l4 = [a0, a1, a2, a3]) (i : Nat) (p : Value × Nat) (h : (l ++ l4)[i]? = some p) : l[i]? = some p ∨ ∃ t, t < 4 ∧ i = l.length + t ∧ l4[t]? = some p := by
 by_cases hi : i < l.length
 ·rw [List.getElem?_append_left hi] at h
  exact .inl h
 ·right
  rw [List.getElem?_append_right (by omega)] at h
  have := (List.getElem?_eq_some_iff.1 h).1
  subst h4
  simp only [List.length_cons, List.length_nil] at this
  exact ⟨i - l.length, by omega, by omega, h⟩
theorem mark_at {N t : Nat} (h : N % 4 = 0) (ht : t < 4) : (((N + t : Nat) : Int) / 4) = (N : Int) / 4 := by omega
theorem BookIn.keepInts {w : World} {B base bv : Nat} {x0 x5 : Value} {b : Bk} {vI vL vT vA : Value} (h : BookIn w B base x0 x5 b vI vL vT vA) (v : Value) (l : List Int) (hv : w.ownsRow bv 3 1 v l.length (ints l)) (hb1 : base ≤ bv) (hb2 : bv ≤ w.heap.size)
  (hf : ∀ k, v.ownBlock = some k → ¬ b.own vI vL vT vA k) (hN : b.lI.length ≤ 1000000000) (hl : l.length ≤ 1000000000) :
  Calls Try.prog 17 #[.pointer (some ⟨B, 1, none⟩), v] w fun e w' => e = .returned (.tuple #[]) ∧ ∃ vI' l4, l4.length = 4 ∧ BookIn w' B base x0 x5 { b with lI := b.lI ++ l4 } vI' vL vT vA ∧ Moved w w' (fun k => k = B ∨ v.ownBlock = some k ∨ vI.ownBlock = some k) ∧
   ∀ k, ({ b with lI := b.lI ++ l4 } : Bk).own vI' vL vT vA k → b.own vI vL vT vA k ∨ bv ≤ k := by
 have hbb := h.bb
 refine (bkInts_any B base bv b.lI.length x0 x5 v vI vL vT vA (b.lI.map Prod.fst) l w h.blk h.bb (by omega) h.bs hb2 hv h.rI hN hl).mono ?_
 rintro e w' ⟨rfl, v1, v2, v3, vI', hblk, hrow, o0, o1, o2, o3, hM, hg⟩
 have hs := hM.size
 have keep : ∀ {base size n : Nat} {e : TypeId} {u : Value} {xs : List Value}, w.ownsRow base e size u n xs → e ≠ 51 → e ≠ 22 → (∀ k, u.ownBlock = some k → v.ownBlock ≠ some k) → w'.ownsRow base e size u n xs := fun ho h1 h2 h3 => hM.owns ho fun k hk hS => by
  rcases hS with q | q | q
  ·exact blk_type h.blk ho h1 (q ▸ hk)
  ·exact h3 k hk q
  ·exact owns_two ho h.rI h2 k hk q
 have hlen : (b.lI ++ [(v, l.length), (v1, l.length + 1), (v2, l.length + 2), (v3, l.length + 3)]).length = b.lI.length + 4 := by simp
 refine ⟨rfl, vI', [(v, l.length), (v1, l.length + 1), (v2, l.length + 2), (v3, l.length + 3)], rfl, ?_, hM, ?_⟩
 ·refine ⟨hblk, ?_, keep h.rL (by decide) (by decide) (fun k hk hv => hf k hv (.inr (.inl hk))), keep h.rT (by decide) (by decide) (fun k hk hv => hf k hv (.inr (.inr (.inl hk)))), keep h.rA (by decide) (by decide) (fun k hk hv => hf k hv (.inr (.inr (.inr (.inl hk))))), fun i p hp => ?_, fun i p hp => ?_, fun i p hp => ?_, fun i p hp => ?_, h.bb, Nat.le_trans h.bs hs, ?_⟩
  ·rw [hlen, List.map_append]
   exact hrow
  ·rcases four_at rfl i p hp with hp' | ⟨t, ht, hi, hp'⟩
   ·exact ⟨(h.eI i p hp').1, keep (h.eI i p hp').2 (by decide) (by decide) (fun k hk hv => hf k hv (.inr (.inr (.inr (.inr (.inl ⟨p, List.mem_of_getElem? hp', hk⟩))))))⟩
   ·rw [hi, mark_at h.fours.1 ht]
    rcases (by omega : t = 0 ∨ t = 1 ∨ t = 2 ∨ t = 3) with q | q | q | q <;> subst q <;> (simp at hp'; subst hp')
    ·exact ⟨by show l.length ≤ _; omega, owns_base o0 hb1⟩
    ·exact ⟨by show l.length + 1 ≤ _; omega, owns_base o1 hb1⟩
    ·exact ⟨by show l.length + 2 ≤ _; omega, owns_base o2 hb1⟩
    ·exact ⟨by show l.length + 3 ≤ _; omega, owns_base o3 hb1⟩
  ·exact ⟨(h.eL i p hp).1, keep (h.eL i p hp).2 (by decide) (by decide) (fun k hk hv => hf k hv (.inr (.inr (.inr (.inr (.inr (.inl ⟨p, List.mem_of_getElem? hp, hk⟩)))))))⟩
  ·exact ⟨(h.eT i p hp).1, keep (h.eT i p hp).2 (by decide) (by decide) (fun k hk hv => hf k hv (.inr (.inr (.inr (.inr (.inr (.inr (.inl ⟨p, List.mem_of_getElem? hp, hk⟩))))))))⟩
  ·exact ⟨(h.eA i p hp).1, keep (h.eA i p hp).2 (by decide) (by decide) (fun k hk hv => hf k hv (.inr (.inr (.inr (.inr (.inr (.inr (.inr ⟨p, List.mem_of_getElem? hp, hk⟩))))))))⟩
  ·obtain ⟨f1, f2, f3, f4⟩ := h.fours
   refine ⟨?_, f2, f3, f4⟩
   rw [hlen]
   omega
 ·intro k hk
  rcases hk with q | q | q | q | q | q | q | q
  ·rcases hg k q with e | e
   ·exact .inl (.inl e)
   ·exact .inr (by omega)
  ·exact .inl (.inr (.inl q))
  ·exact .inl (.inr (.inr (.inl q)))
  ·exact .inl (.inr (.inr (.inr (.inl q))))
  ·obtain ⟨p, hp, hpk⟩ := q
   rcases List.mem_append.1 hp with hp | hp
   ·exact .inl (.inr (.inr (.inr (.inr (.inl ⟨p, hp, hpk⟩)))))
   ·right
    simp at hp
    rcases hp with rfl | rfl | rfl | rfl
    ·exact (o0.lt k hpk).1
    ·exact (o1.lt k hpk).1
    ·exact (o2.lt k hpk).1
    ·exact (o3.lt k hpk).1
  ·exact .inl (.inr (.inr (.inr (.inr (.inr (.inl q))))))
  ·exact .inl (.inr (.inr (.inr (.inr (.inr (.inr (.inl q)))))))
  ·exact .inl (.inr (.inr (.inr (.inr (.inr (.inr (.inr q)))))))
theorem BookIn.keepLog {w : World} {B base bv : Nat} {x0 x5 : Value} {b : Bk} {vI vL vT vA : Value} (h : BookIn w B base x0 x5 b vI vL vT vA) (v : Value) (l : List Ent) (hv : w.ownsRow bv 59 5 v l.length (ints (entsNums l))) (hb1 : base ≤ bv) (hb2 : bv ≤ w.heap.size)
  (hf : ∀ k, v.ownBlock = some k → ¬ b.own vI vL vT vA k) (hN : b.lL.length ≤ 1000000000) (hl : l.length ≤ 1000000000) :
  Calls Try.prog 18 #[.pointer (some ⟨B, 1, none⟩), v] w fun e w' => e = .returned (.tuple #[]) ∧ ∃ u' l4, l4.length = 4 ∧ BookIn w' B base x0 x5 { b with lL := b.lL ++ l4 } vI u' vT vA ∧ Moved w w' (fun k => k = B ∨ v.ownBlock = some k ∨ vL.ownBlock = some k) ∧
   ∀ k, ({ b with lL := b.lL ++ l4 } : Bk).own vI u' vT vA k → b.own vI vL vT vA k ∨ bv ≤ k := by
 have hbb := h.bb
 refine (bkLog_any B base bv b.lL.length x0 x5 v vL vI vT vA (b.lL.map Prod.fst) l w h.blk h.bb (by omega) h.bs hb2 hv h.rL hN hl).mono ?_
 rintro e w' ⟨rfl, v1, v2, v3, u', hblk, hrow, o0, o1, o2, o3, hM, hg⟩
 have hs := hM.size
 have keep : ∀ {base size n : Nat} {e : TypeId} {u : Value} {xs : List Value}, w.ownsRow base e size u n xs → e ≠ 51 → e ≠ 23 → (∀ k, u.ownBlock = some k → v.ownBlock ≠ some k) → w'.ownsRow base e size u n xs := fun ho h1 h2 h3 => hM.owns ho fun k hk hS => by
  rcases hS with q | q | q
  ·exact blk_type h.blk ho h1 (q ▸ hk)
  ·exact h3 k hk q
  ·exact owns_two ho h.rL h2 k hk q
 have hlen : (b.lL ++ [(v, l.length), (v1, l.length + 1), (v2, l.length + 2), (v3, l.length + 3)]).length = b.lL.length + 4 := by simp
 refine ⟨rfl, u', [(v, l.length), (v1, l.length + 1), (v2, l.length + 2), (v3, l.length + 3)], rfl, ?_, hM, ?_⟩
 ·refine ⟨hblk, keep h.rI (by decide) (by decide) (fun k hk hv => hf k hv (.inl hk)), ?_, keep h.rT (by decide) (by decide) (fun k hk hv => hf k hv (.inr (.inr (.inl hk)))), keep h.rA (by decide) (by decide) (fun k hk hv => hf k hv (.inr (.inr (.inr (.inl hk))))), fun i p hp => ?_, fun i p hp => ?_, fun i p hp => ?_, fun i p hp => ?_, h.bb, Nat.le_trans h.bs hs, ?_⟩
  ·rw [hlen, List.map_append]
   exact hrow
  ·exact ⟨(h.eI i p hp).1, keep (h.eI i p hp).2 (by decide) (by decide) (fun k hk hv => hf k hv (.inr (.inr (.inr (.inr (.inl ⟨p, List.mem_of_getElem? hp, hk⟩))))))⟩
  ·rcases four_at rfl i p hp with hp' | ⟨t, ht, hi, hp'⟩
   ·exact ⟨(h.eL i p hp').1, keep (h.eL i p hp').2 (by decide) (by decide) (fun k hk hv => hf k hv (.inr (.inr (.inr (.inr (.inr (.inl ⟨p, List.mem_of_getElem? hp', hk⟩)))))))⟩
   ·rw [hi, mark_at h.fours.2.1 ht]
    rcases (by omega : t = 0 ∨ t = 1 ∨ t = 2 ∨ t = 3) with q | q | q | q <;> subst q <;> (simp at hp'; subst hp')
    ·exact ⟨by show l.length ≤ _; omega, owns_base o0 hb1⟩
    ·exact ⟨by show l.length + 1 ≤ _; omega, owns_base o1 hb1⟩
    ·exact ⟨by show l.length + 2 ≤ _; omega, owns_base o2 hb1⟩
    ·exact ⟨by show l.length + 3 ≤ _; omega, owns_base o3 hb1⟩
  ·exact ⟨(h.eT i p hp).1, keep (h.eT i p hp).2 (by decide) (by decide) (fun k hk hv => hf k hv (.inr (.inr (.inr (.inr (.inr (.inr (.inl ⟨p, List.mem_of_getElem? hp, hk⟩))))))))⟩
  ·exact ⟨(h.eA i p hp).1, keep (h.eA i p hp).2 (by decide) (by decide) (fun k hk hv => hf k hv (.inr (.inr (.inr (.inr (.inr (.inr (.inr ⟨p, List.mem_of_getElem? hp, hk⟩))))))))⟩
  ·obtain ⟨f1, f2, f3, f4⟩ := h.fours
   refine ⟨f1, ?_, f3, f4⟩
   rw [hlen]
   omega
 ·intro k hk
  rcases hk with q | q | q | q | q | q | q | q
  ·exact .inl (.inl q)
  ·rcases hg k q with e | e
   ·exact .inl (.inr (.inl e))
   ·exact .inr (by omega)
  ·exact .inl (.inr (.inr (.inl q)))
  ·exact .inl (.inr (.inr (.inr (.inl q))))
  ·exact .inl (.inr (.inr (.inr (.inr (.inl q)))))
  ·obtain ⟨p, hp, hpk⟩ := q
   rcases List.mem_append.1 hp with hp | hp
   ·exact .inl (.inr (.inr (.inr (.inr (.inr (.inl ⟨p, hp, hpk⟩))))))
   ·right
    simp at hp
    rcases hp with rfl | rfl | rfl | rfl
    ·exact (o0.lt k hpk).1
    ·exact (o1.lt k hpk).1
    ·exact (o2.lt k hpk).1
    ·exact (o3.lt k hpk).1
  ·exact .inl (.inr (.inr (.inr (.inr (.inr (.inr (.inl q)))))))
  ·exact .inl (.inr (.inr (.inr (.inr (.inr (.inr (.inr (q))))))))
theorem mark_nat {N t : Nat} (h : N % 4 = 0) (ht : t < 4) : (N + t) / 4 = N / 4 := by omega
theorem BookIn.keepTexts {w : World} {B base bv : Nat} {x0 x5 : Value} {b : Bk} {vI vL vT vA : Value} (h : BookIn w B base x0 x5 b vI vL vT vA) (v : Value) (l : List (List UInt8)) (hv : w.ownsRow bv 9 1 v l.length (strs l)) (hb1 : base ≤ bv) (hb2 : bv ≤ w.heap.size)
  (hf : ∀ k, v.ownBlock = some k → ¬ b.own vI vL vT vA k) (hN : b.lT.length ≤ 1000000000) (hl : l.length ≤ 1000000000) :
  Calls Try.prog 68 #[.pointer (some ⟨B, 1, none⟩), v] w fun e w' => e = .returned (.tuple #[]) ∧ ∃ u' l4, l4.length = 4 ∧ BookIn w' B base x0 x5 { b with lT := b.lT ++ l4 } vI vL u' vA ∧ Moved w w' (fun k => k = B ∨ v.ownBlock = some k ∨ vT.ownBlock = some k) ∧
   ∀ k, ({ b with lT := b.lT ++ l4 } : Bk).own vI vL u' vA k → b.own vI vL vT vA k ∨ bv ≤ k := by
 have hbb := h.bb
 refine (bkTexts_any B base bv b.lT.length x0 x5 v vT vI vL vA (b.lT.map Prod.fst) l w h.blk h.bb (by omega) h.bs hb2 hv h.rT hN hl).mono ?_
 rintro e w' ⟨rfl, v1, v2, v3, u', hblk, hrow, o0, o1, o2, o3, hM, hg⟩
 have hs := hM.size
 have keep : ∀ {base size n : Nat} {e : TypeId} {u : Value} {xs : List Value}, w.ownsRow base e size u n xs → e ≠ 51 → e ≠ 74 → (∀ k, u.ownBlock = some k → v.ownBlock ≠ some k) → w'.ownsRow base e size u n xs := fun ho h1 h2 h3 => hM.owns ho fun k hk hS => by
  rcases hS with q | q | q
  ·exact blk_type h.blk ho h1 (q ▸ hk)
  ·exact h3 k hk q
  ·exact owns_two ho h.rT h2 k hk q
 have hlen : (b.lT ++ [(v, l.length), (v1, l.length + 1), (v2, l.length + 2), (v3, l.length + 3)]).length = b.lT.length + 4 := by simp
 refine ⟨rfl, u', [(v, l.length), (v1, l.length + 1), (v2, l.length + 2), (v3, l.length + 3)], rfl, ?_, hM, ?_⟩
 ·refine ⟨hblk, keep h.rI (by decide) (by decide) (fun k hk hv => hf k hv (.inl hk)), keep h.rL (by decide) (by decide) (fun k hk hv => hf k hv (.inr (.inl hk))), ?_, keep h.rA (by decide) (by decide) (fun k hk hv => hf k hv (.inr (.inr (.inr (.inl hk))))), fun i p hp => ?_, fun i p hp => ?_, fun i p hp => ?_, fun i p hp => ?_, h.bb, Nat.le_trans h.bs hs, ?_⟩
  ·rw [hlen, List.map_append]
   exact hrow
  ·exact ⟨(h.eI i p hp).1, keep (h.eI i p hp).2 (by decide) (by decide) (fun k hk hv => hf k hv (.inr (.inr (.inr (.inr (.inl ⟨p, List.mem_of_getElem? hp, hk⟩))))))⟩
  ·exact ⟨(h.eL i p hp).1, keep (h.eL i p hp).2 (by decide) (by decide) (fun k hk hv => hf k hv (.inr (.inr (.inr (.inr (.inr (.inl ⟨p, List.mem_of_getElem? hp, hk⟩)))))))⟩
  ·rcases four_at rfl i p hp with hp' | ⟨t, ht, hi, hp'⟩
   ·exact ⟨(h.eT i p hp').1, keep (h.eT i p hp').2 (by decide) (by decide) (fun k hk hv => hf k hv (.inr (.inr (.inr (.inr (.inr (.inr (.inl ⟨p, List.mem_of_getElem? hp', hk⟩))))))))⟩
   ·rw [hi, mark_nat h.fours.2.2.1 ht]
    rcases (by omega : t = 0 ∨ t = 1 ∨ t = 2 ∨ t = 3) with q | q | q | q <;> subst q <;> (simp at hp'; subst hp')
    ·exact ⟨by show l.length ≤ _; omega, owns_base o0 hb1⟩
    ·exact ⟨by show l.length + 1 ≤ _; omega, owns_base o1 hb1⟩
    ·exact ⟨by show l.length + 2 ≤ _; omega, owns_base o2 hb1⟩
    ·exact ⟨by show l.length + 3 ≤ _; omega, owns_base o3 hb1⟩
  ·exact ⟨(h.eA i p hp).1, keep (h.eA i p hp).2 (by decide) (by decide) (fun k hk hv => hf k hv (.inr (.inr (.inr (.inr (.inr (.inr (.inr ⟨p, List.mem_of_getElem? hp, hk⟩))))))))⟩
  ·obtain ⟨f1, f2, f3, f4⟩ := h.fours
   refine ⟨f1, f2, ?_, f4⟩
   rw [hlen]
   omega
 ·intro k hk
  rcases hk with q | q | q | q | q | q | q | q
  ·exact .inl (.inl q)
  ·exact .inl (.inr (.inl q))
  ·rcases hg k q with e | e
   ·exact .inl (.inr (.inr (.inl e)))
   ·exact .inr (by omega)
  ·exact .inl (.inr (.inr (.inr (.inl q))))
  ·exact .inl (.inr (.inr (.inr (.inr (.inl q)))))
  ·exact .inl (.inr (.inr (.inr (.inr (.inr (.inl q))))))
  ·obtain ⟨p, hp, hpk⟩ := q
   rcases List.mem_append.1 hp with hp | hp
   ·exact .inl (.inr (.inr (.inr (.inr (.inr (.inr (.inl ⟨p, hp, hpk⟩)))))))
   ·right
    simp at hp
    rcases hp with rfl | rfl | rfl | rfl
    ·exact (o0.lt k hpk).1
    ·exact (o1.lt k hpk).1
    ·exact (o2.lt k hpk).1
    ·exact (o3.lt k hpk).1
  ·exact .inl (.inr (.inr (.inr (.inr (.inr (.inr (.inr (q))))))))
theorem BookIn.keepAns {w : World} {B base bv : Nat} {x0 x5 : Value} {b : Bk} {vI vL vT vA : Value} (h : BookIn w B base x0 x5 b vI vL vT vA) (v : Value) (l : List Ans) (hv : w.ownsRow bv 77 3 v l.length (ints (ansNums l))) (hb1 : base ≤ bv) (hb2 : bv ≤ w.heap.size)
  (hf : ∀ k, v.ownBlock = some k → ¬ b.own vI vL vT vA k) (hN : b.lA.length ≤ 1000000000) (hl : l.length ≤ 1000000000) :
  Calls Try.prog 71 #[.pointer (some ⟨B, 1, none⟩), v] w fun e w' => e = .returned (.tuple #[]) ∧ ∃ u' l4, l4.length = 4 ∧ BookIn w' B base x0 x5 { b with lA := b.lA ++ l4 } vI vL vT u' ∧ Moved w w' (fun k => k = B ∨ v.ownBlock = some k ∨ vA.ownBlock = some k) ∧
   ∀ k, ({ b with lA := b.lA ++ l4 } : Bk).own vI vL vT u' k → b.own vI vL vT vA k ∨ bv ≤ k := by
 have hbb := h.bb
 refine (bkAns_any B base bv b.lA.length x0 x5 v vA vI vL vT (b.lA.map Prod.fst) l w h.blk h.bb (by omega) h.bs hb2 hv h.rA hN hl).mono ?_
 rintro e w' ⟨rfl, v1, v2, v3, u', hblk, hrow, o0, o1, o2, o3, hM, hg⟩
 have hs := hM.size
 have keep : ∀ {base size n : Nat} {e : TypeId} {u : Value} {xs : List Value}, w.ownsRow base e size u n xs → e ≠ 51 → e ≠ 75 → (∀ k, u.ownBlock = some k → v.ownBlock ≠ some k) → w'.ownsRow base e size u n xs := fun ho h1 h2 h3 => hM.owns ho fun k hk hS => by
  rcases hS with q | q | q
  ·exact blk_type h.blk ho h1 (q ▸ hk)
  ·exact h3 k hk q
  ·exact owns_two ho h.rA h2 k hk q
 have hlen : (b.lA ++ [(v, l.length), (v1, l.length + 1), (v2, l.length + 2), (v3, l.length + 3)]).length = b.lA.length + 4 := by simp
 refine ⟨rfl, u', [(v, l.length), (v1, l.length + 1), (v2, l.length + 2), (v3, l.length + 3)], rfl, ?_, hM, ?_⟩
 ·refine ⟨hblk, keep h.rI (by decide) (by decide) (fun k hk hv => hf k hv (.inl hk)), keep h.rL (by decide) (by decide) (fun k hk hv => hf k hv (.inr (.inl hk))), keep h.rT (by decide) (by decide) (fun k hk hv => hf k hv (.inr (.inr (.inl hk)))), ?_, fun i p hp => ?_, fun i p hp => ?_, fun i p hp => ?_, fun i p hp => ?_, h.bb, Nat.le_trans h.bs hs, ?_⟩
  ·rw [hlen, List.map_append]
   exact hrow
  ·exact ⟨(h.eI i p hp).1, keep (h.eI i p hp).2 (by decide) (by decide) (fun k hk hv => hf k hv (.inr (.inr (.inr (.inr (.inl ⟨p, List.mem_of_getElem? hp, hk⟩))))))⟩
  ·exact ⟨(h.eL i p hp).1, keep (h.eL i p hp).2 (by decide) (by decide) (fun k hk hv => hf k hv (.inr (.inr (.inr (.inr (.inr (.inl ⟨p, List.mem_of_getElem? hp, hk⟩)))))))⟩
  ·exact ⟨(h.eT i p hp).1, keep (h.eT i p hp).2 (by decide) (by decide) (fun k hk hv => hf k hv (.inr (.inr (.inr (.inr (.inr (.inr (.inl ⟨p, List.mem_of_getElem? hp, hk⟩))))))))⟩
  ·rcases four_at rfl i p hp with hp' | ⟨t, ht, hi, hp'⟩
   ·exact ⟨(h.eA i p hp').1, keep (h.eA i p hp').2 (by decide) (by decide) (fun k hk hv => hf k hv (.inr (.inr (.inr (.inr (.inr (.inr (.inr ⟨p, List.mem_of_getElem? hp', hk⟩))))))))⟩
   ·rw [hi, mark_at h.fours.2.2.2 ht]
    rcases (by omega : t = 0 ∨ t = 1 ∨ t = 2 ∨ t = 3) with q | q | q | q <;> subst q <;> (simp at hp'; subst hp')
    ·exact ⟨by show l.length ≤ _; omega, owns_base o0 hb1⟩
    ·exact ⟨by show l.length + 1 ≤ _; omega, owns_base o1 hb1⟩
    ·exact ⟨by show l.length + 2 ≤ _; omega, owns_base o2 hb1⟩
    ·exact ⟨by show l.length + 3 ≤ _; omega, owns_base o3 hb1⟩
  ·obtain ⟨f1, f2, f3, f4⟩ := h.fours
   refine ⟨f1, f2, f3, ?_⟩
   rw [hlen]
   omega
 ·intro k hk
  rcases hk with q | q | q | q | q | q | q | q
  ·exact .inl (.inl q)
  ·exact .inl (.inr (.inl q))
  ·exact .inl (.inr (.inr (.inl q)))
  ·rcases hg k q with e | e
   ·exact .inl (.inr (.inr (.inr (.inl e))))
   ·exact .inr (by omega)
  ·exact .inl (.inr (.inr (.inr (.inr (.inl q)))))
  ·exact .inl (.inr (.inr (.inr (.inr (.inr (.inl q))))))
  ·exact .inl (.inr (.inr (.inr (.inr (.inr (.inr (.inl q)))))))
  ·obtain ⟨p, hp, hpk⟩ := q
   rcases List.mem_append.1 hp with hp | hp
   ·exact .inl (.inr (.inr (.inr (.inr (.inr (.inr (.inr (⟨p, hp, hpk⟩))))))))
   ·right
    simp at hp
    rcases hp with rfl | rfl | rfl | rfl
    ·exact (o0.lt k hpk).1
    ·exact (o1.lt k hpk).1
    ·exact (o2.lt k hpk).1
    ·exact (o3.lt k hpk).1
end Go.Proofs.Ytgieeeeeiggoeaa
