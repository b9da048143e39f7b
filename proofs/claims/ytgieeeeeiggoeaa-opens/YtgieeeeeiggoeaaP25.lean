import Derived.Test.YtgieeeeeiggoeaaP24
namespace Go.Proofs.Ytgieeeeeiggoeaa
open Go.RowKit Go.Shelf
set_option maxRecDepth 100000 in
theorem NewR.acc {w0 V : World} {y n k m : Nat} {vA : Value} {br ba : Nat → Nat} {vr va vm : Value} (h : NewR w0 V y n k m vA br ba vr va) (hm : IntOwn V vm (firstInts n)) (hmn : ∀ z, vm.ownBlock = some z → w0.heap.size ≤ z) (hk : m ≤ 10) :
  ∃ g' cap' W1 ba', (∀ ty, (Builtin.append_ #[92, 92] ty #[va, .slice (some ⟨V.heap.size + 1, 0, none⟩) 1 1]).run Try.prog ((V.alloc (.cells #[.bool true, .int .i64 0, vm, .slice none 0 0] 124)).alloc (.cells #[.pointer (some ⟨V.heap.size, 0, none⟩)] 121)) = .ok (.slice (some ⟨g', 0, none⟩) (m + 1) cap') W1) ∧
   W1.cell? ⟨y, 1, none⟩ = some va ∧ W1.frozen? ⟨y, 1, none⟩ = false ∧ NewR w0 (W1.setCell ⟨y, 1, none⟩ (.slice (some ⟨g', 0, none⟩) (m + 1) cap')) y n k (m + 1) vA br ba' vr (.slice (some ⟨g', 0, none⟩) (m + 1) cap') := by
 obtain ⟨X, hX⟩ : ∃ X, X = V.alloc (.cells #[.bool true, .int .i64 0, vm, .slice none 0 0] 124) := ⟨_, rfl⟩
 have hsX : X.heap.size = V.heap.size + 1 := by rw [hX]; simp
 have hbX : Below V.heap.size V X := by rw [hX]; exact (Below.refl _ V).alloc (Nat.le_refl _) _
 have hM : X.heap[V.heap.size]? = some (.cells #[.bool true, .int .i64 0, vm, .slice none 0 0] 124) := by rw [hX]; exact heap_new _ _
 have hbZ : Below X.heap.size X (X.alloc (.cells #[.pointer (some ⟨V.heap.size, 0, none⟩)] 121)) := (Below.refl _ X).alloc (Nat.le_refl _) _
 have IZ := (h.below hbX).below hbZ
 have hnew : (X.alloc (.cells #[.pointer (some ⟨V.heap.size, 0, none⟩)] 121)).heap[V.heap.size + 1]? = some (.cells [Value.pointer (some ⟨V.heap.size, 0, none⟩)].toArray 121) := by
  have := heap_new X (.cells #[.pointer (some ⟨V.heap.size, 0, none⟩)] 121)
  rw [hsX] at this
  exact this
 obtain ⟨g', cap', W1, hrun, ho1, hg1, hwh⟩ := append_row (t := 92) infoPAcc Try.underlying92 rfl (by decide) (X.alloc (.cells #[.pointer (some ⟨V.heap.size, 0, none⟩)] 121)) 0 va m (ptrs ba 0 m) [.pointer (some ⟨V.heap.size, 0, none⟩)] (V.heap.size + 1) IZ.ra hnew rfl (by intro u hu; rw [List.mem_singleton] at hu; subst hu; rfl) (by omega) (by decide) (Nat.zero_le _)
 have hsZ : (X.alloc (.cells #[.pointer (some ⟨V.heap.size, 0, none⟩)] 121)).heap.size = V.heap.size + 2 := by rw [World.size_alloc, hsX]
 have hw0V := h.be.size
 generalize hZ : X.alloc (.cells #[.pointer (some ⟨V.heap.size, 0, none⟩)] 121) = Z at *
 have hsW := hg1.size
 have nb : va.ownBlock ≠ some y := blk_type IZ.blk IZ.ra (by decide)
 have hyl : y < Z.heap.size := (Array.getElem?_eq_some_iff.1 IZ.blk).1
 have hyW : W1.heap[y]? = some (.cells #[vr, va, .slice none 0 0, .slice none 0 0, .slice none 0 0] 96) := (hg1.block y hyl (fun e => nb e.symm)).trans IZ.blk
 obtain ⟨U, hU⟩ : ∃ U, U = W1.setCell ⟨y, 1, none⟩ (.slice (some ⟨g', 0, none⟩) (m + 1) cap') := ⟨_, rfl⟩
 have hMv : Moved Z U (fun z => z = y ∨ va.ownBlock = some z) := by
  rw [hU]
  exact ((Moved.refl Z _).grown hg1 (fun z _ e => .inr e)).setCell ⟨y, 1, none⟩ (.inl rfl) _
 have hkeep : ∀ {base size n : Nat} {e : TypeId} {v : Value} {xs : List Value}, Z.ownsRow base e size v n xs → e ≠ 96 → e ≠ 121 → U.ownsRow base e size v n xs := fun ho h1 h2 => hMv.owns ho fun z hz hS => by
  rcases hS with e | e
  ·exact blk_type IZ.blk ho h1 (e ▸ hz)
  ·exact owns_two ho IZ.ra h2 z hz e
 have hblkK : ∀ {b : Nat} {cs : Array Value} {t : TypeId}, Z.heap[b]? = some (.cells cs t) → t ≠ 96 → t ≠ 121 → U.heap[b]? = some (.cells cs t) := fun {b cs t} e h1 h2 => by
  refine (hMv.block b (Array.getElem?_eq_some_iff.1 e).1 fun hS => ?_).trans e
  rcases hS with q | q
  ·rw [q, IZ.blk] at e
   injection e with e
   injection e with e1 e2
   exact h1 e2.symm
  ·exact blk_type e IZ.ra (fun q => h2 q.symm) q
 have hbrV : V.heap.size ≠ y := by
  have := (Array.getElem?_eq_some_iff.1 h.blk).1
  omega
 have hsZU := hMv.size
 have hMZ : Z.heap[V.heap.size]? = some (.cells #[.bool true, .int .i64 0, vm, .slice none 0 0] 124) := (hbZ.block _ (by omega)).trans hM
 have hvmV : ∀ z, vm.ownBlock = some z → z < V.heap.size := fun z e => (Array.getElem?_eq_some_iff.1 (ownBlock_cells hm e).choose_spec.1).1
 have hmZ : IntOwn Z vm (firstInts n) := owns_kept (owns_kept hm fun z _ hz => hbX.block z hz) fun z _ hz => hbZ.block z hz
 refine ⟨g', cap', W1, fun j => if j = m then V.heap.size else ba j, fun ty => by rw [← hX, hZ]; exact hrun ty, cell_of_heap hyW 1, frozen_of_heap hyW 1, ?_⟩
 rw [← hU]
 refine ⟨?_, hkeep IZ.rr (by decide) (by decide), ?_, fun j hj => ?_, fun j hj => ?_, hkeep IZ.all (by decide) (by decide), ⟨h.new.1, h.new.2.1, fun z e => ?_, h.new.2.2.2⟩, ?_, hblkK IZ.cfg (by decide) (by decide)⟩
 ·rw [hU]
  exact heap_setCell_same _ _ _ _ _ _ hyW
 ·have hr := ownsRow_setCell_other (a := ⟨y, 1, none⟩) ho1 (blk_type hyW ho1 (by decide)) (.slice (some ⟨g', 0, none⟩) (m + 1) cap')
  rw [← hU] at hr
  rw [ptrs_snoc, Nat.zero_add, if_pos rfl, ptrs_same _ ba 0 m (fun i hi => by rw [Nat.zero_add, if_neg (by omega)])]
  exact hr
 ·exact (IZ.reps j hj).later hsZU (fun ho e => hkeep ho (by rcases e with e | e <;> (rw [e]; decide)) (by rcases e with e | e <;> (rw [e]; decide))) (fun _ e => hblkK e (by decide) (by decide))
 ·by_cases hjk : j = m
  ·rw [if_pos hjk]
   refine ⟨vm, .slice none 0 0, hblkK hMZ (by decide) (by decide), hkeep hmZ (by decide) (by decide), ⟨hw0V, by omega⟩, fun z e => ⟨hmn z e, by have := hvmV z e; omega⟩⟩
  ·rw [if_neg hjk]
   exact (IZ.accs j (by omega)).later hsZU (fun ho e => hkeep ho (by rcases e with e | e <;> (rw [e]; decide)) (by rcases e with e | e <;> (rw [e]; decide))) (fun _ e => hblkK e (by decide) (by decide))
 ·have hg : g' = z := by simpa [Value.ownBlock] using e
  rcases hwh with q | q
  ·exact h.new.2.2.1 z (hg ▸ q)
  ·omega
 ·refine IZ.be.trans (hMv.to_below (fun z q => ?_) IZ.be.size)
  rcases q with q | q
  ·rw [q]; exact h.new.1
  ·exact h.new.2.2.1 z q
end Go.Proofs.Ytgieeeeeiggoeaa
