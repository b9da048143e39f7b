import Derived.Test.YtgieeeeeiggoeaaP13
import Derived.Test.YtgieeeeeiggoeaaP23
namespace Go.Proofs.Ytgieeeeeiggoeaa
open Go.RowKit Go.Shelf
theorem infoInt3 : (Try.prog.info? 3).map (fun i => (i.zero, i.size, i.bytes)) = some (some (.int .i64 0), 1, 8) := by kernel_rfl
theorem infoPRep : (Try.prog.info? 118).map (fun i => (i.zero, i.size, i.bytes)) = some (some (.pointer none), 1, 8) := by kernel_rfl
theorem infoPAcc : (Try.prog.info? 121).map (fun i => (i.zero, i.size, i.bytes)) = some (some (.pointer none), 1, 8) := by kernel_rfl
theorem infoPMas : (Try.prog.info? 125).map (fun i => (i.zero, i.size, i.bytes)) = some (some (.pointer none), 1, 8) := by kernel_rfl
theorem firstInts_snoc (k : Nat) : firstInts (k + 1) = firstInts k ++ [(k : Int)] := by
 unfold firstInts
 rw [List.range_succ, List.map_append]
 rfl
set_option maxHeartbeats 1000000 in
theorem refInts_any (v : Value) (l : List Int) (w : World) (hv : IntOwn w v l) (h0 : l ≠ []) (hl : l.length ≤ 1000000000) :
  Calls Try.prog 64 #[v] w fun e w' => ∃ a c, e = .returned (.slice a l.length c) ∧ w'.ownsRow w.heap.size 3 1 (.slice a l.length c) l.length (ints l) ∧ Below w.heap.size w w' := by
 obtain ⟨i0, hi, hz0, hz1, hz2⟩ := info_parts infoInt3
 have hpos : 0 < l.length := List.length_pos_iff.2 h0
 obtain ⟨g, cv, rfl, -, -⟩ := hv.form (by omega)
 have hcells : ∀ j u, (ints l)[j]? = some u → w.cell? ((⟨g, 0, none⟩ : Addr).add j) = some u := fun j u hj => by
  have hjl : j < l.length := by have := (List.getElem?_eq_some_iff.1 hj).1; rwa [ints_length] at this
  have := World.ownsRow.cellAt hv j (by omega)
  rw [show (⟨g, 0, none⟩ : Addr).add j = ⟨g, j, none⟩ by unfold Addr.add; by_cases hj0 : j = 0 <;> simp [hj0], this, hj]
 clear hv
 go_enter Try.func64, Try.ntmps64
 go_wp2_with (at_builtin; refine wpList_append_own _ rfl _ _ 22 rfl w.heap.size 3 i0 _ 1 8 Try.underlying22 hi hz0 hz1 hz2 rfl (by decide) (.slice none 0 0) 0 [] rfl (World.ownsRow_nil _ _ _ _) ⟨g, 0, none⟩ l.length cv (ints l) rfl (by rw [ints_length]; omega) hcells (ints_one _) (by unfold maxLen; omega) (by omega) (Nat.le_refl _) ?_)
 intro v' w' ho hg _
 have ho' : w'.ownsRow w.heap.size 3 1 v' l.length (ints l) := by simpa using ho
 obtain ⟨a', c', hv'⟩ := owns_shape ho'
 subst hv'
 have HO := hideA ho'
 have HG : Hid (Below w.heap.size w w') := hideA (((Moved.refl w (fun _ => False)).grown hg (fun k _ e => by simp [Value.ownBlock] at e)).to_below (fun _ e => e.elim) (Nat.le_refl _))
 clear ho ho' hg hcells
 go_wp2_with fail
 go_ret
 exact ⟨a', c', rfl, HO.out, HG.out⟩
def Fr (w0 w : World) (z : Nat) : Prop := w0.heap.size ≤ z ∧ z < w.heap.size
theorem RRepAt.later {w0 w w' : World} {b : Nat} {r : Rep} (h : RRepAt w (Fr w0 w) b r) (hs : w.heap.size ≤ w'.heap.size) (hk : ∀ {base size n : Nat} {e : TypeId} {v : Value} {xs : List Value}, w.ownsRow base e size v n xs → e = 3 ∨ e = 59 → w'.ownsRow base e size v n xs) (hb : ∀ cs, w.heap[b]? = some (.cells cs 120) → w'.heap[b]? = some (.cells cs 120)) : RRepAt w' (Fr w0 w') b r := by
 obtain ⟨vm, vl, h1, h2, h3, h4, h5, h6⟩ := h
 have wid : ∀ z, Fr w0 w z → Fr w0 w' z := fun z e => ⟨e.1, Nat.lt_of_lt_of_le e.2 hs⟩
 exact ⟨vm, vl, hb _ h1, hk h2 (.inl rfl), hk h3 (.inr rfl), wid _ h4, fun k e => wid _ (h5 k e), fun k e => wid _ (h6 k e)⟩
theorem RAccAt.later {w0 w w' : World} {b : Nat} {a : Acc} (h : RAccAt w (Fr w0 w) b a) (hs : w.heap.size ≤ w'.heap.size) (hk : ∀ {base size n : Nat} {e : TypeId} {v : Value} {xs : List Value}, w.ownsRow base e size v n xs → e = 3 ∨ e = 59 → w'.ownsRow base e size v n xs) (hb : ∀ cs, w.heap[b]? = some (.cells cs 124) → w'.heap[b]? = some (.cells cs 124)) : RAccAt w' (Fr w0 w') b a := by
 obtain ⟨vm, vv, h1, h2, h4, h5⟩ := h
 have wid : ∀ z, Fr w0 w z → Fr w0 w' z := fun z e => ⟨e.1, Nat.lt_of_lt_of_le e.2 hs⟩
 exact ⟨vm, vv, hb _ h1, hk h2 (.inl rfl), wid _ h4, fun k e => wid _ (h5 k e)⟩
structure NewR (w0 w : World) (y n k m : Nat) (vA : Value) (br ba : Nat → Nat) (vr va : Value) : Prop where
 blk : w.heap[y]? = some (.cells #[vr, va, .slice none 0 0, .slice none 0 0, .slice none 0 0] 96)
 rr : w.ownsRow 0 118 1 vr k (ptrs br 0 k)
 ra : w.ownsRow 0 121 1 va m (ptrs ba 0 m)
 reps : ∀ j, j < k → RRepAt w (Fr w0 w) (br j) (Rep.first n)
 accs : ∀ j, j < m → RAccAt w (Fr w0 w) (ba j) (Acc.first n)
 all : IntOwn w vA (firstInts n)
 new : w0.heap.size ≤ y ∧ (∀ z, vr.ownBlock = some z → w0.heap.size ≤ z) ∧ (∀ z, va.ownBlock = some z → w0.heap.size ≤ z) ∧ ∀ z, vA.ownBlock = some z → w0.heap.size ≤ z
 be : Below w0.heap.size w0 w
 cfg : w.heap[w0.heap.size]? = some (.cells #[.int .i64 (n : Int)] 80)
theorem NewR.below {w0 w w' : World} {y n k m : Nat} {vA : Value} {br ba : Nat → Nat} {vr va : Value} (h : NewR w0 w y n k m vA br ba vr va) (hb : Below w.heap.size w w') : NewR w0 w' y n k m vA br ba vr va where
 blk := (hb.block _ (Array.getElem?_eq_some_iff.1 h.blk).1).trans h.blk
 rr := owns_kept h.rr fun z _ hz => hb.block z hz
 ra := owns_kept h.ra fun z _ hz => hb.block z hz
 reps := fun j hj => (h.reps j hj).later hb.size (fun ho _ => owns_kept ho fun z _ hz => hb.block z hz) (fun _ e => (hb.block _ (Array.getElem?_eq_some_iff.1 e).1).trans e)
 accs := fun j hj => (h.accs j hj).later hb.size (fun ho _ => owns_kept ho fun z _ hz => hb.block z hz) (fun _ e => (hb.block _ (Array.getElem?_eq_some_iff.1 e).1).trans e)
 all := owns_kept h.all fun z _ hz => hb.block z hz
 new := h.new
 be := h.be.trans (hb.mono h.be.size)
 cfg := (hb.block _ (Array.getElem?_eq_some_iff.1 h.cfg).1).trans h.cfg
set_option maxRecDepth 100000 in
theorem NewR.rep {w0 V : World} {y n k m : Nat} {vA : Value} {br ba : Nat → Nat} {vr va vm : Value} (h : NewR w0 V y n k m vA br ba vr va) (hm : IntOwn V vm (firstInts n)) (hmn : ∀ z, vm.ownBlock = some z → w0.heap.size ≤ z) (hk : k ≤ 10) :
  ∃ g' cap' W1 br', (∀ ty, (Builtin.append_ #[91, 91] ty #[vr, .slice (some ⟨V.heap.size + 1, 0, none⟩) 1 1]).run Try.prog ((V.alloc (.cells #[.bool true, .int .i64 0, .int .i64 0, vm, .slice none 0 0, .int .i64 0, .int .i64 0] 120)).alloc (.cells #[.pointer (some ⟨V.heap.size, 0, none⟩)] 118)) = .ok (.slice (some ⟨g', 0, none⟩) (k + 1) cap') W1) ∧
   W1.cell? ⟨y, 0, none⟩ = some vr ∧ W1.frozen? ⟨y, 0, none⟩ = false ∧ NewR w0 (W1.setCell ⟨y, 0, none⟩ (.slice (some ⟨g', 0, none⟩) (k + 1) cap')) y n (k + 1) m vA br' ba (.slice (some ⟨g', 0, none⟩) (k + 1) cap') va := by
 obtain ⟨X, hX⟩ : ∃ X, X = V.alloc (.cells #[.bool true, .int .i64 0, .int .i64 0, vm, .slice none 0 0, .int .i64 0, .int .i64 0] 120) := ⟨_, rfl⟩
 have hsX : X.heap.size = V.heap.size + 1 := by rw [hX]; simp
 have hbX : Below V.heap.size V X := by rw [hX]; exact (Below.refl _ V).alloc (Nat.le_refl _) _
 have hM : X.heap[V.heap.size]? = some (.cells #[.bool true, .int .i64 0, .int .i64 0, vm, .slice none 0 0, .int .i64 0, .int .i64 0] 120) := by rw [hX]; exact heap_new _ _
 have hbZ : Below X.heap.size X (X.alloc (.cells #[.pointer (some ⟨V.heap.size, 0, none⟩)] 118)) := (Below.refl _ X).alloc (Nat.le_refl _) _
 have IZ := (h.below hbX).below hbZ
 have hnew : (X.alloc (.cells #[.pointer (some ⟨V.heap.size, 0, none⟩)] 118)).heap[V.heap.size + 1]? = some (.cells [Value.pointer (some ⟨V.heap.size, 0, none⟩)].toArray 118) := by
  have := heap_new X (.cells #[.pointer (some ⟨V.heap.size, 0, none⟩)] 118)
  rw [hsX] at this
  exact this
 obtain ⟨g', cap', W1, hrun, ho1, hg1, hwh⟩ := append_row (t := 91) infoPRep Try.underlying91 rfl (by decide) (X.alloc (.cells #[.pointer (some ⟨V.heap.size, 0, none⟩)] 118)) 0 vr k (ptrs br 0 k) [.pointer (some ⟨V.heap.size, 0, none⟩)] (V.heap.size + 1) IZ.rr hnew rfl (by intro u hu; rw [List.mem_singleton] at hu; subst hu; rfl) (by omega) (by decide) (Nat.zero_le _)
 have hsZ : (X.alloc (.cells #[.pointer (some ⟨V.heap.size, 0, none⟩)] 118)).heap.size = V.heap.size + 2 := by rw [World.size_alloc, hsX]
 have hw0V := h.be.size
 generalize hZ : X.alloc (.cells #[.pointer (some ⟨V.heap.size, 0, none⟩)] 118) = Z at *
 have hsW := hg1.size
 have nb : vr.ownBlock ≠ some y := blk_type IZ.blk IZ.rr (by decide)
 have hyl : y < Z.heap.size := (Array.getElem?_eq_some_iff.1 IZ.blk).1
 have hyW : W1.heap[y]? = some (.cells #[vr, va, .slice none 0 0, .slice none 0 0, .slice none 0 0] 96) := (hg1.block y hyl (fun e => nb e.symm)).trans IZ.blk
 obtain ⟨U, hU⟩ : ∃ U, U = W1.setCell ⟨y, 0, none⟩ (.slice (some ⟨g', 0, none⟩) (k + 1) cap') := ⟨_, rfl⟩
 have hMv : Moved Z U (fun z => z = y ∨ vr.ownBlock = some z) := by
  rw [hU]
  exact ((Moved.refl Z _).grown hg1 (fun z _ e => .inr e)).setCell ⟨y, 0, none⟩ (.inl rfl) _
 have hkeep : ∀ {base size n : Nat} {e : TypeId} {v : Value} {xs : List Value}, Z.ownsRow base e size v n xs → e ≠ 96 → e ≠ 118 → U.ownsRow base e size v n xs := fun ho h1 h2 => hMv.owns ho fun z hz hS => by
  rcases hS with e | e
  ·exact blk_type IZ.blk ho h1 (e ▸ hz)
  ·exact owns_two ho IZ.rr h2 z hz e
 have hblkK : ∀ {b : Nat} {cs : Array Value} {t : TypeId}, Z.heap[b]? = some (.cells cs t) → t ≠ 96 → t ≠ 118 → U.heap[b]? = some (.cells cs t) := fun {b cs t} e h1 h2 => by
  refine (hMv.block b (Array.getElem?_eq_some_iff.1 e).1 fun hS => ?_).trans e
  rcases hS with q | q
  ·rw [q, IZ.blk] at e
   injection e with e
   injection e with e1 e2
   exact h1 e2.symm
  ·exact blk_type e IZ.rr (fun q => h2 q.symm) q
 have hbrV : V.heap.size ≠ y := by
  have := (Array.getElem?_eq_some_iff.1 h.blk).1
  omega
 have hsZU := hMv.size
 have hMZ : Z.heap[V.heap.size]? = some (.cells #[.bool true, .int .i64 0, .int .i64 0, vm, .slice none 0 0, .int .i64 0, .int .i64 0] 120) := (hbZ.block _ (by omega)).trans hM
 have hvmV : ∀ z, vm.ownBlock = some z → z < V.heap.size := fun z e => (Array.getElem?_eq_some_iff.1 (ownBlock_cells hm e).choose_spec.1).1
 have hmZ : IntOwn Z vm (firstInts n) := owns_kept (owns_kept hm fun z _ hz => hbX.block z hz) fun z _ hz => hbZ.block z hz
 refine ⟨g', cap', W1, fun j => if j = k then V.heap.size else br j, fun ty => by rw [← hX, hZ]; exact hrun ty, cell_of_heap hyW 0, frozen_of_heap hyW 0, ?_⟩
 rw [← hU]
 refine ⟨?_, ?_, hkeep IZ.ra (by decide) (by decide), fun j hj => ?_, fun j hj => ?_, hkeep IZ.all (by decide) (by decide), ⟨h.new.1, fun z e => ?_, h.new.2.2.1, h.new.2.2.2⟩, ?_, hblkK IZ.cfg (by decide) (by decide)⟩
 ·rw [hU]
  exact heap_setCell_same _ _ _ _ _ _ hyW
 ·have hr := ownsRow_setCell_other (a := ⟨y, 0, none⟩) ho1 (blk_type hyW ho1 (by decide)) (.slice (some ⟨g', 0, none⟩) (k + 1) cap')
  rw [← hU] at hr
  rw [ptrs_snoc, Nat.zero_add, if_pos rfl, ptrs_same _ br 0 k (fun i hi => by rw [Nat.zero_add, if_neg (by omega)])]
  exact hr
 ·by_cases hjk : j = k
  ·rw [if_pos hjk]
   refine ⟨vm, .slice none 0 0, hblkK hMZ (by decide) (by decide), hkeep hmZ (by decide) (by decide), World.ownsRow_nil _ _ _ _, ⟨hw0V, by omega⟩, fun z e => ⟨hmn z e, by have := hvmV z e; omega⟩, fun z e => absurd e no_row⟩
  ·rw [if_neg hjk]
   exact (IZ.reps j (by omega)).later hsZU (fun ho e => hkeep ho (by rcases e with e | e <;> (rw [e]; decide)) (by rcases e with e | e <;> (rw [e]; decide))) (fun _ e => hblkK e (by decide) (by decide))
 ·exact (IZ.accs j hj).later hsZU (fun ho e => hkeep ho (by rcases e with e | e <;> (rw [e]; decide)) (by rcases e with e | e <;> (rw [e]; decide))) (fun _ e => hblkK e (by decide) (by decide))
 ·have hg : g' = z := by simpa [Value.ownBlock] using e
  rcases hwh with q | q
  ·exact h.new.2.1 z (hg ▸ q)
  ·omega
 ·refine IZ.be.trans (hMv.to_below (fun z q => ?_) IZ.be.size)
  rcases q with q | q
  ·rw [q]; exact h.new.1
  ·exact h.new.2.1 z q
end Go.Proofs.Ytgieeeeeiggoeaa
