import Derived.Test.YtgieeeeeiggoeaaP09
namespace Go.Proofs.Ytgieeeeeiggoeaa
open Go.RowKit Go.Shelf
theorem infoSta : (Try.prog.info? 178).map (fun i => (i.zero, i.size, i.bytes)) = some (some (.agg #[.int .i64 0, .int .i64 0, .nilIface]), 3, 32) := by kernel_rfl
theorem infoPR : (Try.prog.info? 155).map (fun i => (i.zero, i.size, i.bytes)) = some (some (.pointer none), 1, 8) := by kernel_rfl
theorem infoPA : (Try.prog.info? 158).map (fun i => (i.zero, i.size, i.bytes)) = some (some (.pointer none), 1, 8) := by kernel_rfl
theorem infoPM : (Try.prog.info? 160).map (fun i => (i.zero, i.size, i.bytes)) = some (some (.pointer none), 1, 8) := by kernel_rfl
set_option maxRecDepth 100000 in
set_option maxHeartbeats 1000000 in
theorem add_any (x k : Nat) (vs a1 a2 a3 a4 a5 : Value) (xs : List Value) (num : Int) (ty : TypeId) (q : Option Addr) (w : World) (hblk : w.heap[x]? = some (.cells #[vs, a1, a2, a3, a4, a5] 153)) (hrow : w.ownsRow 0 178 3 vs k xs) (hk : k ≤ 100) :
  Calls Try.prog 80 #[.pointer (some ⟨x, 0, none⟩), .int .i64 num, .iface ty (.pointer q)] w fun e w' => (∃ v, e = .returned v) ∧ ∃ vs', w'.heap[x]? = some (.cells #[vs', a1, a2, a3, a4, a5] 153) ∧ w'.ownsRow 0 178 3 vs' (k + 1) (xs ++ [.int .i64 num, .int .i64 0, .iface ty (.pointer q)]) ∧ Moved w w' (fun z => z = x ∨ vs.ownBlock = some z) ∧ Grows w vs vs' := by
 obtain ⟨ab, cb, rfl⟩ := owns_shape hrow
 have c0 := cell_of_heap hblk 0
 have hxl : x < w.heap.size := (Array.getElem?_eq_some_iff.1 hblk).1
 obtain ⟨X, hX⟩ : ∃ X, X = w.alloc (.cells #[.int .i64 num, .int .i64 0, .iface ty (.pointer q)] 178) := ⟨_, rfl⟩
 have hbX : Below w.heap.size w X := by rw [hX]; exact (Below.refl _ w).alloc (Nat.le_refl _) _
 have hsX : X.heap.size = w.heap.size + 1 := by rw [hX]; simp
 have hrX : X.ownsRow 0 178 3 (.slice ab k cb) k xs := owns_kept hrow fun k _ hk => hbX.block k hk
 obtain ⟨g', cap', W1, hrun, ho1, hg1, hwh⟩ := append_row (t := 145) infoSta Try.underlying145 rfl (by decide) X 0 (.slice ab k cb) k xs [.int .i64 num, .int .i64 0, .iface ty (.pointer q)] w.heap.size hrX (by rw [hX]; exact heap_new _ _) rfl (by intro u hu; simp at hu; rcases hu with rfl | rfl | rfl <;> rfl) (by omega) (by decide) (Nat.zero_le _)
 have nb : (Value.slice ab k cb).ownBlock ≠ some x := blk_type hblk hrow (by decide)
 have hxW : W1.heap[x]? = some (.cells #[.slice ab k cb, a1, a2, a3, a4, a5] 153) := (hg1.block x (by omega) (fun e => nb e.symm)).trans ((hbX.block x hxl).trans hblk)
 have d0 := cell_of_heap hxW 0
 have e0 := frozen_of_heap hxW 0
 have M1 : Moved w W1 (fun z => z = x ∨ (Value.slice ab k cb).ownBlock = some z) := ((Moved.refl w _).below hbX).grown hg1 (fun k _ e => .inr e)
 have HR := hideA hrun
 rw [hX] at HR
 have HF : Hid (∃ vs', (W1.setCell ⟨x, 0, none⟩ (.slice (some ⟨g', 0, none⟩) (k + 1) cap')).heap[x]? = some (.cells #[vs', a1, a2, a3, a4, a5] 153) ∧ (W1.setCell ⟨x, 0, none⟩ (.slice (some ⟨g', 0, none⟩) (k + 1) cap')).ownsRow 0 178 3 vs' (k + 1) (xs ++ [.int .i64 num, .int .i64 0, .iface ty (.pointer q)]) ∧ Moved w (W1.setCell ⟨x, 0, none⟩ (.slice (some ⟨g', 0, none⟩) (k + 1) cap')) (fun z => z = x ∨ (Value.slice ab k cb).ownBlock = some z) ∧ Grows w (.slice ab k cb) vs') := hideA (by
  refine ⟨_, set6_0 _ hxW, ownsRow_setCell_other ho1 (blk_type hxW ho1 (by decide)) _, M1.setCell ⟨x, 0, none⟩ (.inl rfl) _, ?_⟩
  intro z hz
  have : g' = z := by simpa [Value.ownBlock] using hz
  subst this
  rcases hwh with h5 | h5
  ·exact .inl h5
  ·exact .inr (by omega))
 clear hrun ho1 hg1 hwh hrX M1 hX hbX hsX hxW
 go_enter Try.func80, Try.ntmps80
 go_wp2_with (at_builtin; refine wpList_append_run rfl (.tmp 10) (.tmp 14) 145 rfl _ _ _ _ (by simp [Act.eval]) (by simp [Act.eval]) HR.out ?_)
 go_wp2_with fail
 go_end0
 exact ⟨⟨_, rfl⟩, HF.out⟩
def firstNod (n j : Nat) : Nod := if j < n then .rep (Rep.first n) else if j < n + 3 then .acc (Acc.first n) else .mas (Mas.still true 0)
def staOf (n : Nat) (b : Nat → Nat) (j : Nat) : List Value := [.int .i64 (numOf n j), .int .i64 0, .iface (nodTy (firstNod n j)) (.pointer (some ⟨b j, 0, none⟩))]
def OwnB (x : Nat) (vs vr va vm : Value) (k : Nat) : Prop := k = x ∨ vs.ownBlock = some k ∨ vr.ownBlock = some k ∨ va.ownBlock = some k ∨ vm.ownBlock = some k
structure Built (w0 w : World) (x n k : Nat) (b : Nat → Nat) (Fn : Nat → Nat → Prop) (vs vr va vm : Value) : Prop where
 blk : w.heap[x]? = some (.cells #[vs, vr, va, vm, .slice none 0 0, .slice none 0 0] 153)
 rs : w.ownsRow 0 178 3 vs k ((List.range k).flatMap (staOf n b))
 rr : w.ownsRow 0 155 1 vr (min k n) (ptrs b 0 (min k n))
 ra : w.ownsRow 0 158 1 va (min (k - n) 3) (ptrs b n (min (k - n) 3))
 rm : w.ownsRow 0 160 1 vm (k - n - 3) (ptrs b (n + 3) (k - n - 3))
 nod : ∀ j, j < k → NodAt w (Fn j) (b j) (numOf n j) (firstNod n j)
 sep : ∀ i j, i < k → j < k → i ≠ j → ∀ z, Fn i z → ¬ Fn j z
 off : ∀ j, j < k → ∀ z, Fn j z → ¬ OwnB x vs vr va vm z
 newO : ∀ z, OwnB x vs vr va vm z → w0.heap.size ≤ z
 newN : ∀ j, j < k → ∀ z, Fn j z → w0.heap.size ≤ z
 bel : Below w0.heap.size w0 w
theorem ptrs_snoc (b : Nat → Nat) (s m : Nat) : ptrs b s (m + 1) = ptrs b s m ++ [.pointer (some ⟨b (s + m), 0, none⟩)] := by
 unfold ptrs
 rw [List.range_succ, List.map_append]
 rfl
theorem ptrs_same (b b' : Nat → Nat) (s m : Nat) (h : ∀ i, i < m → b (s + i) = b' (s + i)) : ptrs b s m = ptrs b' s m := by
 unfold ptrs
 refine List.map_congr_left fun i hi => ?_
 rw [h i (List.mem_range.1 hi)]
theorem sta_snoc (n : Nat) (b : Nat → Nat) (k : Nat) : (List.range (k + 1)).flatMap (staOf n b) = (List.range k).flatMap (staOf n b) ++ staOf n b k := by
 rw [List.range_succ, List.flatMap_append]
 simp
theorem sta_same (n : Nat) (b b' : Nat → Nat) (k : Nat) (h : ∀ i, i < k → b i = b' i) : (List.range k).flatMap (staOf n b) = (List.range k).flatMap (staOf n b') := by
 rw [List.flatMap_def, List.flatMap_def]
 congr 1
 refine List.map_congr_left fun i hi => ?_
 unfold staOf
 rw [h i (List.mem_range.1 hi)]
def putB (b : Nat → Nat) (k v : Nat) (i : Nat) : Nat := if i = k then v else b i
def putF (Fn : Nat → Nat → Prop) (k : Nat) (F : Nat → Prop) (i : Nat) : Nat → Prop := if i = k then F else Fn i
theorem Built.step {w0 w w1 w3 : World} {x n k : Nat} {b : Nat → Nat} {Fn : Nat → Nat → Prop} {vs vr va vm vs' vr' va' vm' : Value} (h : Built w0 w x n k b Fn vs vr va vm) (b' : Nat) (F' : Nat → Prop)
  (h1 : Below w.heap.size w w1) (hN : NodAt w1 F' b' (numOf n k) (firstNod n k)) (hF : ∀ z, F' z → w.heap.size ≤ z)
  (hM : Moved w1 w3 (OwnB x vs vr va vm)) (hG : ∀ z, OwnB x vs' vr' va' vm' z → OwnB x vs vr va vm z ∨ w1.heap.size ≤ z)
  (hblk : w3.heap[x]? = some (.cells #[vs', vr', va', vm', .slice none 0 0, .slice none 0 0] 153))
  (hrs : w3.ownsRow 0 178 3 vs' (k + 1) ((List.range k).flatMap (staOf n b) ++ [.int .i64 (numOf n k), .int .i64 0, .iface (nodTy (firstNod n k)) (.pointer (some ⟨b', 0, none⟩))]))
  (hrr : w3.ownsRow 0 155 1 vr' (min (k + 1) n) (ptrs (putB b k b') 0 (min (k + 1) n)))
  (hra : w3.ownsRow 0 158 1 va' (min (k + 1 - n) 3) (ptrs (putB b k b') n (min (k + 1 - n) 3)))
  (hrm : w3.ownsRow 0 160 1 vm' (k + 1 - n - 3) (ptrs (putB b k b') (n + 3) (k + 1 - n - 3))) :
  Built w0 w3 x n (k + 1) (putB b k b') (putF Fn k F') vs' vr' va' vm' := by
 have hs0 := h.bel.size
 have hs1 := h1.size
 have hs3 := hM.size
 have hO : ∀ z, OwnB x vs vr va vm z → z < w.heap.size := by
  intro z hz
  have key : ∀ {base size n : Nat} {e : TypeId} {v : Value} {xs : List Value}, w.ownsRow base e size v n xs → v.ownBlock = some z → z < w.heap.size := fun hr e => (Array.getElem?_eq_some_iff.1 (ownBlock_cells hr e).choose_spec.1).1
  rcases hz with e | e | e | e | e
  ·rw [e]; exact (Array.getElem?_eq_some_iff.1 h.blk).1
  ·exact key h.rs e
  ·exact key h.rr e
  ·exact key h.ra e
  ·exact key h.rm e
 have hold : ∀ j, j < k → ∀ z, Fn j z → z < w.heap.size := fun j hj z hz => (h.nod j hj).lt hz
 have hF1 : ∀ z, F' z → z < w1.heap.size := fun z hz => hN.lt hz
 refine ⟨hblk, ?_, hrr, hra, hrm, ?_, ?_, ?_, ?_, ?_, ?_⟩
 ·rw [sta_snoc, sta_same n (putB b k b') b k (fun i hi => by unfold putB; rw [if_neg (by omega)])]
  have : staOf n (putB b k b') k = [.int .i64 (numOf n k), .int .i64 0, .iface (nodTy (firstNod n k)) (.pointer (some ⟨b', 0, none⟩))] := by unfold staOf putB; rw [if_pos rfl]
  rw [this]
  exact hrs
 ·intro j hj
  unfold putB putF
  by_cases e : j = k
  ·subst e
   rw [if_pos rfl, if_pos rfl]
   exact hN.keep fun z hz => hM.block z (hF1 z hz) (fun e2 => by have := hO z e2; have := hF z hz; omega)
  ·rw [if_neg e, if_neg e]
   have hj' : j < k := by omega
   exact (h.nod j hj').keep fun z hz => (hM.block z (by have := hold j hj' z hz; omega) (h.off j hj' z hz)).trans (h1.block z (hold j hj' z hz))
 ·intro i j hi hj hne z hz hz2
  unfold putF at hz hz2
  by_cases e : i = k
  ·subst e
   rw [if_pos rfl] at hz
   rw [if_neg (Ne.symm hne)] at hz2
   have := hF z hz
   have := hold j (by omega) z hz2
   omega
  ·rw [if_neg e] at hz
   by_cases e2 : j = k
   ·subst e2
    rw [if_pos rfl] at hz2
    have := hF z hz2
    have := hold i (by omega) z hz
    omega
   ·rw [if_neg e2] at hz2
    exact h.sep i j (by omega) (by omega) hne z hz hz2
 ·intro j hj z hz hz2
  unfold putF at hz
  rcases hG z hz2 with q | q
  ·by_cases e : j = k
   ·rw [if_pos e] at hz
    have := hF z hz
    have := hO z q
    omega
   ·rw [if_neg e] at hz
    exact h.off j (by omega) z hz q
  ·by_cases e : j = k
   ·rw [if_pos e] at hz
    have := hF1 z hz
    omega
   ·rw [if_neg e] at hz
    have := hold j (by omega) z hz
    omega
 ·intro z hz
  rcases hG z hz with q | q
  ·exact h.newO z q
  ·omega
 ·intro j hj z hz
  unfold putF at hz
  by_cases e : j = k
  ·rw [if_pos e] at hz
   have := hF z hz
   omega
  ·rw [if_neg e] at hz
   exact h.newN j (by omega) z hz
 ·exact (h.bel.trans (h1.mono hs0)).trans ((hM.to_below (fun z hz => h.newO z hz) (by omega)))
end Go.Proofs.Ytgieeeeeiggoeaa
