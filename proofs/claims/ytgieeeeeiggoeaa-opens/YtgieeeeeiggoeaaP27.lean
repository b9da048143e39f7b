import Derived.Test.YtgieeeeeiggoeaaP23
namespace Go.Proofs.Ytgieeeeeiggoeaa
open Go.RowKit Go.Shelf
theorem run_first (n : Nat) : runOf 0 n = firstInts n := by
 unfold runOf firstInts
 refine List.map_congr_left fun i _ => ?_
 simp
theorem run_len (a : Int) (n : Nat) : (runOf a n).length = n := by unfold runOf; simp
theorem newRep_nod (n k : Nat) (v : Value) (w : World) (hk : k < n) (hv : IntOwn w v (firstInts n)) (hn : n ≤ 5) :
  Calls Try.prog 79 #[.int .i64 (numOf n k), v] w fun e w' => ∃ b F, e = .returned (.pointer (some ⟨b, 0, none⟩)) ∧ NodAt w' F b (numOf n k) (firstNod n k) ∧ (∀ z, F z → w.heap.size ≤ z) ∧ Below w.heap.size w w' := by
 refine (repNew_any (numOf n k) (firstInts n) v w hv (by simp [firstInts]; omega)).mono ?_
 rintro e w' ⟨b, vm, rfl, h1, h2, h3, h4⟩
 refine ⟨b, fun z => RepS b vm (.slice none 0 0) z, rfl, ?_, ?_, h4⟩
 ·unfold firstNod
  rw [if_pos hk]
  refine ⟨⟨vm, _, h1, fun _ e => e, ?_⟩, fun e => by simp [Rep.first] at e⟩
  rintro z (e | e | e)
  ·rw [e]; exact (Array.getElem?_eq_some_iff.1 h1.blk).1
  ·exact (Array.getElem?_eq_some_iff.1 (ownBlock_cells h1.hm e).choose_spec.1).1
  ·exact absurd e no_row
 ·rintro z (e | e | e)
  ·omega
  ·exact h3 z e
  ·exact absurd e no_row
theorem newAcc_nod (n k : Nat) (v : Value) (w : World) (hk : ¬ k < n) (hk2 : k < n + 3) (hv : IntOwn w v (firstInts n)) (hn : n ≤ 5) :
  Calls Try.prog 81 #[.int .i64 (numOf n k), v] w fun e w' => ∃ b F, e = .returned (.pointer (some ⟨b, 0, none⟩)) ∧ NodAt w' F b (numOf n k) (firstNod n k) ∧ (∀ z, F z → w.heap.size ≤ z) ∧ Below w.heap.size w w' := by
 refine (accNew_any (numOf n k) (firstInts n) v w hv (by simp [firstInts]; omega)).mono ?_
 rintro e w' ⟨b, F, rfl, h1, h2, h3⟩
 refine ⟨b, F, rfl, ?_, h2, h3⟩
 unfold firstNod
 rw [if_neg hk, if_pos hk2]
 exact h1
theorem newMas_nod (n k : Nat) (w : World) (hk : ¬ k < n + 3) :
  Calls Try.prog 82 #[.int .i64 (numOf n k)] w fun e w' => ∃ b F, e = .returned (.pointer (some ⟨b, 0, none⟩)) ∧ NodAt w' F b (numOf n k) (firstNod n k) ∧ (∀ z, F z → w.heap.size ≤ z) ∧ Below w.heap.size w w' := by
 refine (masNew_any (numOf n k) w).mono ?_
 rintro e w' ⟨b, F, rfl, h1, h2, h3⟩
 refine ⟨b, F, rfl, ?_, h2, h3⟩
 unfold firstNod
 rw [if_neg (by omega), if_neg hk]
 refine ⟨⟨_, ⟨rfl, rfl, fun e => absurd rfl e, rfl, rfl, fun e => by simp [Mas.still] at e, fun e => by simp [Mas.still] at e, fun e => by simp [Mas.still] at e, fun e => by simp [Mas.still] at e, fun e => by simp [Mas.still] at e, by simp, by simp, by simp⟩, h1⟩, fun e => by simp [Mas.still] at e⟩
theorem Built.keepInts {w0 w w1 w3 : World} {x n k : Nat} {b : Nat → Nat} {Fn : Nat → Nat → Prop} {vs vr va vm v : Value} {l : List Int} (h : Built w0 w x n k b Fn vs vr va vm) (h1 : Below w.heap.size w w1) (hM : Moved w1 w3 (OwnB x vs vr va vm)) (hv : IntOwn w v l) : IntOwn w3 v l := by
 refine hM.owns (owns_kept hv fun z _ hz => h1.block z hz) fun z hz hO => ?_
 rcases hO with e | e | e | e | e
 ·exact blk_type h.blk hv (by decide) (e ▸ hz)
 ·exact owns_two hv h.rs (by decide) z hz e
 ·exact owns_two hv h.rr (by decide) z hz e
 ·exact owns_two hv h.ra (by decide) z hz e
 ·exact owns_two hv h.rm (by decide) z hz e
theorem ptr_app {t e : TypeId} (hinfo : (Try.prog.info? e).map (fun i => (i.zero, i.size, i.bytes)) = some (some (.pointer none), 1, 8)) (hu : Try.prog.underlying t = some (.slice e)) (he : e ≠ 153) (W : World) (x m : Nat) (v : Value) (xs : List Value) (p : Option Addr) (cs : Array Value)
  (hrow : W.ownsRow 0 e 1 v m xs) (hblk : W.heap[x]? = some (.cells cs 153)) (hm : m ≤ 100) :
  ∃ g' cap W2, (∀ ty, (Builtin.append_ #[t, t] ty #[v, .slice (some ⟨W.heap.size, 0, none⟩) 1 1]).run Try.prog (W.alloc (.cells #[.pointer p] e)) = .ok (.slice (some ⟨g', 0, none⟩) (m + 1) cap) W2) ∧ W2.heap[x]? = some (.cells cs 153) ∧ W2.ownsRow 0 e 1 (.slice (some ⟨g', 0, none⟩) (m + 1) cap) (m + 1) (xs ++ [.pointer p]) ∧ Moved W W2 (fun z => v.ownBlock = some z) ∧ Grows W v (.slice (some ⟨g', 0, none⟩) (m + 1) cap) := by
 have hbX : Below W.heap.size W (W.alloc (.cells #[.pointer p] e)) := (Below.refl _ W).alloc (Nat.le_refl _) _
 have hxl : x < W.heap.size := (Array.getElem?_eq_some_iff.1 hblk).1
 obtain ⟨g', cap', W1, hrun, ho1, hg1, hwh⟩ := append_row (t := t) hinfo hu rfl (by decide) (W.alloc (.cells #[.pointer p] e)) 0 v m xs [.pointer p] W.heap.size (owns_kept hrow fun k _ hk => hbX.block k hk) (heap_new _ _) rfl (by intro u hu; rw [List.mem_singleton] at hu; subst hu; rfl) (by omega) (by decide) (Nat.zero_le _)
 have nb : v.ownBlock ≠ some x := blk_type hblk hrow he
 refine ⟨g', cap', W1, hrun, (hg1.block x (by simp; omega) (fun e => nb e.symm)).trans ((hbX.block x hxl).trans hblk), ho1, ((Moved.refl W _).below hbX).grown hg1 (fun k _ e => e), ?_⟩
 intro z hz
 have : g' = z := by simpa [Value.ownBlock] using hz
 subst this
 rcases hwh with h5 | h5
 ·exact .inl h5
 ·exact .inr (by rw [h5]; simp)
theorem Built.stepR {w0 w w1 W2 w3 : World} {x n k : Nat} {b : Nat → Nat} {Fn : Nat → Nat → Prop} {vs vr va vm vs' v' : Value} (h : Built w0 w x n k b Fn vs vr va vm) (b' : Nat) (F' : Nat → Prop) (hk : k < n)
  (h1 : Below w.heap.size w w1) (hN : NodAt w1 F' b' (numOf n k) (firstNod n k)) (hF : ∀ z, F' z → w.heap.size ≤ z)
  (hrow2 : W2.ownsRow 0 155 1 v' (min k n + 1) (ptrs b 0 (min k n) ++ [.pointer (some ⟨b', 0, none⟩)])) (hM2 : Moved w1 W2 (fun z => vr.ownBlock = some z)) (hG2 : Grows w1 vr v') (hx2 : W2.heap[x]? = some (.cells #[vs, vr, va, vm, .slice none 0 0, .slice none 0 0] 153))
  (hblk : w3.heap[x]? = some (.cells #[vs', v', va, vm, .slice none 0 0, .slice none 0 0] 153)) (hrs : w3.ownsRow 0 178 3 vs' (k + 1) ((List.range k).flatMap (staOf n b) ++ [.int .i64 (numOf n k), .int .i64 0, .iface (nodTy (firstNod n k)) (.pointer (some ⟨b', 0, none⟩))]))
  (hM3 : Moved (W2.setCell ⟨x, 1, none⟩ v') w3 (fun z => z = x ∨ vs.ownBlock = some z)) (hG3 : Grows (W2.setCell ⟨x, 1, none⟩ v') vs vs') :
  Built w0 w3 x n (k + 1) (putB b k b') (putF Fn k F') vs' v' va vm ∧ Moved w1 w3 (OwnB x vs vr va vm) := by
 have hs2 := hM2.size
 have hsc : (W2.setCell ⟨x, 1, none⟩ v').heap.size = W2.heap.size := by simp
 have hs3 := hM3.size
 have hrsW : (W2.setCell ⟨x, 1, none⟩ v').ownsRow 0 178 3 vs k ((List.range k).flatMap (staOf n b)) := ownsRow_setCell_other (hM2.owns (owns_kept h.rs fun z _ hz => h1.block z hz) (fun z e e2 => owns_two h.rs h.rr (by decide) z e e2)) (blk_type h.blk h.rs (by decide)) _
 have hrowS : ∀ {base size m : Nat} {e : TypeId} {v : Value} {xs : List Value}, W2.ownsRow base e size v m xs → e ≠ 178 → e ≠ 153 → w3.ownsRow base e size v m xs := by
  intro base size m e v xs hv e1 e2
  have hv2 : (W2.setCell ⟨x, 1, none⟩ v').ownsRow base e size v m xs := ownsRow_setCell_other hv (blk_type hx2 hv e2) _
  refine hM3.owns hv2 fun z hz hS => ?_
  rcases hS with e3 | e3
  ·exact blk_type hx2 hv e2 (e3 ▸ hz)
  ·exact owns_two hv2 hrsW e1 z hz e3
 have hrow3 : ∀ {base size m : Nat} {e : TypeId} {v : Value} {xs : List Value}, w.ownsRow base e size v m xs → e ≠ 178 → e ≠ 153 → e ≠ 155 → w3.ownsRow base e size v m xs := by
  intro base size m e v xs hv e1 e2 e3
  exact hrowS (hM2.owns (owns_kept hv fun z _ hz => h1.block z hz) (fun z e4 e5 => owns_two hv h.rr e3 z e4 e5)) e1 e2
 have hMM : Moved w1 w3 (OwnB x vs vr va vm) := by
  refine ((hM2.wider (fun z (e : vr.ownBlock = some z) => .inr (.inr (.inl e)))).setCell ⟨x, 1, none⟩ (.inl rfl) v').trans hM3 (fun z _ hS => ?_)
  rcases hS with e | e
  ·exact .inl e
  ·exact .inr (.inl e)
 refine ⟨h.step b' F' h1 hN hF hMM ?_ hblk hrs (by
   have e1 : min (k + 1) n = min k n + 1 := by omega
   have e2 : 0 + (min k n) = k := by omega
   rw [e1, ptrs_snoc, ptrs_same (putB b k b') b 0 (min k n) (fun i hi => by unfold putB; rw [if_neg (by omega)])]
   have e3 : putB b k b' (0 + (min k n)) = b' := by unfold putB; rw [if_pos e2]
   rw [e3]
   exact hrowS hrow2 (by decide) (by decide)) (by
   have e1 : min (k + 1 - n) 3 = min (k - n) 3 := by omega
   rw [e1, ptrs_same (putB b k b') b n (min (k - n) 3) (fun i hi => by unfold putB; rw [if_neg (by omega)])]
   exact hrow3 h.ra (by decide) (by decide) (by decide)) (by
   have e1 : k + 1 - n - 3 = k - n - 3 := by omega
   rw [e1, ptrs_same (putB b k b') b (n + 3) (k - n - 3) (fun i hi => by unfold putB; rw [if_neg (by omega)])]
   exact hrow3 h.rm (by decide) (by decide) (by decide)), hMM⟩
 ·intro z hz
  have kv : v'.ownBlock = some z → OwnB x vs vr va vm z ∨ w1.heap.size ≤ z := fun e => (hG2 z e).imp (fun e => .inr (.inr (.inl e))) id
  have ks : vs'.ownBlock = some z → OwnB x vs vr va vm z ∨ w1.heap.size ≤ z := fun e => (hG3 z e).imp (fun e => .inr (.inl e)) (fun e => by omega)
  rcases hz with e | e | e | e | e
  ·exact .inl (.inl e)
  ·exact ks e
  ·exact kv e
  ·exact .inl (.inr (.inr (.inr (.inl e))))
  ·exact .inl (.inr (.inr (.inr (.inr e))))
theorem Built.stepA {w0 w w1 W2 w3 : World} {x n k : Nat} {b : Nat → Nat} {Fn : Nat → Nat → Prop} {vs vr va vm vs' v' : Value} (h : Built w0 w x n k b Fn vs vr va vm) (b' : Nat) (F' : Nat → Prop) (hk : ¬ k < n) (hk2 : k < n + 3)
  (h1 : Below w.heap.size w w1) (hN : NodAt w1 F' b' (numOf n k) (firstNod n k)) (hF : ∀ z, F' z → w.heap.size ≤ z)
  (hrow2 : W2.ownsRow 0 158 1 v' (min (k - n) 3 + 1) (ptrs b n (min (k - n) 3) ++ [.pointer (some ⟨b', 0, none⟩)])) (hM2 : Moved w1 W2 (fun z => va.ownBlock = some z)) (hG2 : Grows w1 va v') (hx2 : W2.heap[x]? = some (.cells #[vs, vr, va, vm, .slice none 0 0, .slice none 0 0] 153))
  (hblk : w3.heap[x]? = some (.cells #[vs', vr, v', vm, .slice none 0 0, .slice none 0 0] 153)) (hrs : w3.ownsRow 0 178 3 vs' (k + 1) ((List.range k).flatMap (staOf n b) ++ [.int .i64 (numOf n k), .int .i64 0, .iface (nodTy (firstNod n k)) (.pointer (some ⟨b', 0, none⟩))]))
  (hM3 : Moved (W2.setCell ⟨x, 2, none⟩ v') w3 (fun z => z = x ∨ vs.ownBlock = some z)) (hG3 : Grows (W2.setCell ⟨x, 2, none⟩ v') vs vs') :
  Built w0 w3 x n (k + 1) (putB b k b') (putF Fn k F') vs' vr v' vm ∧ Moved w1 w3 (OwnB x vs vr va vm) := by
 have hs2 := hM2.size
 have hsc : (W2.setCell ⟨x, 2, none⟩ v').heap.size = W2.heap.size := by simp
 have hs3 := hM3.size
 have hrsW : (W2.setCell ⟨x, 2, none⟩ v').ownsRow 0 178 3 vs k ((List.range k).flatMap (staOf n b)) := ownsRow_setCell_other (hM2.owns (owns_kept h.rs fun z _ hz => h1.block z hz) (fun z e e2 => owns_two h.rs h.ra (by decide) z e e2)) (blk_type h.blk h.rs (by decide)) _
 have hrowS : ∀ {base size m : Nat} {e : TypeId} {v : Value} {xs : List Value}, W2.ownsRow base e size v m xs → e ≠ 178 → e ≠ 153 → w3.ownsRow base e size v m xs := by
  intro base size m e v xs hv e1 e2
  have hv2 : (W2.setCell ⟨x, 2, none⟩ v').ownsRow base e size v m xs := ownsRow_setCell_other hv (blk_type hx2 hv e2) _
  refine hM3.owns hv2 fun z hz hS => ?_
  rcases hS with e3 | e3
  ·exact blk_type hx2 hv e2 (e3 ▸ hz)
  ·exact owns_two hv2 hrsW e1 z hz e3
 have hrow3 : ∀ {base size m : Nat} {e : TypeId} {v : Value} {xs : List Value}, w.ownsRow base e size v m xs → e ≠ 178 → e ≠ 153 → e ≠ 158 → w3.ownsRow base e size v m xs := by
  intro base size m e v xs hv e1 e2 e3
  exact hrowS (hM2.owns (owns_kept hv fun z _ hz => h1.block z hz) (fun z e4 e5 => owns_two hv h.ra e3 z e4 e5)) e1 e2
 have hMM : Moved w1 w3 (OwnB x vs vr va vm) := by
  refine ((hM2.wider (fun z (e : va.ownBlock = some z) => .inr (.inr (.inr (.inl e))))).setCell ⟨x, 2, none⟩ (.inl rfl) v').trans hM3 (fun z _ hS => ?_)
  rcases hS with e | e
  ·exact .inl e
  ·exact .inr (.inl e)
 refine ⟨h.step b' F' h1 hN hF hMM ?_ hblk hrs (by
   have e1 : min (k + 1) n = min k n := by omega
   rw [e1, ptrs_same (putB b k b') b 0 (min k n) (fun i hi => by unfold putB; rw [if_neg (by omega)])]
   exact hrow3 h.rr (by decide) (by decide) (by decide)) (by
   have e1 : min (k + 1 - n) 3 = min (k - n) 3 + 1 := by omega
   have e2 : n + (min (k - n) 3) = k := by omega
   rw [e1, ptrs_snoc, ptrs_same (putB b k b') b n (min (k - n) 3) (fun i hi => by unfold putB; rw [if_neg (by omega)])]
   have e3 : putB b k b' (n + (min (k - n) 3)) = b' := by unfold putB; rw [if_pos e2]
   rw [e3]
   exact hrowS hrow2 (by decide) (by decide)) (by
   have e1 : k + 1 - n - 3 = k - n - 3 := by omega
   rw [e1, ptrs_same (putB b k b') b (n + 3) (k - n - 3) (fun i hi => by unfold putB; rw [if_neg (by omega)])]
   exact hrow3 h.rm (by decide) (by decide) (by decide)), hMM⟩
 ·intro z hz
  have kv : v'.ownBlock = some z → OwnB x vs vr va vm z ∨ w1.heap.size ≤ z := fun e => (hG2 z e).imp (fun e => .inr (.inr (.inr (.inl e)))) id
  have ks : vs'.ownBlock = some z → OwnB x vs vr va vm z ∨ w1.heap.size ≤ z := fun e => (hG3 z e).imp (fun e => .inr (.inl e)) (fun e => by omega)
  rcases hz with e | e | e | e | e
  ·exact .inl (.inl e)
  ·exact ks e
  ·exact .inl (.inr (.inr (.inl e)))
  ·exact kv e
  ·exact .inl (.inr (.inr (.inr (.inr e))))
theorem Built.stepM {w0 w w1 W2 w3 : World} {x n k : Nat} {b : Nat → Nat} {Fn : Nat → Nat → Prop} {vs vr va vm vs' v' : Value} (h : Built w0 w x n k b Fn vs vr va vm) (b' : Nat) (F' : Nat → Prop) (hk : ¬ k < n + 3)
  (h1 : Below w.heap.size w w1) (hN : NodAt w1 F' b' (numOf n k) (firstNod n k)) (hF : ∀ z, F' z → w.heap.size ≤ z)
  (hrow2 : W2.ownsRow 0 160 1 v' (k - n - 3 + 1) (ptrs b (n + 3) (k - n - 3) ++ [.pointer (some ⟨b', 0, none⟩)])) (hM2 : Moved w1 W2 (fun z => vm.ownBlock = some z)) (hG2 : Grows w1 vm v') (hx2 : W2.heap[x]? = some (.cells #[vs, vr, va, vm, .slice none 0 0, .slice none 0 0] 153))
  (hblk : w3.heap[x]? = some (.cells #[vs', vr, va, v', .slice none 0 0, .slice none 0 0] 153)) (hrs : w3.ownsRow 0 178 3 vs' (k + 1) ((List.range k).flatMap (staOf n b) ++ [.int .i64 (numOf n k), .int .i64 0, .iface (nodTy (firstNod n k)) (.pointer (some ⟨b', 0, none⟩))]))
  (hM3 : Moved (W2.setCell ⟨x, 3, none⟩ v') w3 (fun z => z = x ∨ vs.ownBlock = some z)) (hG3 : Grows (W2.setCell ⟨x, 3, none⟩ v') vs vs') :
  Built w0 w3 x n (k + 1) (putB b k b') (putF Fn k F') vs' vr va v' ∧ Moved w1 w3 (OwnB x vs vr va vm) := by
 have hs2 := hM2.size
 have hsc : (W2.setCell ⟨x, 3, none⟩ v').heap.size = W2.heap.size := by simp
 have hs3 := hM3.size
 have hrsW : (W2.setCell ⟨x, 3, none⟩ v').ownsRow 0 178 3 vs k ((List.range k).flatMap (staOf n b)) := ownsRow_setCell_other (hM2.owns (owns_kept h.rs fun z _ hz => h1.block z hz) (fun z e e2 => owns_two h.rs h.rm (by decide) z e e2)) (blk_type h.blk h.rs (by decide)) _
 have hrowS : ∀ {base size m : Nat} {e : TypeId} {v : Value} {xs : List Value}, W2.ownsRow base e size v m xs → e ≠ 178 → e ≠ 153 → w3.ownsRow base e size v m xs := by
  intro base size m e v xs hv e1 e2
  have hv2 : (W2.setCell ⟨x, 3, none⟩ v').ownsRow base e size v m xs := ownsRow_setCell_other hv (blk_type hx2 hv e2) _
  refine hM3.owns hv2 fun z hz hS => ?_
  rcases hS with e3 | e3
  ·exact blk_type hx2 hv e2 (e3 ▸ hz)
  ·exact owns_two hv2 hrsW e1 z hz e3
 have hrow3 : ∀ {base size m : Nat} {e : TypeId} {v : Value} {xs : List Value}, w.ownsRow base e size v m xs → e ≠ 178 → e ≠ 153 → e ≠ 160 → w3.ownsRow base e size v m xs := by
  intro base size m e v xs hv e1 e2 e3
  exact hrowS (hM2.owns (owns_kept hv fun z _ hz => h1.block z hz) (fun z e4 e5 => owns_two hv h.rm e3 z e4 e5)) e1 e2
 have hMM : Moved w1 w3 (OwnB x vs vr va vm) := by
  refine ((hM2.wider (fun z (e : vm.ownBlock = some z) => .inr (.inr (.inr (.inr e))))).setCell ⟨x, 3, none⟩ (.inl rfl) v').trans hM3 (fun z _ hS => ?_)
  rcases hS with e | e
  ·exact .inl e
  ·exact .inr (.inl e)
 refine ⟨h.step b' F' h1 hN hF hMM ?_ hblk hrs (by
   have e1 : min (k + 1) n = min k n := by omega
   rw [e1, ptrs_same (putB b k b') b 0 (min k n) (fun i hi => by unfold putB; rw [if_neg (by omega)])]
   exact hrow3 h.rr (by decide) (by decide) (by decide)) (by
   have e1 : min (k + 1 - n) 3 = min (k - n) 3 := by omega
   rw [e1, ptrs_same (putB b k b') b n (min (k - n) 3) (fun i hi => by unfold putB; rw [if_neg (by omega)])]
   exact hrow3 h.ra (by decide) (by decide) (by decide)) (by
   have e1 : k + 1 - n - 3 = k - n - 3 + 1 := by omega
   have e2 : (n + 3) + (k - n - 3) = k := by omega
   rw [e1, ptrs_snoc, ptrs_same (putB b k b') b (n + 3) (k - n - 3) (fun i hi => by unfold putB; rw [if_neg (by omega)])]
   have e3 : putB b k b' ((n + 3) + (k - n - 3)) = b' := by unfold putB; rw [if_pos e2]
   rw [e3]
   exact hrowS hrow2 (by decide) (by decide)), hMM⟩
 ·intro z hz
  have kv : v'.ownBlock = some z → OwnB x vs vr va vm z ∨ w1.heap.size ≤ z := fun e => (hG2 z e).imp (fun e => .inr (.inr (.inr (.inr e)))) id
  have ks : vs'.ownBlock = some z → OwnB x vs vr va vm z ∨ w1.heap.size ≤ z := fun e => (hG3 z e).imp (fun e => .inr (.inl e)) (fun e => by omega)
  rcases hz with e | e | e | e | e
  ·exact .inl (.inl e)
  ·exact ks e
  ·exact .inl (.inr (.inr (.inl e)))
  ·exact .inl (.inr (.inr (.inr (.inl e))))
  ·exact kv e
end Go.Proofs.Ytgieeeeeiggoeaa
