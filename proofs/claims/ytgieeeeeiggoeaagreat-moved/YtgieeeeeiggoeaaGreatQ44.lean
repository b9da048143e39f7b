import Derived.Test.YtgieeeeeiggoeaaGreatQ43
namespace Go.Proofs.YtgieeeeeiggoeaaGreat
open Go.RowKit Go.Shelf
theorem CluIn.bagAfter {w w' : World} {F : Nat → Prop} {x gs cap : Nat} {c : Clu} {b : Nat → Nat} {Fn : Nat → Nat → Prop} {vr va vm vb vt : Value} (h : CluIn w F x gs cap c b Fn vr va vm vb vt) (l : List (List UInt8 × Bool)) (hB : BagTo w w' x (.slice (some ⟨gs,0,none⟩) (c.reps.length + 5) cap) vr va vm vb vt l) : CAfter w F x { c with bag := l } w' := by
 obtain ⟨vb',h2,h3,h4⟩ := h.bagTo l hB
 exact ⟨_,⟨gs,cap,b,_,vr,va,vm,vb',vt,h2⟩,h3,h4⟩
set_option maxRecDepth 100000 in
theorem cluDrop_any {w : World} {F : Nat → Prop} {x : Nat} {c : Clu} {E : Int} {g : Gh} (d : Int) (h : CAt w F x c) (hg : Good c E g) :
  Calls Tryz.prog 78 #[.pointer (some ⟨x,0,none⟩), .int .i64 d] w fun r w' => r = .returned (.int .i64 (c.drop d).2) ∧ CAfter w F x (c.drop d).1 w' := by
 have HA := hideA h
 obtain ⟨gs,cap,b,Fn,vr,va,vm,vb,vt,h⟩ := h
 have hf := bagHas_any x _ vr va vm vb vt c.bag d w h.bag
 by_cases hh : c.hasFrame d
 ·have e : decide (0 ≤ d ∧ d < (c.bag.length : Int)) = true := decide_eq_true hh
  rw [e] at hf
  have hd : d = ((d.toNat : Nat) : Int) := by have := hh.1; omega
  have H : Hid (c.drop d = ({ c with bag := c.bag.eraseIdx d.toNat },0)) := hideA (by unfold Clu.drop; rw [if_pos hh]; rfl)
  have HT := hideA (bagTake_any x _ vr va vm vb vt c.bag d.toNat w h.bag (by have := hh.1; have := hh.2; omega) hg.bag)
  have HI := hideA h
  rw [← hd] at HT
  clear h e hd
  go_enter Tryz.func78,Tryz.ntmps78
  go_wp2_with fail
  refine hf.mono ?_
  rintro e w1 ⟨rfl,rfl⟩
  clear hf
  go_wp2_with fail
  refine HT.out.mono ?_
  rintro e W ⟨rfl,hB⟩
  have HB := hideA hB
  clear hB
  go_wp2_with fail
  go_ret
  rw [H.out]
  exact ⟨rfl,HI.out.bagAfter _ HB.out⟩
 ·have e : decide (0 ≤ d ∧ d < (c.bag.length : Int)) = false := decide_eq_false hh
  rw [e] at hf
  have H : Hid (c.drop d = (c,8)) := hideA (by unfold Clu.drop; rw [if_neg hh])
  clear h e
  go_enter Tryz.func78,Tryz.ntmps78
  go_wp2_with fail
  refine hf.mono ?_
  rintro e w1 ⟨rfl,rfl⟩
  clear hf
  go_wp2_with fail
  go_ret
  rw [H.out]
  exact ⟨rfl,CAfter.still HA.out (Below.refl _ _)⟩
theorem double_put (c : Clu) (hb : c.bag.length ≤ 200) (f : List UInt8 × Bool) : (c.bag ++ [f]).take 200 = putOne c.bag f := by
 unfold putOne
 split
 ·rw [List.take_of_length_le (by simp; omega)]
 ·rw [List.take_append_of_le_length (by omega),List.take_of_length_le hb]
set_option maxRecDepth 100000 in
theorem cluDouble_any {w : World} {F : Nat → Prop} {x : Nat} {c : Clu} {E : Int} {g : Gh} (d : Int) (h : CAt w F x c) (hg : Good c E g) :
  Calls Tryz.prog 79 #[.pointer (some ⟨x,0,none⟩), .int .i64 d] w fun r w' => r = .returned (.int .i64 (c.double d).2) ∧ CAfter w F x (c.double d).1 w' := by
 have HA := hideA h
 obtain ⟨gs,cap,b,Fn,vr,va,vm,vb,vt,h⟩ := h
 have hf := bagHas_any x _ vr va vm vb vt c.bag d w h.bag
 by_cases hh : c.hasFrame d
 ·have e : decide (0 ≤ d ∧ d < (c.bag.length : Int)) = true := decide_eq_true hh
  rw [e] at hf
  have hd : d = ((d.toNat : Nat) : Int) := by have := hh.1; omega
  have H : Hid (c.double d = ({ c with bag := putOne c.bag (c.bag.getD d.toNat ([],false)) },0)) := hideA (by unfold Clu.double; rw [if_pos hh,double_put c hg.bag]; rfl)
  have HT := hideA (bagDouble_any x _ vr va vm vb vt c.bag d.toNat w h.bag (by have := hh.1; have := hh.2; omega) hg.bag)
  have HI := hideA h
  rw [← hd] at HT
  clear h e hd
  go_enter Tryz.func79,Tryz.ntmps79
  go_wp2_with fail
  refine hf.mono ?_
  rintro e w1 ⟨rfl,rfl⟩
  clear hf
  go_wp2_with fail
  refine HT.out.mono ?_
  rintro e W ⟨⟨v,rfl⟩,hB⟩
  have HB := hideA hB
  clear hB
  go_wp2_with fail
  go_ret
  rw [H.out]
  exact ⟨rfl,HI.out.bagAfter _ HB.out⟩
 ·have e : decide (0 ≤ d ∧ d < (c.bag.length : Int)) = false := decide_eq_false hh
  rw [e] at hf
  have H : Hid (c.double d = (c,8)) := hideA (by unfold Clu.double; rw [if_neg hh])
  clear h e
  go_enter Tryz.func79,Tryz.ntmps79
  go_wp2_with fail
  refine hf.mono ?_
  rintro e w1 ⟨rfl,rfl⟩
  clear hf
  go_wp2_with fail
  go_ret
  rw [H.out]
  exact ⟨rfl,CAfter.still HA.out (Below.refl _ _)⟩
set_option maxRecDepth 100000 in
theorem cluBag_any {w : World} {F : Nat → Prop} {x : Nat} {c : Clu} (h : CAt w F x c) (hg : c.bag.length ≤ 200) :
  Calls Tryz.prog 61 #[.pointer (some ⟨x,0,none⟩)] w fun r w' => ∃ v,r = .returned v ∧ w'.ownsRow w.heap.size 9 1 v c.bag.length (bagV c.bag) ∧ Below w.heap.size w w' := by
 obtain ⟨gs,cap,b,Fn,vr,va,vm,vb,vt,h⟩ := h
 have HL := hideA (bagList_any x _ vr va vm vb vt c.bag w h.bag hg)
 clear h
 go_enter Tryz.func61,Tryz.ntmps61
 go_wp2_with fail
 refine HL.out.mono ?_
 rintro e W ⟨v,rfl,h1,h2⟩
 obtain ⟨a9,c9,rfl⟩ := owns_shape h1
 have H1 := hideA h1
 clear h1
 go_wp2_with fail
 go_ret
 exact ⟨_,rfl,H1.out,h2⟩
set_option maxRecDepth 100000 in
theorem cluAnswers_any {w : World} {F : Nat → Prop} {x : Nat} {c : Clu} (h : CAt w F x c) (hg : c.told.length ≤ 3000000000000) :
  Calls Tryz.prog 103 #[.pointer (some ⟨x,0,none⟩)] w fun r w' => ∃ v,r = .returned v ∧ w'.ownsRow w.heap.size 113 3 v c.told.length (ints (ansNums c.told)) ∧ Below w.heap.size w w' := by
 obtain ⟨gs,cap,b,Fn,vr,va,vm,vb,vt,h⟩ := h
 have HC := hideA (clone_anss vt c.told.length (ints (ansNums c.told)) w (CellsAt.of_owns h.rt) (by rw [ints_length,ansNums_length]) (ints_one _) hg)
 obtain ⟨at',ct,rfl⟩ := owns_shape h.rt
 have c5 := cell_of_heap h.bag.blk 5
 clear h
 go_enter Tryz.func103,Tryz.ntmps103
 go_wp2_with fail
 refine HC.out.mono ?_
 rintro e W ⟨v,rfl,h1,h2⟩
 obtain ⟨a9,c9,rfl⟩ := owns_shape h1
 have H1 := hideA h1
 clear h1
 go_wp2_with fail
 go_ret
 exact ⟨_,rfl,H1.out,h2⟩
theorem infoSta : (Tryz.prog.info? 183).map (fun i => (i.zero,i.size,i.bytes)) = some (some (.agg #[.int .i64 0, .int .i64 0, .nilIface]),3,32) := by kernel_rfl
theorem infoPR : (Tryz.prog.info? 129).map (fun i => (i.zero,i.size,i.bytes)) = some (some (.pointer none),1,8) := by kernel_rfl
theorem infoPA : (Tryz.prog.info? 99).map (fun i => (i.zero,i.size,i.bytes)) = some (some (.pointer none),1,8) := by kernel_rfl
theorem infoPM : (Tryz.prog.info? 81).map (fun i => (i.zero,i.size,i.bytes)) = some (some (.pointer none),1,8) := by kernel_rfl
set_option maxRecDepth 100000 in
set_option maxHeartbeats 1000000 in
theorem add_any (x k : Nat) (vs a1 a2 a3 a4 a5 : Value) (xs : List Value) (num : Int) (ty : TypeId) (q : Option Addr) (w : World) (hblk : w.heap[x]? = some (.cells #[vs,a1,a2,a3,a4,a5] 93)) (hrow : w.ownsRow 0 183 3 vs k xs) (hk : k ≤ 100) :
  Calls Tryz.prog 108 #[.pointer (some ⟨x,0,none⟩), .int .i64 num, .iface ty (.pointer q)] w fun e w' => (∃ v,e = .returned v) ∧ ∃ vs',w'.heap[x]? = some (.cells #[vs',a1,a2,a3,a4,a5] 93) ∧ w'.ownsRow 0 183 3 vs' (k + 1) (xs ++ [.int .i64 num, .int .i64 0, .iface ty (.pointer q)]) ∧ Moved w w' (fun z => z = x ∨ vs.ownBlock = some z) ∧ Grows w vs vs' := by
 obtain ⟨ab,cb,rfl⟩ := owns_shape hrow
 have c0 := cell_of_heap hblk 0
 have hxl : x < w.heap.size := (Array.getElem?_eq_some_iff.1 hblk).1
 obtain ⟨X,hX⟩ : ∃ X,X = w.alloc (.cells #[.int .i64 num, .int .i64 0, .iface ty (.pointer q)] 183) := ⟨_,rfl⟩
 have hbX : Below w.heap.size w X := by rw [hX]; exact (Below.refl _ w).alloc (Nat.le_refl _) _
 have hsX : X.heap.size = w.heap.size + 1 := by rw [hX]; simp
 have hrX : X.ownsRow 0 183 3 (.slice ab k cb) k xs := owns_kept hrow fun k _ hk => hbX.block k hk
 obtain ⟨g',cap',W1,hrun,ho1,hg1,hwh⟩ := append_row (t := 84) infoSta Tryz.underlying84 rfl (by decide) X 0 (.slice ab k cb) k xs [.int .i64 num, .int .i64 0, .iface ty (.pointer q)] w.heap.size hrX (by rw [hX]; exact heap_new _ _) rfl (by intro u hu; simp at hu; rcases hu with rfl | rfl | rfl <;> rfl) (by omega) (by decide) (Nat.zero_le _)
 have nb : (Value.slice ab k cb).ownBlock ≠ some x := blk_type hblk hrow (by decide)
 have hxW : W1.heap[x]? = some (.cells #[.slice ab k cb,a1,a2,a3,a4,a5] 93) := (hg1.block x (by omega) (fun e => nb e.symm)).trans ((hbX.block x hxl).trans hblk)
 have d0 := cell_of_heap hxW 0
 have e0 := frozen_of_heap hxW 0
 have M1 : Moved w W1 (fun z => z = x ∨ (Value.slice ab k cb).ownBlock = some z) := ((Moved.refl w _).below hbX).grown hg1 (fun k _ e => .inr e)
 have HR := hideA hrun
 rw [hX] at HR
 have HF : Hid (∃ vs',(W1.setCell ⟨x,0,none⟩ (.slice (some ⟨g',0,none⟩) (k + 1) cap')).heap[x]? = some (.cells #[vs',a1,a2,a3,a4,a5] 93) ∧ (W1.setCell ⟨x,0,none⟩ (.slice (some ⟨g',0,none⟩) (k + 1) cap')).ownsRow 0 183 3 vs' (k + 1) (xs ++ [.int .i64 num, .int .i64 0, .iface ty (.pointer q)]) ∧ Moved w (W1.setCell ⟨x,0,none⟩ (.slice (some ⟨g',0,none⟩) (k + 1) cap')) (fun z => z = x ∨ (Value.slice ab k cb).ownBlock = some z) ∧ Grows w (.slice ab k cb) vs') := hideA (by
  refine ⟨_,set6_0 _ hxW,ownsRow_setCell_other ho1 (blk_type hxW ho1 (by decide)) _,M1.setCell ⟨x,0,none⟩ (.inl rfl) _, ?_⟩
  intro z hz
  have : g' = z := by simpa [Value.ownBlock] using hz
  subst this
  rcases hwh with h5 | h5
  ·exact .inl h5
  ·exact .inr (by omega))
 clear hrun ho1 hg1 hwh hrX M1 hX hbX hsX hxW
 go_enter Tryz.func108,Tryz.ntmps108
 go_wp2_with (at_builtin; refine wpList_append_run rfl (.tmp 10) (.tmp 14) 84 rfl _ _ _ _ (by simp [Act.eval]) (by simp [Act.eval]) HR.out ?_)
 go_wp2_with fail
 go_end0
 exact ⟨⟨_,rfl⟩,HF.out⟩
def firstNod (n j : Nat) : Nod := if j < n then .rep (Rep.first n) else if j < n + 3 then .acc (Acc.first n) else .mas (Mas.still true 0)
def staOf (n : Nat) (b : Nat → Nat) (j : Nat) : List Value := [.int .i64 (numOf n j), .int .i64 0, .iface (nodTy (firstNod n j)) (.pointer (some ⟨b j,0,none⟩))]
def OwnB (x : Nat) (vs vr va vm : Value) (k : Nat) : Prop := k = x ∨ vs.ownBlock = some k ∨ vr.ownBlock = some k ∨ va.ownBlock = some k ∨ vm.ownBlock = some k
structure Built (w0 w : World) (x n k : Nat) (b : Nat → Nat) (Fn : Nat → Nat → Prop) (vs vr va vm : Value) : Prop where
 blk : w.heap[x]? = some (.cells #[vs,vr,va,vm, .slice none 0 0, .slice none 0 0] 93)
 rs : w.ownsRow 0 183 3 vs k ((List.range k).flatMap (staOf n b))
 rr : w.ownsRow 0 129 1 vr (min k n) (ptrs b 0 (min k n))
 ra : w.ownsRow 0 99 1 va (min (k - n) 3) (ptrs b n (min (k - n) 3))
 rm : w.ownsRow 0 81 1 vm (k - n - 3) (ptrs b (n + 3) (k - n - 3))
 nod : ∀ j,j < k → NodAt w (Fn j) (b j) (numOf n j) (firstNod n j)
 sep : ∀ i j,i < k → j < k → i ≠ j → ∀ z,Fn i z → ¬ Fn j z
 off : ∀ j,j < k → ∀ z,Fn j z → ¬ OwnB x vs vr va vm z
 newO : ∀ z,OwnB x vs vr va vm z → w0.heap.size ≤ z
 newN : ∀ j,j < k → ∀ z,Fn j z → w0.heap.size ≤ z
 bel : Below w0.heap.size w0 w
theorem ptrs_snoc (b : Nat → Nat) (s m : Nat) : ptrs b s (m + 1) = ptrs b s m ++ [.pointer (some ⟨b (s + m),0,none⟩)] := by
 unfold ptrs
 rw [List.range_succ,List.map_append]
 rfl
theorem ptrs_same (b b' : Nat → Nat) (s m : Nat) (h : ∀ i,i < m → b (s + i) = b' (s + i)) : ptrs b s m = ptrs b' s m := by
 unfold ptrs
 refine List.map_congr_left fun i hi => ?_
 rw [h i (List.mem_range.1 hi)]
theorem sta_snoc (n : Nat) (b : Nat → Nat) (k : Nat) : (List.range (k + 1)).flatMap (staOf n b) = (List.range k).flatMap (staOf n b) ++ staOf n b k := by
 rw [List.range_succ,List.flatMap_append]
 simp
theorem sta_same (n : Nat) (b b' : Nat → Nat) (k : Nat) (h : ∀ i,i < k → b i = b' i) : (List.range k).flatMap (staOf n b) = (List.range k).flatMap (staOf n b') := by
 rw [List.flatMap_def,List.flatMap_def]
 congr 1
 refine List.map_congr_left fun i hi => ?_
 unfold staOf
 rw [h i (List.mem_range.1 hi)]
def putB (b : Nat → Nat) (k v : Nat) (i : Nat) : Nat := if i = k then v else b i
def putF (Fn : Nat → Nat → Prop) (k : Nat) (F : Nat → Prop) (i : Nat) : Nat → Prop := if i = k then F else Fn i
theorem Built.step {w0 w w1 w3 : World} {x n k : Nat} {b : Nat → Nat} {Fn : Nat → Nat → Prop} {vs vr va vm vs' vr' va' vm' : Value} (h : Built w0 w x n k b Fn vs vr va vm) (b' : Nat) (F' : Nat → Prop)
  (h1 : Below w.heap.size w w1) (hN : NodAt w1 F' b' (numOf n k) (firstNod n k)) (hF : ∀ z,F' z → w.heap.size ≤ z)
  (hM : Moved w1 w3 (OwnB x vs vr va vm)) (hG : ∀ z,OwnB x vs' vr' va' vm' z → OwnB x vs vr va vm z ∨ w1.heap.size ≤ z)
  (hblk : w3.heap[x]? = some (.cells #[vs',vr',va',vm', .slice none 0 0, .slice none 0 0] 93))
  (hrs : w3.ownsRow 0 183 3 vs' (k + 1) ((List.range k).flatMap (staOf n b) ++ [.int .i64 (numOf n k), .int .i64 0, .iface (nodTy (firstNod n k)) (.pointer (some ⟨b',0,none⟩))]))
  (hrr : w3.ownsRow 0 129 1 vr' (min (k + 1) n) (ptrs (putB b k b') 0 (min (k + 1) n)))
  (hra : w3.ownsRow 0 99 1 va' (min (k + 1 - n) 3) (ptrs (putB b k b') n (min (k + 1 - n) 3)))
  (hrm : w3.ownsRow 0 81 1 vm' (k + 1 - n - 3) (ptrs (putB b k b') (n + 3) (k + 1 - n - 3))) :
  Built w0 w3 x n (k + 1) (putB b k b') (putF Fn k F') vs' vr' va' vm' := by
 have hs0 := h.bel.size
 have hs1 := h1.size
 have hs3 := hM.size
 have hO : ∀ z,OwnB x vs vr va vm z → z < w.heap.size := by
  intro z hz
  have key : ∀ {base size n : Nat} {e : TypeId} {v : Value} {xs : List Value},w.ownsRow base e size v n xs → v.ownBlock = some z → z < w.heap.size := fun hr e => (Array.getElem?_eq_some_iff.1 (ownBlock_cells hr e).choose_spec.1).1
  rcases hz with e | e | e | e | e
  ·rw [e]; exact (Array.getElem?_eq_some_iff.1 h.blk).1
  ·exact key h.rs e
  ·exact key h.rr e
  ·exact key h.ra e
  ·exact key h.rm e
 have hold : ∀ j,j < k → ∀ z,Fn j z → z < w.heap.size := fun j hj z hz => (h.nod j hj).lt hz
 have hF1 : ∀ z,F' z → z < w1.heap.size := fun z hz => hN.lt hz
 refine ⟨hblk, ?_,hrr,hra,hrm, ?_, ?_, ?_, ?_, ?_, ?_⟩
 ·rw [sta_snoc,sta_same n (putB b k b') b k (fun i hi => by unfold putB; rw [if_neg (by omega)])]
  have : staOf n (putB b k b') k = [.int .i64 (numOf n k), .int .i64 0, .iface (nodTy (firstNod n k)) (.pointer (some ⟨b',0,none⟩))] := by unfold staOf putB; rw [if_pos rfl]
  rw [this]
  exact hrs
 ·intro j hj
  unfold putB putF
  by_cases e : j = k
  ·subst e
   rw [if_pos rfl,if_pos rfl]
   exact hN.keep fun z hz => hM.block z (hF1 z hz) (fun e2 => by have := hO z e2; have := hF z hz; omega)
  ·rw [if_neg e,if_neg e]
   have hj' : j < k := by omega
   exact (h.nod j hj').keep fun z hz => (hM.block z (by have := hold j hj' z hz; omega) (h.off j hj' z hz)).trans (h1.block z (hold j hj' z hz))
 ·intro i j hi hj hne z hz hz2
  unfold putF at hz hz2
  by_cases e : i = k
  ·subst e
   rw [if_pos rfl] at hz
   rw [if_neg (Ne.symm hne)] at hz2
   have := hF z hz
   have := hold j (by omega) z hz2
   omega
  ·rw [if_neg e] at hz
   by_cases e2 : j = k
   ·subst e2
    rw [if_pos rfl] at hz2
    have := hF z hz2
    have := hold i (by omega) z hz
    omega
   ·rw [if_neg e2] at hz2
    exact h.sep i j (by omega) (by omega) hne z hz hz2
 ·intro j hj z hz hz2
  unfold putF at hz
  rcases hG z hz2 with q | q
  ·by_cases e : j = k
   ·rw [if_pos e] at hz
    have := hF z hz
    have := hO z q
    omega
   ·rw [if_neg e] at hz
    exact h.off j (by omega) z hz q
  ·by_cases e : j = k
   ·rw [if_pos e] at hz
    have := hF1 z hz
    omega
   ·rw [if_neg e] at hz
    have := hold j (by omega) z hz
    omega
 ·intro z hz
  rcases hG z hz with q | q
  ·exact h.newO z q
  ·omega
 ·intro j hj z hz
  unfold putF at hz
  by_cases e : j = k
  ·rw [if_pos e] at hz
   have := hF z hz
   omega
  ·rw [if_neg e] at hz
   exact h.newN j (by omega) z hz
 ·exact (h.bel.trans (h1.mono hs0)).trans ((hM.to_below (fun z hz => h.newO z hz) (by omega)))
theorem run_first (n : Nat) : runOf 0 n = firstInts n := by
 unfold runOf firstInts
 refine List.map_congr_left fun i _ => ?_
 simp
theorem run_len (a : Int) (n : Nat) : (runOf a n).length = n := by unfold runOf; simp
theorem newRep_nod (n k : Nat) (v : Value) (w : World) (hk : k < n) (hv : IntOwn w v (firstInts n)) (hn : n ≤ 5) :
  Calls Tryz.prog 107 #[.int .i64 (numOf n k),v] w fun e w' => ∃ b F,e = .returned (.pointer (some ⟨b,0,none⟩)) ∧ NodAt w' F b (numOf n k) (firstNod n k) ∧ (∀ z,F z → w.heap.size ≤ z) ∧ Below w.heap.size w w' := by
 refine (repNew_any (numOf n k) (firstInts n) v w hv (by simp [firstInts]; omega)).mono ?_
 rintro e w' ⟨b,vm,rfl,h1,h2,h3,h4⟩
 refine ⟨b,fun z => RepS b vm (.slice none 0 0) z,rfl, ?_, ?_,h4⟩
 ·unfold firstNod
  rw [if_pos hk]
  refine ⟨⟨vm,_,h1,fun _ e => e, ?_⟩,fun e => by simp [Rep.first] at e⟩
  rintro z (e | e | e)
  ·rw [e]; exact (Array.getElem?_eq_some_iff.1 h1.blk).1
  ·exact (Array.getElem?_eq_some_iff.1 (ownBlock_cells h1.hm e).choose_spec.1).1
  ·exact absurd e no_row
 ·rintro z (e | e | e)
  ·omega
  ·exact h3 z e
  ·exact absurd e no_row
theorem newAcc_nod (n k : Nat) (v : Value) (w : World) (hk : ¬ k < n) (hk2 : k < n + 3) (hv : IntOwn w v (firstInts n)) (hn : n ≤ 5) :
  Calls Tryz.prog 109 #[.int .i64 (numOf n k),v] w fun e w' => ∃ b F,e = .returned (.pointer (some ⟨b,0,none⟩)) ∧ NodAt w' F b (numOf n k) (firstNod n k) ∧ (∀ z,F z → w.heap.size ≤ z) ∧ Below w.heap.size w w' := by
 refine (accNew_any (numOf n k) (firstInts n) v w hv (by simp [firstInts]; omega)).mono ?_
 rintro e w' ⟨b,F,rfl,h1,h2,h3⟩
 refine ⟨b,F,rfl, ?_,h2,h3⟩
 unfold firstNod
 rw [if_neg hk,if_pos hk2]
 exact h1
theorem newMas_nod (n k : Nat) (w : World) (hk : ¬ k < n + 3) :
  Calls Tryz.prog 110 #[.int .i64 (numOf n k)] w fun e w' => ∃ b F,e = .returned (.pointer (some ⟨b,0,none⟩)) ∧ NodAt w' F b (numOf n k) (firstNod n k) ∧ (∀ z,F z → w.heap.size ≤ z) ∧ Below w.heap.size w w' := by
 refine (masNew_any (numOf n k) w).mono ?_
 rintro e w' ⟨b,F,rfl,h1,h2,h3⟩
 refine ⟨b,F,rfl, ?_,h2,h3⟩
 unfold firstNod
 rw [if_neg (by omega),if_neg hk]
 refine ⟨⟨_,⟨rfl,rfl,fun e => absurd rfl e,rfl,rfl,fun e => by simp [Mas.still] at e,fun e => by simp [Mas.still] at e,fun e => by simp [Mas.still] at e,fun e => by simp [Mas.still] at e,fun e => by simp [Mas.still] at e,by simp,by simp,by simp⟩,h1⟩,fun e => by simp [Mas.still] at e⟩
theorem Built.keepInts {w0 w w1 w3 : World} {x n k : Nat} {b : Nat → Nat} {Fn : Nat → Nat → Prop} {vs vr va vm v : Value} {l : List Int} (h : Built w0 w x n k b Fn vs vr va vm) (h1 : Below w.heap.size w w1) (hM : Moved w1 w3 (OwnB x vs vr va vm)) (hv : IntOwn w v l) : IntOwn w3 v l := by
 refine hM.owns (owns_kept hv fun z _ hz => h1.block z hz) fun z hz hO => ?_
 rcases hO with e | e | e | e | e
 ·exact blk_type h.blk hv (by decide) (e ▸ hz)
 ·exact owns_two hv h.rs (by decide) z hz e
 ·exact owns_two hv h.rr (by decide) z hz e
 ·exact owns_two hv h.ra (by decide) z hz e
 ·exact owns_two hv h.rm (by decide) z hz e
theorem ptr_app {t e : TypeId} (hinfo : (Tryz.prog.info? e).map (fun i => (i.zero,i.size,i.bytes)) = some (some (.pointer none),1,8)) (hu : Tryz.prog.underlying t = some (.slice e)) (he : e ≠ 93) (W : World) (x m : Nat) (v : Value) (xs : List Value) (p : Option Addr) (cs : Array Value)
  (hrow : W.ownsRow 0 e 1 v m xs) (hblk : W.heap[x]? = some (.cells cs 93)) (hm : m ≤ 100) :
  ∃ g' cap W2,(∀ ty,(Builtin.append_ #[t,t] ty #[v, .slice (some ⟨W.heap.size,0,none⟩) 1 1]).run Tryz.prog (W.alloc (.cells #[.pointer p] e)) = .ok (.slice (some ⟨g',0,none⟩) (m + 1) cap) W2) ∧ W2.heap[x]? = some (.cells cs 93) ∧ W2.ownsRow 0 e 1 (.slice (some ⟨g',0,none⟩) (m + 1) cap) (m + 1) (xs ++ [.pointer p]) ∧ Moved W W2 (fun z => v.ownBlock = some z) ∧ Grows W v (.slice (some ⟨g',0,none⟩) (m + 1) cap) := by
 have hbX : Below W.heap.size W (W.alloc (.cells #[.pointer p] e)) := (Below.refl _ W).alloc (Nat.le_refl _) _
 have hxl : x < W.heap.size := (Array.getElem?_eq_some_iff.1 hblk).1
 obtain ⟨g',cap',W1,hrun,ho1,hg1,hwh⟩ := append_row (t := t) hinfo hu rfl (by decide) (W.alloc (.cells #[.pointer p] e)) 0 v m xs [.pointer p] W.heap.size (owns_kept hrow fun k _ hk => hbX.block k hk) (heap_new _ _) rfl (by intro u hu; rw [List.mem_singleton] at hu; subst hu; rfl) (by omega) (by decide) (Nat.zero_le _)
 have nb : v.ownBlock ≠ some x := blk_type hblk hrow he
 refine ⟨g',cap',W1,hrun,(hg1.block x (by simp; omega) (fun e => nb e.symm)).trans ((hbX.block x hxl).trans hblk),ho1,((Moved.refl W _).below hbX).grown hg1 (fun k _ e => e), ?_⟩
 intro z hz
 have : g' = z := by simpa [Value.ownBlock] using hz
 subst this
 rcases hwh with h5 | h5
 ·exact .inl h5
 ·exact .inr (by rw [h5]; simp)
theorem Built.stepR {w0 w w1 W2 w3 : World} {x n k : Nat} {b : Nat → Nat} {Fn : Nat → Nat → Prop} {vs vr va vm vs' v' : Value} (h : Built w0 w x n k b Fn vs vr va vm) (b' : Nat) (F' : Nat → Prop) (hk : k < n)
  (h1 : Below w.heap.size w w1) (hN : NodAt w1 F' b' (numOf n k) (firstNod n k)) (hF : ∀ z,F' z → w.heap.size ≤ z)
  (hrow2 : W2.ownsRow 0 129 1 v' (min k n + 1) (ptrs b 0 (min k n) ++ [.pointer (some ⟨b',0,none⟩)])) (hM2 : Moved w1 W2 (fun z => vr.ownBlock = some z)) (hG2 : Grows w1 vr v') (hx2 : W2.heap[x]? = some (.cells #[vs,vr,va,vm, .slice none 0 0, .slice none 0 0] 93))
  (hblk : w3.heap[x]? = some (.cells #[vs',v',va,vm, .slice none 0 0, .slice none 0 0] 93)) (hrs : w3.ownsRow 0 183 3 vs' (k + 1) ((List.range k).flatMap (staOf n b) ++ [.int .i64 (numOf n k), .int .i64 0, .iface (nodTy (firstNod n k)) (.pointer (some ⟨b',0,none⟩))]))
  (hM3 : Moved (W2.setCell ⟨x,1,none⟩ v') w3 (fun z => z = x ∨ vs.ownBlock = some z)) (hG3 : Grows (W2.setCell ⟨x,1,none⟩ v') vs vs') :
  Built w0 w3 x n (k + 1) (putB b k b') (putF Fn k F') vs' v' va vm ∧ Moved w1 w3 (OwnB x vs vr va vm) := by
 have hs2 := hM2.size
 have hsc : (W2.setCell ⟨x,1,none⟩ v').heap.size = W2.heap.size := by simp
 have hs3 := hM3.size
 have hrsW : (W2.setCell ⟨x,1,none⟩ v').ownsRow 0 183 3 vs k ((List.range k).flatMap (staOf n b)) := ownsRow_setCell_other (hM2.owns (owns_kept h.rs fun z _ hz => h1.block z hz) (fun z e e2 => owns_two h.rs h.rr (by decide) z e e2)) (blk_type h.blk h.rs (by decide)) _
 have hrowS : ∀ {base size m : Nat} {e : TypeId} {v : Value} {xs : List Value},W2.ownsRow base e size v m xs → e ≠ 183 → e ≠ 93 → w3.ownsRow base e size v m xs := by
  intro base size m e v xs hv e1 e2
  have hv2 : (W2.setCell ⟨x,1,none⟩ v').ownsRow base e size v m xs := ownsRow_setCell_other hv (blk_type hx2 hv e2) _
  refine hM3.owns hv2 fun z hz hS => ?_
  rcases hS with e3 | e3
  ·exact blk_type hx2 hv e2 (e3 ▸ hz)
  ·exact owns_two hv2 hrsW e1 z hz e3
 have hrow3 : ∀ {base size m : Nat} {e : TypeId} {v : Value} {xs : List Value},w.ownsRow base e size v m xs → e ≠ 183 → e ≠ 93 → e ≠ 129 → w3.ownsRow base e size v m xs := by
  intro base size m e v xs hv e1 e2 e3
  exact hrowS (hM2.owns (owns_kept hv fun z _ hz => h1.block z hz) (fun z e4 e5 => owns_two hv h.rr e3 z e4 e5)) e1 e2
 have hMM : Moved w1 w3 (OwnB x vs vr va vm) := by
  refine ((hM2.wider (fun z (e : vr.ownBlock = some z) => .inr (.inr (.inl e)))).setCell ⟨x,1,none⟩ (.inl rfl) v').trans hM3 (fun z _ hS => ?_)
  rcases hS with e | e
  ·exact .inl e
  ·exact .inr (.inl e)
 refine ⟨h.step b' F' h1 hN hF hMM ?_ hblk hrs (by
   have e1 : min (k + 1) n = min k n + 1 := by omega
   have e2 : 0 + (min k n) = k := by omega
   rw [e1,ptrs_snoc,ptrs_same (putB b k b') b 0 (min k n) (fun i hi => by unfold putB; rw [if_neg (by omega)])]
   have e3 : putB b k b' (0 + (min k n)) = b' := by unfold putB; rw [if_pos e2]
   rw [e3]
   exact hrowS hrow2 (by decide) (by decide)) (by
   have e1 : min (k + 1 - n) 3 = min (k - n) 3 := by omega
   rw [e1,ptrs_same (putB b k b') b n (min (k - n) 3) (fun i hi => by unfold putB; rw [if_neg (by omega)])]
   exact hrow3 h.ra (by decide) (by decide) (by decide)) (by
   have e1 : k + 1 - n - 3 = k - n - 3 := by omega
   rw [e1,ptrs_same (putB b k b') b (n + 3) (k - n - 3) (fun i hi => by unfold putB; rw [if_neg (by omega)])]
   exact hrow3 h.rm (by decide) (by decide) (by decide)),hMM⟩
 ·intro z hz
  have kv : v'.ownBlock = some z → OwnB x vs vr va vm z ∨ w1.heap.size ≤ z := fun e => (hG2 z e).imp (fun e => .inr (.inr (.inl e))) id
  have ks : vs'.ownBlock = some z → OwnB x vs vr va vm z ∨ w1.heap.size ≤ z := fun e => (hG3 z e).imp (fun e => .inr (.inl e)) (fun e => by omega)
  rcases hz with e | e | e | e | e
  ·exact .inl (.inl e)
  ·exact ks e
  ·exact kv e
  ·exact .inl (.inr (.inr (.inr (.inl e))))
  ·exact .inl (.inr (.inr (.inr (.inr e))))
theorem Built.stepA {w0 w w1 W2 w3 : World} {x n k : Nat} {b : Nat → Nat} {Fn : Nat → Nat → Prop} {vs vr va vm vs' v' : Value} (h : Built w0 w x n k b Fn vs vr va vm) (b' : Nat) (F' : Nat → Prop) (hk : ¬ k < n) (hk2 : k < n + 3)
  (h1 : Below w.heap.size w w1) (hN : NodAt w1 F' b' (numOf n k) (firstNod n k)) (hF : ∀ z,F' z → w.heap.size ≤ z)
  (hrow2 : W2.ownsRow 0 99 1 v' (min (k - n) 3 + 1) (ptrs b n (min (k - n) 3) ++ [.pointer (some ⟨b',0,none⟩)])) (hM2 : Moved w1 W2 (fun z => va.ownBlock = some z)) (hG2 : Grows w1 va v') (hx2 : W2.heap[x]? = some (.cells #[vs,vr,va,vm, .slice none 0 0, .slice none 0 0] 93))
  (hblk : w3.heap[x]? = some (.cells #[vs',vr,v',vm, .slice none 0 0, .slice none 0 0] 93)) (hrs : w3.ownsRow 0 183 3 vs' (k + 1) ((List.range k).flatMap (staOf n b) ++ [.int .i64 (numOf n k), .int .i64 0, .iface (nodTy (firstNod n k)) (.pointer (some ⟨b',0,none⟩))]))
  (hM3 : Moved (W2.setCell ⟨x,2,none⟩ v') w3 (fun z => z = x ∨ vs.ownBlock = some z)) (hG3 : Grows (W2.setCell ⟨x,2,none⟩ v') vs vs') :
  Built w0 w3 x n (k + 1) (putB b k b') (putF Fn k F') vs' vr v' vm ∧ Moved w1 w3 (OwnB x vs vr va vm) := by
 have hs2 := hM2.size
 have hsc : (W2.setCell ⟨x,2,none⟩ v').heap.size = W2.heap.size := by simp
 have hs3 := hM3.size
 have hrsW : (W2.setCell ⟨x,2,none⟩ v').ownsRow 0 183 3 vs k ((List.range k).flatMap (staOf n b)) := ownsRow_setCell_other (hM2.owns (owns_kept h.rs fun z _ hz => h1.block z hz) (fun z e e2 => owns_two h.rs h.ra (by decide) z e e2)) (blk_type h.blk h.rs (by decide)) _
 have hrowS : ∀ {base size m : Nat} {e : TypeId} {v : Value} {xs : List Value},W2.ownsRow base e size v m xs → e ≠ 183 → e ≠ 93 → w3.ownsRow base e size v m xs := by
  intro base size m e v xs hv e1 e2
  have hv2 : (W2.setCell ⟨x,2,none⟩ v').ownsRow base e size v m xs := ownsRow_setCell_other hv (blk_type hx2 hv e2) _
  refine hM3.owns hv2 fun z hz hS => ?_
  rcases hS with e3 | e3
  ·exact blk_type hx2 hv e2 (e3 ▸ hz)
  ·exact owns_two hv2 hrsW e1 z hz e3
 have hrow3 : ∀ {base size m : Nat} {e : TypeId} {v : Value} {xs : List Value},w.ownsRow base e size v m xs → e ≠ 183 → e ≠ 93 → e ≠ 99 → w3.ownsRow base e size v m xs := by
  intro base size m e v xs hv e1 e2 e3
  exact hrowS (hM2.owns (owns_kept hv fun z _ hz => h1.block z hz) (fun z e4 e5 => owns_two hv h.ra e3 z e4 e5)) e1 e2
 have hMM : Moved w1 w3 (OwnB x vs vr va vm) := by
  refine ((hM2.wider (fun z (e : va.ownBlock = some z) => .inr (.inr (.inr (.inl e))))).setCell ⟨x,2,none⟩ (.inl rfl) v').trans hM3 (fun z _ hS => ?_)
  rcases hS with e | e
  ·exact .inl e
  ·exact .inr (.inl e)
 refine ⟨h.step b' F' h1 hN hF hMM ?_ hblk hrs (by
   have e1 : min (k + 1) n = min k n := by omega
   rw [e1,ptrs_same (putB b k b') b 0 (min k n) (fun i hi => by unfold putB; rw [if_neg (by omega)])]
   exact hrow3 h.rr (by decide) (by decide) (by decide)) (by
   have e1 : min (k + 1 - n) 3 = min (k - n) 3 + 1 := by omega
   have e2 : n + (min (k - n) 3) = k := by omega
   rw [e1,ptrs_snoc,ptrs_same (putB b k b') b n (min (k - n) 3) (fun i hi => by unfold putB; rw [if_neg (by omega)])]
   have e3 : putB b k b' (n + (min (k - n) 3)) = b' := by unfold putB; rw [if_pos e2]
   rw [e3]
   exact hrowS hrow2 (by decide) (by decide)) (by
   have e1 : k + 1 - n - 3 = k - n - 3 := by omega
   rw [e1,ptrs_same (putB b k b') b (n + 3) (k - n - 3) (fun i hi => by unfold putB; rw [if_neg (by omega)])]
   exact hrow3 h.rm (by decide) (by decide) (by decide)),hMM⟩
 ·intro z hz
  have kv : v'.ownBlock = some z → OwnB x vs vr va vm z ∨ w1.heap.size ≤ z := fun e => (hG2 z e).imp (fun e => .inr (.inr (.inr (.inl e)))) id
  have ks : vs'.ownBlock = some z → OwnB x vs vr va vm z ∨ w1.heap.size ≤ z := fun e => (hG3 z e).imp (fun e => .inr (.inl e)) (fun e => by omega)
  rcases hz with e | e | e | e | e
  ·exact .inl (.inl e)
  ·exact ks e
  ·exact .inl (.inr (.inr (.inl e)))
  ·exact kv e
  ·exact .inl (.inr (.inr (.inr (.inr e))))
theorem Built.stepM {w0 w w1 W2 w3 : World} {x n k : Nat} {b : Nat → Nat} {Fn : Nat → Nat → Prop} {vs vr va vm vs' v' : Value} (h : Built w0 w x n k b Fn vs vr va vm) (b' : Nat) (F' : Nat → Prop) (hk : ¬ k < n + 3)
  (h1 : Below w.heap.size w w1) (hN : NodAt w1 F' b' (numOf n k) (firstNod n k)) (hF : ∀ z,F' z → w.heap.size ≤ z)
  (hrow2 : W2.ownsRow 0 81 1 v' (k - n - 3 + 1) (ptrs b (n + 3) (k - n - 3) ++ [.pointer (some ⟨b',0,none⟩)])) (hM2 : Moved w1 W2 (fun z => vm.ownBlock = some z)) (hG2 : Grows w1 vm v') (hx2 : W2.heap[x]? = some (.cells #[vs,vr,va,vm, .slice none 0 0, .slice none 0 0] 93))
  (hblk : w3.heap[x]? = some (.cells #[vs',vr,va,v', .slice none 0 0, .slice none 0 0] 93)) (hrs : w3.ownsRow 0 183 3 vs' (k + 1) ((List.range k).flatMap (staOf n b) ++ [.int .i64 (numOf n k), .int .i64 0, .iface (nodTy (firstNod n k)) (.pointer (some ⟨b',0,none⟩))]))
  (hM3 : Moved (W2.setCell ⟨x,3,none⟩ v') w3 (fun z => z = x ∨ vs.ownBlock = some z)) (hG3 : Grows (W2.setCell ⟨x,3,none⟩ v') vs vs') :
  Built w0 w3 x n (k + 1) (putB b k b') (putF Fn k F') vs' vr va v' ∧ Moved w1 w3 (OwnB x vs vr va vm) := by
 have hs2 := hM2.size
 have hsc : (W2.setCell ⟨x,3,none⟩ v').heap.size = W2.heap.size := by simp
 have hs3 := hM3.size
 have hrsW : (W2.setCell ⟨x,3,none⟩ v').ownsRow 0 183 3 vs k ((List.range k).flatMap (staOf n b)) := ownsRow_setCell_other (hM2.owns (owns_kept h.rs fun z _ hz => h1.block z hz) (fun z e e2 => owns_two h.rs h.rm (by decide) z e e2)) (blk_type h.blk h.rs (by decide)) _
 have hrowS : ∀ {base size m : Nat} {e : TypeId} {v : Value} {xs : List Value},W2.ownsRow base e size v m xs → e ≠ 183 → e ≠ 93 → w3.ownsRow base e size v m xs := by
  intro base size m e v xs hv e1 e2
  have hv2 : (W2.setCell ⟨x,3,none⟩ v').ownsRow base e size v m xs := ownsRow_setCell_other hv (blk_type hx2 hv e2) _
  refine hM3.owns hv2 fun z hz hS => ?_
  rcases hS with e3 | e3
  ·exact blk_type hx2 hv e2 (e3 ▸ hz)
  ·exact owns_two hv2 hrsW e1 z hz e3
 have hrow3 : ∀ {base size m : Nat} {e : TypeId} {v : Value} {xs : List Value},w.ownsRow base e size v m xs → e ≠ 183 → e ≠ 93 → e ≠ 81 → w3.ownsRow base e size v m xs := by
  intro base size m e v xs hv e1 e2 e3
  exact hrowS (hM2.owns (owns_kept hv fun z _ hz => h1.block z hz) (fun z e4 e5 => owns_two hv h.rm e3 z e4 e5)) e1 e2
 have hMM : Moved w1 w3 (OwnB x vs vr va vm) := by
  refine ((hM2.wider (fun z (e : vm.ownBlock = some z) => .inr (.inr (.inr (.inr e))))).setCell ⟨x,3,none⟩ (.inl rfl) v').trans hM3 (fun z _ hS => ?_)
  rcases hS with e | e
  ·exact .inl e
  ·exact .inr (.inl e)
 refine ⟨h.step b' F' h1 hN hF hMM ?_ hblk hrs (by
   have e1 : min (k + 1) n = min k n := by omega
   rw [e1,ptrs_same (putB b k b') b 0 (min k n) (fun i hi => by unfold putB; rw [if_neg (by omega)])]
   exact hrow3 h.rr (by decide) (by decide) (by decide)) (by
   have e1 : min (k + 1 - n) 3 = min (k - n) 3 := by omega
   rw [e1,ptrs_same (putB b k b') b n (min (k - n) 3) (fun i hi => by unfold putB; rw [if_neg (by omega)])]
   exact hrow3 h.ra (by decide) (by decide) (by decide)) (by
   have e1 : k + 1 - n - 3 = k - n - 3 + 1 := by omega
   have e2 : (n + 3) + (k - n - 3) = k := by omega
   rw [e1,ptrs_snoc,ptrs_same (putB b k b') b (n + 3) (k - n - 3) (fun i hi => by unfold putB; rw [if_neg (by omega)])]
   have e3 : putB b k b' ((n + 3) + (k - n - 3)) = b' := by unfold putB; rw [if_pos e2]
   rw [e3]
   exact hrowS hrow2 (by decide) (by decide)),hMM⟩
 ·intro z hz
  have kv : v'.ownBlock = some z → OwnB x vs vr va vm z ∨ w1.heap.size ≤ z := fun e => (hG2 z e).imp (fun e => .inr (.inr (.inr (.inr e)))) id
  have ks : vs'.ownBlock = some z → OwnB x vs vr va vm z ∨ w1.heap.size ≤ z := fun e => (hG3 z e).imp (fun e => .inr (.inl e)) (fun e => by omega)
  rcases hz with e | e | e | e | e
  ·exact .inl (.inl e)
  ·exact ks e
  ·exact .inl (.inr (.inr (.inl e)))
  ·exact .inl (.inr (.inr (.inr (.inl e))))
  ·exact kv e
end Go.Proofs.YtgieeeeeiggoeaaGreat
