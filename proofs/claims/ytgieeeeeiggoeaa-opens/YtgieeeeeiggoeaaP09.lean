import Derived.Test.YtgieeeeeiggoeaaP08
import Derived.Test.YtgieeeeeiggoeaaP02
import Derived.Test.YtgieeeeeiggoeaaP06
namespace Go.Proofs.Ytgieeeeeiggoeaa
open Go.RowKit Go.Shelf
def nodTy : Nod → TypeId
 | .rep _ => 155
 | .acc _ => 158
 | .mas _ => 160
def upInt (b : Bool) : Int := if b then 0 else 1
def OwnS (x gs : Nat) (vr va vm vb vt : Value) (k : Nat) : Prop := k = x ∨ k = gs ∨ vr.ownBlock = some k ∨ va.ownBlock = some k ∨ vm.ownBlock = some k ∨ vb.ownBlock = some k ∨ vt.ownBlock = some k
def StaIn (w : World) (gs : Nat) (m : Nat) (f : Nat → Int × Int × Value) : Prop :=
 ∃ cs, w.heap[gs]? = some (.cells cs 178) ∧ ∀ j, j < m → cs[j * 3]? = some (.int .i64 (f j).1) ∧ cs[j * 3 + 1]? = some (.int .i64 (f j).2.1) ∧ cs[j * 3 + 2]? = some (f j).2.2
def Clu.sta (c : Clu) (b : Nat → Nat) (j : Nat) : Int × Int × Value := (numOf c.reps.length j, upInt (c.nod j).up, .iface (nodTy (c.nod j)) (.pointer (some ⟨b j, 0, none⟩)))
def ptrs (b : Nat → Nat) (from_ m : Nat) : List Value := (List.range m).map fun i => Value.pointer (some ⟨b (from_ + i), 0, none⟩)
structure CluIn (w : World) (F : Nat → Prop) (x gs cap : Nat) (c : Clu) (b : Nat → Nat) (Fn : Nat → Nat → Prop) (vr va vm vb vt : Value) : Prop where
 bag : BagIn w x (.slice (some ⟨gs, 0, none⟩) (c.reps.length + 5) cap) vr va vm vb vt c.bag
 sta : StaIn w gs (c.reps.length + 5) (c.sta b)
 hcap : c.reps.length + 5 ≤ cap
 rr : w.ownsRow 0 155 1 vr c.reps.length (ptrs b 0 c.reps.length)
 ra : w.ownsRow 0 158 1 va 3 (ptrs b c.reps.length 3)
 rm : w.ownsRow 0 160 1 vm 2 (ptrs b (c.reps.length + 3) 2)
 rt : w.ownsRow 0 77 3 vt c.told.length (ints (ansNums c.told))
 nod : ∀ j, j < c.reps.length + 5 → NodAt w (Fn j) (b j) (numOf c.reps.length j) (c.nod j)
 sep : ∀ i j, i < c.reps.length + 5 → j < c.reps.length + 5 → i ≠ j → ∀ k, Fn i k → ¬ Fn j k
 off : ∀ j, j < c.reps.length + 5 → ∀ k, Fn j k → ¬ OwnS x gs vr va vm vb vt k
 inO : ∀ k, OwnS x gs vr va vm vb vt k → F k
 inN : ∀ j, j < c.reps.length + 5 → ∀ k, Fn j k → F k
 lt : ∀ k, F k → k < w.heap.size
 n1 : 1 ≤ c.reps.length
 n5 : c.reps.length ≤ 5
 a3 : c.accs.length = 3
 m2 : c.mass.length = 2
def CAt (w : World) (F : Nat → Prop) (x : Nat) (c : Clu) : Prop := ∃ gs cap b Fn vr va vm vb vt, CluIn w F x gs cap c b Fn vr va vm vb vt
theorem StaIn.keep {w w' : World} {gs m : Nat} {f : Nat → Int × Int × Value} (h : StaIn w gs m f) (hk : w'.heap[gs]? = w.heap[gs]?) : StaIn w' gs m f := by
 obtain ⟨cs, h1, h2⟩ := h
 exact ⟨cs, hk.trans h1, h2⟩
theorem CluIn.keep {w w' : World} {F : Nat → Prop} {x gs cap : Nat} {c : Clu} {b : Nat → Nat} {Fn : Nat → Nat → Prop} {vr va vm vb vt : Value} (h : CluIn w F x gs cap c b Fn vr va vm vb vt) (hk : ∀ k, F k → w'.heap[k]? = w.heap[k]?) : CluIn w' F x gs cap c b Fn vr va vm vb vt where
 bag := ⟨(hk x (h.inO x (.inl rfl))).trans h.bag.blk, owns_only h.bag.row fun k e => hk k (h.inO k (.inr (.inr (.inr (.inr (.inr (.inl e)))))))⟩
 sta := h.sta.keep (hk gs (h.inO gs (.inr (.inl rfl))))
 hcap := h.hcap
 rr := owns_only h.rr fun k e => hk k (h.inO k (.inr (.inr (.inl e))))
 ra := owns_only h.ra fun k e => hk k (h.inO k (.inr (.inr (.inr (.inl e)))))
 rm := owns_only h.rm fun k e => hk k (h.inO k (.inr (.inr (.inr (.inr (.inl e))))))
 rt := owns_only h.rt fun k e => hk k (h.inO k (.inr (.inr (.inr (.inr (.inr (.inr e)))))))
 nod := fun j hj => (h.nod j hj).keep fun k e => hk k (h.inN j hj k e)
 sep := h.sep
 off := h.off
 inO := h.inO
 inN := h.inN
 lt := fun k hF => lt_of_keep (h.lt k hF) (hk k hF)
 n1 := h.n1
 n5 := h.n5
 a3 := h.a3
 m2 := h.m2
theorem CluIn.below {w w' : World} {F : Nat → Prop} {x gs cap : Nat} {c : Clu} {b : Nat → Nat} {Fn : Nat → Nat → Prop} {vr va vm vb vt : Value} (h : CluIn w F x gs cap c b Fn vr va vm vb vt) (hb : Below w.heap.size w w') : CluIn w' F x gs cap c b Fn vr va vm vb vt :=
 h.keep fun k hF => hb.block k (h.lt k hF)
def findV (gs n : Nat) (d : Int) : Value := .pointer ((nodPlace n d).map fun j => ⟨gs, j * 3, none⟩)
set_option maxRecDepth 100000 in
set_option maxHeartbeats 1000000 in
theorem find_any (w : World) (F : Nat → Prop) (x gs cap : Nat) (c : Clu) (b : Nat → Nat) (Fn : Nat → Nat → Prop) (vr va vm vb vt : Value) (d : Int) (h : CluIn w F x gs cap c b Fn vr va vm vb vt) :
  Calls Try.prog 94 #[.pointer (some ⟨x, 0, none⟩), .int .i64 d] w fun e w' => e = .returned (findV gs c.reps.length d) ∧ w' = w := by
 have n5 := h.n5
 have c0 := cell_of_heap h.bag.blk 0
 obtain ⟨cs, hcs, hst⟩ := h.sta
 have HC : Hid (∀ j, j < c.reps.length + 5 → w.cell? ⟨gs, j * 3, none⟩ = some (.int .i64 (numOf c.reps.length j))) := hideA fun j hj => (cell_of_heap hcs (j * 3)).trans (hst j hj).1
 have HFs : Hid (∀ j, j < c.reps.length + 5 → numOf c.reps.length j = d → findV gs c.reps.length d = .pointer (some ⟨gs, j * 3, none⟩)) := hideA fun j hj e => by unfold findV; rw [← e, num_nodPlace n5 hj]; rfl
 have HFn : Hid ((∀ j, j < c.reps.length + 5 → numOf c.reps.length j ≠ d) → findV gs c.reps.length d = .pointer none) := hideA fun hh => by
  unfold findV
  cases hp : nodPlace c.reps.length d with
  | none => rfl
  | some j => exact absurd (nodPlace_num hp) (hh j (nodPlace_lt hp))
 have hcap := h.hcap
 clear h hcs hst
 generalize findV gs c.reps.length d = fv at *
 generalize hN : c.reps.length + 5 = N at *
 generalize numOf c.reps.length = nf at *
 go_enter Try.func94, Try.ntmps94
 go_wp2_with fail
 go_loopw [11] (fun i wr => ∃ k : Nat, k ≤ N ∧ i = .int .i64 k ∧ wr = w ∧ ∀ j, j < k → nf j ≠ d) (fun i _ => N - (intOf i).toNat)
 case atStart => exact ⟨0, Nat.zero_le _, rfl, rfl, fun j hj => absurd hj (Nat.not_lt_zero _)⟩
 case round =>
  obtain ⟨k, hk, rfl, rfl, hno⟩ := hrel
  by_cases hlt : k < N
  ·have ck := HC.out k hlt
   have hk1 : (k : Int) < (N : Int) := by omega
   have HFk := hideA (HFs.out k hlt)
   have HNo := hideA hno
   clear hno
   generalize hy : nf k = y at *
   by_cases hyd : y = d
   ·have H := hideA (HFk.out hyd)
    subst hyd
    go_wp2_with fail
    go_ret
    exact ⟨by rw [H.out]; rfl, rfl⟩
   ·have hxd : (y == d) = false := by simp [hyd]
    go_wp2_with fail
    go_roundw
    case rel =>
     refine ⟨k + 1, by omega, by go_num, by trivial, fun j hj => ?_⟩
     by_cases e : j = k
     ·subst e
      rw [hy]
      exact hyd
     ·exact HNo.out j (by omega)
    case measure => simp [intOf]; omega
  ·obtain rfl : k = N := by omega
   have H := hideA (HFn.out hno)
   clear hno
   go_wp2_with fail
   go_ret
   exact ⟨by rw [H.out]; rfl, rfl⟩
def findIn (c : Clu) (gs : Nat) (up : Bool) (d : Int) : Value :=
 match nodPlace c.reps.length d with
 | none => .tuple #[.pointer none, .int .i64 4]
 | some j => if (c.nod j).up = up then .tuple #[.pointer (some ⟨gs, j * 3, none⟩), .int .i64 0] else .tuple #[.pointer none, .int .i64 5]
set_option maxRecDepth 100000 in
set_option maxHeartbeats 1000000 in
theorem findIn_any (w : World) (F : Nat → Prop) (x gs cap : Nat) (c : Clu) (b : Nat → Nat) (Fn : Nat → Nat → Prop) (vr va vm vb vt : Value) (up : Bool) (d : Int) (h : CluIn w F x gs cap c b Fn vr va vm vb vt) :
  Calls Try.prog 93 #[.pointer (some ⟨x, 0, none⟩), .int .i64 (upInt up), .int .i64 d] w fun e w' => e = .returned (findIn c gs up d) ∧ w' = w := by
 have hf := find_any w F x gs cap c b Fn vr va vm vb vt d h
 obtain ⟨cs, hcs, hst⟩ := h.sta
 cases hp : nodPlace c.reps.length d with
 | none =>
  have H : Hid (findIn c gs up d = .tuple #[.pointer none, .int .i64 4]) := hideA (by unfold findIn; rw [hp])
  have e : findV gs c.reps.length d = .pointer none := by unfold findV; rw [hp]; rfl
  rw [e] at hf
  clear h e
  go_enter Try.func93, Try.ntmps93
  go_wp2_with fail
  refine hf.mono ?_
  rintro e w1 ⟨rfl, rfl⟩
  clear hf
  go_wp2_with fail
  go_ret2
  exact ⟨by rw [H.out]; rfl, rfl⟩
 | some j =>
  have hj := nodPlace_lt hp
  have e : findV gs c.reps.length d = .pointer (some ⟨gs, j * 3, none⟩) := by unfold findV; rw [hp]; rfl
  have c1 : w.cell? ⟨gs, j * 3 + 1, none⟩ = some (.int .i64 (upInt (c.nod j).up)) := (cell_of_heap hcs (j * 3 + 1)).trans (hst j hj).2.1
  rw [e] at hf
  clear h e hcs hst
  by_cases hu : (c.nod j).up = up
  ·have H : Hid (findIn c gs up d = .tuple #[.pointer (some ⟨gs, j * 3, none⟩), .int .i64 0]) := hideA (by unfold findIn; rw [hp]; simp [hu])
   rw [hu] at c1
   generalize upInt up = u at *
   go_enter Try.func93, Try.ntmps93
   go_wp2_with fail
   refine hf.mono ?_
   rintro e w1 ⟨rfl, rfl⟩
   clear hf
   go_wp2_with fail
   go_ret2
   exact ⟨by rw [H.out]; rfl, rfl⟩
  ·have H : Hid (findIn c gs up d = .tuple #[.pointer none, .int .i64 5]) := hideA (by unfold findIn; rw [hp]; simp [hu])
   have hne : (upInt (c.nod j).up == upInt up) = false := by
    revert hu
    cases (c.nod j).up <;> cases up <;> simp [upInt]
   have hne2 : ¬ upInt (c.nod j).up = upInt up := by simpa using hne
   generalize upInt up = u at *
   generalize upInt (c.nod j).up = u2 at *
   go_enter Try.func93, Try.ntmps93
   go_wp2_with fail
   refine hf.mono ?_
   rintro e w1 ⟨rfl, rfl⟩
   clear hf
   go_wp2_with fail
   go_ret2
   exact ⟨by rw [H.out]; rfl, rfl⟩
set_option maxRecDepth 100000 in
theorem isUp_any (w : World) (F : Nat → Prop) (x gs cap : Nat) (c : Clu) (b : Nat → Nat) (Fn : Nat → Nat → Prop) (vr va vm vb vt : Value) (d : Int) (h : CluIn w F x gs cap c b Fn vr va vm vb vt) :
  Calls Try.prog 87 #[.pointer (some ⟨x, 0, none⟩), .int .i64 d] w fun e w' => e = .returned (.bool (decide (c.upOf d = some true))) ∧ w' = w := by
 have hf : Calls Try.prog 93 #[.pointer (some ⟨x, 0, none⟩), .int .i64 0, .int .i64 d] w fun e w' => e = .returned (findIn c gs true d) ∧ w' = w := findIn_any w F x gs cap c b Fn vr va vm vb vt true d h
 have hu := upOf_nod c d
 clear h
 cases hp : nodPlace c.reps.length d with
 | none =>
  have e : findIn c gs true d = .tuple #[.pointer none, .int .i64 4] := by unfold findIn; rw [hp]
  have H : Hid (decide (c.upOf d = some true) = false) := hideA (by rw [hu, hp]; rfl)
  rw [e] at hf
  clear e hu
  go_enter Try.func87, Try.ntmps87
  go_wp2_with fail
  refine hf.mono ?_
  rintro e w1 ⟨rfl, rfl⟩
  clear hf
  go_wp2_with fail
  go_ret
  exact ⟨by rw [H.out]; rfl, rfl⟩
 | some j =>
  by_cases hu2 : (c.nod j).up = true
  ·have e : findIn c gs true d = .tuple #[.pointer (some ⟨gs, j * 3, none⟩), .int .i64 0] := by unfold findIn; rw [hp]; simp [hu2]
   have H : Hid (decide (c.upOf d = some true) = true) := hideA (by rw [hu, hp]; simp [hu2])
   rw [e] at hf
   clear e hu
   go_enter Try.func87, Try.ntmps87
   go_wp2_with fail
   refine hf.mono ?_
   rintro e w1 ⟨rfl, rfl⟩
   clear hf
   go_wp2_with fail
   go_ret
   exact ⟨by rw [H.out]; rfl, rfl⟩
  ·have e : findIn c gs true d = .tuple #[.pointer none, .int .i64 5] := by unfold findIn; rw [hp]; simp [hu2]
   have H : Hid (decide (c.upOf d = some true) = false) := hideA (by rw [hu, hp]; simp [hu2])
   rw [e] at hf
   clear e hu
   go_enter Try.func87, Try.ntmps87
   go_wp2_with fail
   refine hf.mono ?_
   rintro e w1 ⟨rfl, rfl⟩
   clear hf
   go_wp2_with fail
   go_ret
   exact ⟨by rw [H.out]; rfl, rfl⟩
set_option maxRecDepth 100000 in
theorem cluBag_any {w : World} {F : Nat → Prop} {x : Nat} {c : Clu} (h : CAt w F x c) (hg : c.bag.length ≤ 200) :
  Calls Try.prog 65 #[.pointer (some ⟨x, 0, none⟩)] w fun r w' => ∃ v, r = .returned v ∧ w'.ownsRow w.heap.size 9 1 v c.bag.length (bagV c.bag) ∧ Below w.heap.size w w' := by
 obtain ⟨gs, cap, b, Fn, vr, va, vm, vb, vt, h⟩ := h
 have HL := hideA (bagList_any x _ vr va vm vb vt c.bag w h.bag hg)
 clear h
 go_enter Try.func65, Try.ntmps65
 go_wp2_with fail
 refine HL.out.mono ?_
 rintro e W ⟨v, rfl, h1, h2⟩
 obtain ⟨a9, c9, rfl⟩ := owns_shape h1
 have H1 := hideA h1
 clear h1
 go_wp2_with fail
 go_ret
 exact ⟨_, rfl, H1.out, h2⟩
set_option maxRecDepth 100000 in
theorem cluAnswers_any {w : World} {F : Nat → Prop} {x : Nat} {c : Clu} (h : CAt w F x c) (hg : c.told.length ≤ 3000000000000) :
  Calls Try.prog 69 #[.pointer (some ⟨x, 0, none⟩)] w fun r w' => ∃ v, r = .returned v ∧ w'.ownsRow w.heap.size 77 3 v c.told.length (ints (ansNums c.told)) ∧ Below w.heap.size w w' := by
 obtain ⟨gs, cap, b, Fn, vr, va, vm, vb, vt, h⟩ := h
 have HC := hideA (clone_anss vt c.told.length (ints (ansNums c.told)) w (CellsAt.of_owns h.rt) (by rw [ints_length, ansNums_length]) (ints_one _) hg)
 obtain ⟨at', ct, rfl⟩ := owns_shape h.rt
 have c5 := cell_of_heap h.bag.blk 5
 clear h
 go_enter Try.func69, Try.ntmps69
 go_wp2_with fail
 refine HC.out.mono ?_
 rintro e W ⟨v, rfl, h1, h2⟩
 obtain ⟨a9, c9, rfl⟩ := owns_shape h1
 have H1 := hideA h1
 clear h1
 go_wp2_with fail
 go_ret
 exact ⟨_, rfl, H1.out, h2⟩
end Go.Proofs.Ytgieeeeeiggoeaa
