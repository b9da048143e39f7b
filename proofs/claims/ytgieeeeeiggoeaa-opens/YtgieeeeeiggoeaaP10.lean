import Derived.Test.YtgieeeeeiggoeaaP09
import Derived.Test.YtgieeeeeiggoeaaP05
namespace Go.Proofs.Ytgieeeeeiggoeaa
open Go.RowKit Go.Shelf
theorem ptrs_at (b : Nat → Nat) (from_ m k : Nat) (h : k < m) : (ptrs b from_ m)[k]? = some (.pointer (some ⟨b (from_ + k), 0, none⟩)) := by
 unfold ptrs
 rw [List.getElem?_map, List.getElem?_range h]
 rfl
set_option maxRecDepth 100000 in
theorem pickRep_any (v : Value) (b : Nat → Nat) (s n : Nat) (f d : Int) (w : World) (h : w.ownsRow 0 155 1 v n (ptrs b s n)) (hn : n ≤ 100) (hf : 0 ≤ f ∧ f ≤ 1000) :
  Calls Try.prog 85 #[v, .int .i64 f, .int .i64 d] w fun e w' => e = .returned (if f ≤ d ∧ d < f + n then .tuple #[.pointer (some ⟨b (s + (d - f).toNat), 0, none⟩), .bool true] else .tuple #[.pointer none, .bool false]) ∧ w' = w := by
 obtain ⟨a, c, rfl⟩ := owns_shape h
 have hw1 : IntKind.i64.wrap (f + (n : Int)) = f + (n : Int) := by rw [IntKind.wrap_i64]; omega
 by_cases h1 : d < f
 ·have H : Hid ((if f ≤ d ∧ d < f + n then Value.tuple #[.pointer (some ⟨b (s + (d - f).toNat), 0, none⟩), .bool true] else .tuple #[.pointer none, .bool false]) = .tuple #[.pointer none, .bool false]) := hideA (if_neg (by omega))
  rw [H.out]
  clear h
  go_enter Try.func85, Try.ntmps85
  go_wp2_with fail
  go_ret2
  exact ⟨rfl, rfl⟩
 ·by_cases h2 : f + (n : Int) ≤ d
  ·have H : Hid ((if f ≤ d ∧ d < f + n then Value.tuple #[.pointer (some ⟨b (s + (d - f).toNat), 0, none⟩), .bool true] else .tuple #[.pointer none, .bool false]) = .tuple #[.pointer none, .bool false]) := hideA (if_neg (by omega))
   rw [H.out]
   clear h
   go_enter Try.func85, Try.ntmps85
   go_wp2_with fail
   go_ret2
   exact ⟨rfl, rfl⟩
  ·have H : Hid ((if f ≤ d ∧ d < f + n then Value.tuple #[.pointer (some ⟨b (s + (d - f).toNat), 0, none⟩), .bool true] else .tuple #[.pointer none, .bool false]) = .tuple #[.pointer (some ⟨b (s + (d - f).toNat), 0, none⟩), .bool true]) := hideA (if_pos (by omega))
   rw [H.out]
   have hw2 : IntKind.i64.wrap (d - f) = ((d - f).toNat : Int) := by rw [IntKind.wrap_i64]; omega
   have hkl : (d - f).toNat < n := by omega
   obtain ⟨g, cap, hv, -, -⟩ := h.form (by omega)
   cases hv
   have ck : w.cell? ⟨g, (d - f).toNat, none⟩ = some (.pointer (some ⟨b (s + (d - f).toNat), 0, none⟩)) := by
    rw [World.ownsRow.cellAt h (d - f).toNat (by omega)]
    exact ptrs_at b s n _ hkl
   clear h
   generalize (d - f).toNat = k at *
   have hk0 : (0 : Int) ≤ (k : Int) := by omega
   have hk1 : (k : Int) < (n : Int) := by omega
   go_enter Try.func85, Try.ntmps85
   go_wp2_with fail
   go_ret2
   exact ⟨rfl, rfl⟩
set_option maxRecDepth 100000 in
theorem pickAcc_any (v : Value) (b : Nat → Nat) (s n : Nat) (f d : Int) (w : World) (h : w.ownsRow 0 158 1 v n (ptrs b s n)) (hn : n ≤ 100) (hf : 0 ≤ f ∧ f ≤ 1000) :
  Calls Try.prog 89 #[v, .int .i64 f, .int .i64 d] w fun e w' => e = .returned (if f ≤ d ∧ d < f + n then .tuple #[.pointer (some ⟨b (s + (d - f).toNat), 0, none⟩), .bool true] else .tuple #[.pointer none, .bool false]) ∧ w' = w := by
 obtain ⟨a, c, rfl⟩ := owns_shape h
 have hw1 : IntKind.i64.wrap (f + (n : Int)) = f + (n : Int) := by rw [IntKind.wrap_i64]; omega
 by_cases h1 : d < f
 ·have H : Hid ((if f ≤ d ∧ d < f + n then Value.tuple #[.pointer (some ⟨b (s + (d - f).toNat), 0, none⟩), .bool true] else .tuple #[.pointer none, .bool false]) = .tuple #[.pointer none, .bool false]) := hideA (if_neg (by omega))
  rw [H.out]
  clear h
  go_enter Try.func89, Try.ntmps89
  go_wp2_with fail
  go_ret2
  exact ⟨rfl, rfl⟩
 ·by_cases h2 : f + (n : Int) ≤ d
  ·have H : Hid ((if f ≤ d ∧ d < f + n then Value.tuple #[.pointer (some ⟨b (s + (d - f).toNat), 0, none⟩), .bool true] else .tuple #[.pointer none, .bool false]) = .tuple #[.pointer none, .bool false]) := hideA (if_neg (by omega))
   rw [H.out]
   clear h
   go_enter Try.func89, Try.ntmps89
   go_wp2_with fail
   go_ret2
   exact ⟨rfl, rfl⟩
  ·have H : Hid ((if f ≤ d ∧ d < f + n then Value.tuple #[.pointer (some ⟨b (s + (d - f).toNat), 0, none⟩), .bool true] else .tuple #[.pointer none, .bool false]) = .tuple #[.pointer (some ⟨b (s + (d - f).toNat), 0, none⟩), .bool true]) := hideA (if_pos (by omega))
   rw [H.out]
   have hw2 : IntKind.i64.wrap (d - f) = ((d - f).toNat : Int) := by rw [IntKind.wrap_i64]; omega
   have hkl : (d - f).toNat < n := by omega
   obtain ⟨g, cap, hv, -, -⟩ := h.form (by omega)
   cases hv
   have ck : w.cell? ⟨g, (d - f).toNat, none⟩ = some (.pointer (some ⟨b (s + (d - f).toNat), 0, none⟩)) := by
    rw [World.ownsRow.cellAt h (d - f).toNat (by omega)]
    exact ptrs_at b s n _ hkl
   clear h
   generalize (d - f).toNat = k at *
   have hk0 : (0 : Int) ≤ (k : Int) := by omega
   have hk1 : (k : Int) < (n : Int) := by omega
   go_enter Try.func89, Try.ntmps89
   go_wp2_with fail
   go_ret2
   exact ⟨rfl, rfl⟩
theorem acc_place {n : Nat} {d : Int} (hn : n ≤ 5) (h : 100 ≤ d ∧ d < 103) : nodPlace n d = some (n + (d - 100).toNat) := by
 unfold nodPlace
 rw [if_neg (by omega), if_pos h]
theorem rep_place {n : Nat} {d : Int} (h : 0 ≤ d ∧ d < n) : nodPlace n d = some d.toNat := by
 unfold nodPlace
 rw [if_pos h]
theorem acc_nod {c : Clu} {d : Int} {j : Nat} (h : isAcc d) (hn : c.reps.length ≤ 5) (hp : nodPlace c.reps.length d = some j) : c.nod j = .acc (c.acc d) := by
 unfold isAcc at h
 rcases nod_at hp with ⟨h1, _, _⟩ | ⟨_, _, h3, _⟩ | ⟨_, _, h3, _, _⟩
 ·unfold Clu.isRep at h1; omega
 ·exact h3
 ·unfold isMas at h3; omega
theorem rep_nod {c : Clu} {d : Int} {j : Nat} (h : c.isRep d) (hp : nodPlace c.reps.length d = some j) : c.nod j = .rep (c.rep d) := by
 rcases nod_at hp with ⟨_, h2, _⟩ | ⟨h1, _, _, _⟩ | ⟨h1, _, _, _, _⟩
 ·exact h2
 ·exact absurd h h1
 ·exact absurd h h1
set_option maxRecDepth 100000 in
set_option maxHeartbeats 1000000 in
theorem cluStatus_any {w : World} {F : Nat → Prop} {x : Nat} {c : Clu} {E : Int} {g : Gh} (d : Int) (h : CAt w F x c) (hg : Good c E g) (hd : c.isRep d) :
  Calls Try.prog 72 #[.pointer (some ⟨x, 0, none⟩), .int .i64 d] w fun r w' => ∃ vm vl, r = .returned (.tuple #[.agg #[.bool (c.rep d).up, .int .i64 (c.rep d).epoch, .int .i64 (c.rep d).lock, .int .i64 ((c.rep d).commit : Int), vm, vl], .int .i64 0]) ∧
   w'.ownsRow w.heap.size 3 1 vm (c.rep d).mems.length (ints (c.rep d).mems) ∧ w'.ownsRow w.heap.size 59 5 vl (c.rep d).log.length (ints (entsNums (c.rep d).log)) ∧ Below w.heap.size w w' := by
 obtain ⟨gs, cap, b, Fn, vr, va, vm, vb, vt, h⟩ := h
 obtain ⟨ar, cr, hvr⟩ := owns_shape h.rr
 subst hvr
 have hp := rep_place hd
 have hj := nodPlace_lt hp
 have hnum := nodPlace_num hp
 have hnod := rep_nod hd hp
 have hup : c.upOf d = some (c.rep d).up := by rw [upOf_nod, hp]; simp [hnod, Nod.up]
 have e0 : (if 0 ≤ d ∧ d < 0 + (c.reps.length : Int) then Value.tuple #[.pointer (some ⟨b (0 + (d - 0).toNat), 0, none⟩), .bool true] else .tuple #[.pointer none, .bool false]) = .tuple #[.pointer (some ⟨b d.toNat, 0, none⟩), .bool true] := by
  rw [if_pos (by have := hd.1; have := hd.2; omega)]
  simp
 have HP : Hid (∀ W, Below w.heap.size w W → Calls Try.prog 85 #[.slice ar c.reps.length cr, .int .i64 0, .int .i64 d] W fun e w' => e = .returned (.tuple #[.pointer (some ⟨b d.toNat, 0, none⟩), .bool true]) ∧ w' = W) := hideA fun W hb => by
  have := pickRep_any _ b 0 c.reps.length 0 d W (h.below hb).rr (by have := h.n5; omega) (by omega)
  rw [e0] at this
  exact this
 have HU : Hid (∀ W, Below w.heap.size w W → Calls Try.prog 87 #[.pointer (some ⟨x, 0, none⟩), .int .i64 d] W fun e w' => e = .returned (.bool (c.rep d).up) ∧ w' = W) := hideA fun W hb => by
  have := isUp_any W F x gs cap c b Fn _ va vm vb vt d (h.below hb)
  rw [hup, show decide (some (c.rep d).up = some true) = (c.rep d).up by cases (c.rep d).up <;> rfl] at this
  exact this
 have hN := h.nod _ hj
 rw [hnod, hnum] at hN
 obtain ⟨⟨wm, wl, hat, hF, hlt⟩, hdn⟩ := hN
 have hwf := hg.nodes.R d hd
 have HS : Hid (∀ W, Below w.heap.size w W → Calls Try.prog 86 #[.pointer (some ⟨b d.toNat, 0, none⟩)] W fun e w' => ∃ a c1 a' c', e = .returned (.agg #[.bool false, .int .i64 (c.rep d).epoch, .int .i64 (c.rep d).lock, .int .i64 ((c.rep d).commit : Int), .slice a (c.rep d).mems.length c1, .slice a' (c.rep d).log.length c']) ∧
   w'.ownsRow W.heap.size 3 1 (.slice a (c.rep d).mems.length c1) (c.rep d).mems.length (ints (c.rep d).mems) ∧ w'.ownsRow W.heap.size 59 5 (.slice a' (c.rep d).log.length c') (c.rep d).log.length (ints (entsNums (c.rep d).log)) ∧ Below W.heap.size W w') := hideA fun W hb => repStatus_any _ d (c.rep d) wm wl W (hat.below hb) (hwf.ok h.n5)
 have HI := hideA h
 have hxl : x < w.heap.size := h.lt x (h.inO x (.inl rfl))
 have hx1 : ¬ x = w.heap.size := by omega
 have hx2 : ¬ w.heap.size = x := by omega
 clear h hat hwf hnod hup e0
 generalize c.rep d = r at *
 go_enter Try.func72, Try.ntmps72
 go_upto_region 1 with fail
 obtain ⟨X, hX, hbX, hM⟩ := box_more1 w #[.bool false, .int .i64 0, .int .i64 0, .int .i64 0, .slice none 0 0, .slice none 0 0] 136
 rw [hX]
 clear hX
 have c1 := cell_of_heap (HI.out.below hbX).bag.blk 1
 have HM := hideA hM
 clear hM
 go_wp2_with fail
 refine (HP.out X hbX).mono ?_
 rintro e W ⟨rfl, rfl⟩
 clear c1
 go_wp2_with fail
 refine (HS.out W hbX).mono ?_
 rintro e Y ⟨sa, sc, sa', sc', rfl, o1, o2, hbY⟩
 have hbWY := hbX.trans (hbY.mono hbX.size)
 have HMY := hideA ((hbY.block _ (Array.getElem?_eq_some_iff.1 HM.out).1).trans HM.out)
 have HO := hideA (And.intro o1 o2)
 clear o1 o2
 go_upto_region 5 with fail
 obtain ⟨Z, hZ, hbZ, hMZ⟩ := box_more1 Y #[.bool false, .int .i64 r.epoch, .int .i64 r.lock, .int .i64 (r.commit : Int), .slice sa r.mems.length sc, .slice sa' r.log.length sc'] 136
 rw [hZ]
 clear hZ
 have hbWZ := hbWY.trans (hbZ.mono hbWY.size)
 have HMZ := hideA ((hbZ.block _ (Array.getElem?_eq_some_iff.1 HMY.out).1).trans HMY.out)
 have HOZ : Hid (Z.ownsRow W.heap.size 3 1 (.slice sa r.mems.length sc) r.mems.length (ints r.mems) ∧ Z.ownsRow W.heap.size 59 5 (.slice sa' r.log.length sc') r.log.length (ints (entsNums r.log))) := hideA ⟨owns_kept HO.out.1 fun k _ hk => hbZ.block k hk, owns_kept HO.out.2 fun k _ hk => hbZ.block k hk⟩
 have hne1 : ¬ w.heap.size = Y.heap.size := by have := (Array.getElem?_eq_some_iff.1 HMY.out).1; omega
 have hne2 : ¬ Y.heap.size = w.heap.size := fun e => hne1 e.symm
 have gZ := fun j => cell_of_heap hMZ j
 have fZ := fun j => frozen_of_heap hMZ j
 have gW := fun j => cell_of_heap HMZ.out j
 have fW := fun j => frozen_of_heap HMZ.out j
 have HMZ2 := hideA hMZ
 clear hMZ
 go_wp2_with fail
 refine (HU.out Z hbWZ).mono ?_
 rintro e V ⟨rfl, rfl⟩
 go_wp2_with fail
 have n1 := blk_type HMZ2.out HOZ.out.1 (by decide)
 have n2 := blk_type HMZ.out HOZ.out.1 (by decide)
 have n3 := blk_type HMZ2.out HOZ.out.2 (by decide)
 have n4 := blk_type HMZ.out HOZ.out.2 (by decide)
 refine bodyPost_ret (v := .tuple #[.agg #[.bool r.up, .int .i64 r.epoch, .int .i64 r.lock, .int .i64 (r.commit : Int), .slice sa r.mems.length sc, .slice sa' r.log.length sc'], .int .i64 0]) (by simp [results, Try.results72, go_sem, gW]) rfl ?_
 refine ⟨_, _, rfl, owns_base (ownsRow_setCell_other (ownsRow_setCell_other (ownsRow_setCell_other (ownsRow_setCell_other (ownsRow_setCell_other (ownsRow_setCell_other (ownsRow_setCell_other HOZ.out.1 n1 _) n2 _) n2 _) n2 _) n2 _) n2 _) n2 _) hbX.size, owns_base (ownsRow_setCell_other (ownsRow_setCell_other (ownsRow_setCell_other (ownsRow_setCell_other (ownsRow_setCell_other (ownsRow_setCell_other (ownsRow_setCell_other HOZ.out.2 n3 _) n4 _) n4 _) n4 _) n4 _) n4 _) n4 _) hbX.size, ?_⟩
 iterate 6 refine Below.setCell ?_ (by exact Nat.le_refl _) _
 exact Below.setCell hbWZ (by have := hbWY.size; exact this) _
set_option maxRecDepth 100000 in
set_option maxHeartbeats 1000000 in
theorem cluBallots_any {w : World} {F : Nat → Prop} {x : Nat} {c : Clu} {E : Int} {g : Gh} (d : Int) (h : CAt w F x c) (hg : Good c E g) (hd : isAcc d) :
  Calls Try.prog 74 #[.pointer (some ⟨x, 0, none⟩), .int .i64 d] w fun r w' => ∃ vm, r = .returned (.tuple #[.agg #[.bool (c.acc d).up, .int .i64 (c.acc d).epoch, vm], .int .i64 0]) ∧
   w'.ownsRow w.heap.size 3 1 vm (c.acc d).mems.length (ints (c.acc d).mems) ∧ Below w.heap.size w w' := by
 obtain ⟨gs, cap, b, Fn, vr, va, vm, vb, vt, h⟩ := h
 obtain ⟨ar, cr, hvr⟩ := owns_shape h.ra
 subst hvr
 have hp := acc_place h.n5 hd
 have hj := nodPlace_lt hp
 have hnum := nodPlace_num hp
 have hnod := acc_nod hd h.n5 hp
 have hup : c.upOf d = some (c.acc d).up := by rw [upOf_nod, hp]; simp [hnod, Nod.up]
 have e0 : (if 100 ≤ d ∧ d < 100 + ((3 : Nat) : Int) then Value.tuple #[.pointer (some ⟨b (c.reps.length + (d - 100).toNat), 0, none⟩), .bool true] else .tuple #[.pointer none, .bool false]) = .tuple #[.pointer (some ⟨b (c.reps.length + (d - 100).toNat), 0, none⟩), .bool true] := if_pos (by have := hd.1; have := hd.2; omega)
 have HP : Hid (∀ W, Below w.heap.size w W → Calls Try.prog 89 #[.slice ar 3 cr, .int .i64 100, .int .i64 d] W fun e w' => e = .returned (.tuple #[.pointer (some ⟨b (c.reps.length + (d - 100).toNat), 0, none⟩), .bool true]) ∧ w' = W) := hideA fun W hb => by
  have := pickAcc_any _ b c.reps.length 3 100 d W (h.below hb).ra (by omega) (by omega)
  rw [e0] at this
  exact this
 have HU : Hid (∀ W, Below w.heap.size w W → Calls Try.prog 87 #[.pointer (some ⟨x, 0, none⟩), .int .i64 d] W fun e w' => e = .returned (.bool (c.acc d).up) ∧ w' = W) := hideA fun W hb => by
  have := isUp_any W F x gs cap c b Fn vr _ vm vb vt d (h.below hb)
  rw [hup, show decide (some (c.acc d).up = some true) = (c.acc d).up by cases (c.acc d).up <;> rfl] at this
  exact this
 have hN := h.nod _ hj
 rw [hnod, hnum] at hN
 have hat := hN
 have hwf := hg.nodes.A d hd
 have HS : Hid (∀ W, Below w.heap.size w W → Calls Try.prog 90 #[.pointer (some ⟨b (c.reps.length + (d - 100).toNat), 0, none⟩)] W fun e w' => ∃ a c1, e = .returned (.agg #[.bool false, .int .i64 (c.acc d).epoch, .slice a (c.acc d).mems.length c1]) ∧ w'.ownsRow W.heap.size 3 1 (.slice a (c.acc d).mems.length c1) (c.acc d).mems.length (ints (c.acc d).mems) ∧ Below W.heap.size W w') := hideA fun W hb => accBallots_any _ _ d (c.acc d) W (by obtain ⟨z1, z2, z3, z4⟩ := hat; exact ⟨z1, z2, z3, z4.below hb⟩) (hwf.ok h.n5)
 have HI := hideA h
 have hxl : x < w.heap.size := h.lt x (h.inO x (.inl rfl))
 have hx1 : ¬ x = w.heap.size := by omega
 have hx2 : ¬ w.heap.size = x := by omega
 clear h hat hwf hnod hup e0
 generalize c.acc d = r at *
 go_enter Try.func74, Try.ntmps74
 go_upto_region 1 with fail
 obtain ⟨X, hX, hbX, hM⟩ := box_more1 w #[.bool false, .int .i64 0, .slice none 0 0] 140
 rw [hX]
 clear hX
 have c1 := cell_of_heap (HI.out.below hbX).bag.blk 2
 have HM := hideA hM
 clear hM
 go_wp2_with fail
 refine (HP.out X hbX).mono ?_
 rintro e W ⟨rfl, rfl⟩
 clear c1
 go_wp2_with fail
 refine (HS.out W hbX).mono ?_
 rintro e Y ⟨sa, sc, rfl, o1, hbY⟩
 have hbWY := hbX.trans (hbY.mono hbX.size)
 have HMY := hideA ((hbY.block _ (Array.getElem?_eq_some_iff.1 HM.out).1).trans HM.out)
 have HO := hideA o1
 clear o1
 go_upto_region 5 with fail
 obtain ⟨Z, hZ, hbZ, hMZ⟩ := box_more1 Y #[.bool false, .int .i64 r.epoch, .slice sa r.mems.length sc] 140
 rw [hZ]
 clear hZ
 have hbWZ := hbWY.trans (hbZ.mono hbWY.size)
 have HMZ := hideA ((hbZ.block _ (Array.getElem?_eq_some_iff.1 HMY.out).1).trans HMY.out)
 have HOZ : Hid (Z.ownsRow W.heap.size 3 1 (.slice sa r.mems.length sc) r.mems.length (ints r.mems)) := hideA (owns_kept HO.out fun k _ hk => hbZ.block k hk)
 have hne1 : ¬ w.heap.size = Y.heap.size := by have := (Array.getElem?_eq_some_iff.1 HMY.out).1; omega
 have hne2 : ¬ Y.heap.size = w.heap.size := fun e => hne1 e.symm
 have gZ := fun j => cell_of_heap hMZ j
 have fZ := fun j => frozen_of_heap hMZ j
 have gW := fun j => cell_of_heap HMZ.out j
 have fW := fun j => frozen_of_heap HMZ.out j
 have HMZ2 := hideA hMZ
 clear hMZ
 go_wp2_with fail
 refine (HU.out Z hbWZ).mono ?_
 rintro e V ⟨rfl, rfl⟩
 go_wp2_with fail
 have n1 := blk_type HMZ2.out HOZ.out (by decide)
 have n2 := blk_type HMZ.out HOZ.out (by decide)
 refine bodyPost_ret (v := .tuple #[.agg #[.bool r.up, .int .i64 r.epoch, .slice sa r.mems.length sc], .int .i64 0]) (by simp [results, Try.results74, go_sem, gW]) rfl ?_
 refine ⟨_, rfl, owns_base (ownsRow_setCell_other (ownsRow_setCell_other (ownsRow_setCell_other (ownsRow_setCell_other HOZ.out n1 _) n2 _) n2 _) n2 _) hbX.size, ?_⟩
 iterate 3 refine Below.setCell ?_ (by exact Nat.le_refl _) _
 exact Below.setCell hbWZ (by have := hbWY.size; exact this) _
end Go.Proofs.Ytgieeeeeiggoeaa
