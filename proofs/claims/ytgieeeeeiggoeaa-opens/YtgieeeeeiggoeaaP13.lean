import Derived.Test.YtgieeeeeiggoeaaP11
import Derived.Test.YtgieeeeeiggoeaaP12
import Derived.BigRegion
namespace Go.Proofs.Ytgieeeeeiggoeaa
open Go.RowKit Go.Shelf
theorem rc_lt {w : World} {b o : Nat} {v : Value} (h : w.cell? ⟨b, o, none⟩ = some v) : b < w.heap.size := by
 apply Nat.lt_of_not_le
 intro hle
 unfold World.cell? at h
 simp [Array.getElem?_eq_none hle] at h
set_option maxRecDepth 100000 in
set_option maxHeartbeats 2000000 in
theorem refStatus_any {w : World} {F : Nat → Prop} {y : Nat} {c : Clu} (d : Int) (h : RefAt w F y c) (hn : c.reps.length ≤ 5) (hd : c.isRep d) :
  Calls Try.prog 73 #[.pointer (some ⟨y, 0, none⟩), .int .i64 d] w fun e w' => ∃ vm vl, e = .returned (.tuple #[.agg #[.bool (c.rep d).up, .int .i64 (c.rep d).epoch, .int .i64 (c.rep d).lock, .int .i64 ((c.rep d).commit : Int), vm, vl], .int .i64 0]) ∧ IntOwn w vm (c.rep d).mems ∧ LogOwn w vl (c.rep d).log ∧ Below w.heap.size w w' := by
 obtain ⟨br, ba, vr, va, vm, vb, vt, h⟩ := h
 obtain ⟨ar, cr, hvr⟩ := owns_shape h.rr
 subst hvr
 have hd1 := hd.1
 have hd2 := hd.2
 obtain ⟨i, rfl⟩ : ∃ i : Nat, d = (i : Int) := ⟨d.toNat, by omega⟩
 have hi : i < c.reps.length := by omega
 obtain ⟨wm, wl, hb, hm, hl, -, -, -⟩ := h.reps i hi
 obtain ⟨g, cap, hv, -, -⟩ := h.rr.form (by omega)
 cases hv
 have hcell := World.ownsRow.cellAt h.rr i (by omega)
 rw [ptrs_at br 0 c.reps.length i hi, Nat.zero_add] at hcell
 have hk : kindOf c.reps.length (i : Int) = (1, (i : Int)) := by unfold kindOf; rw [if_pos ⟨by omega, by omega⟩]
 obtain ⟨am, cm, hvm⟩ := owns_shape hm
 subst hvm
 obtain ⟨al, cl, hvl⟩ := owns_shape hl
 subst hvl
 have hyl : y < w.heap.size := (Array.getElem?_eq_some_iff.1 h.blk).1
 have hbl : br i < w.heap.size := (Array.getElem?_eq_some_iff.1 hb).1
 have hgl : g < w.heap.size := rc_lt hcell
 have hy1 : ¬ y = w.heap.size := by omega
 have hy2 : ¬ w.heap.size = y := by omega
 have hb1 : ¬ br i = w.heap.size := by omega
 have hb2 : ¬ w.heap.size = br i := by omega
 obtain ⟨X, hX, hbX, hM⟩ := box_more1 w #[.bool false, .int .i64 0, .int .i64 0, .int .i64 0, .slice none 0 0, .slice none 0 0] 136
 have c0 : X.cell? ⟨y, 0, none⟩ = some (.slice (some ⟨g, 0, none⟩) c.reps.length cr) := cell_later hbX (cell_of_heap h.blk 0)
 have cg := cell_later hbX hcell
 have hbXb := (hbX.block _ hbl).trans hb
 generalize c.rep (i : Int) = r at *
 have r0 : X.cell? ⟨br i, 0, none⟩ = some (.bool r.up) := cell_of_heap hbXb 0
 have r1 : X.cell? ⟨br i, 1, none⟩ = some (.int .i64 r.epoch) := cell_of_heap hbXb 1
 have r2 : X.cell? ⟨br i, 2, none⟩ = some (.int .i64 r.lock) := cell_of_heap hbXb 2
 have r3 : X.cell? ⟨br i, 3, none⟩ = some (.slice am r.mems.length cm) := cell_of_heap hbXb 3
 have r4 : X.cell? ⟨br i, 4, none⟩ = some (.slice al r.log.length cl) := cell_of_heap hbXb 4
 have r6 : X.cell? ⟨br i, 6, none⟩ = some (.int .i64 (r.commit : Int)) := cell_of_heap hbXb 6
 have HK := hideA (refKind_any y c.reps.length _ cr (i : Int) X c0 hn (by omega))
 rw [hk] at HK
 have gW := fun j => cell_of_heap hM j
 have fW := fun j => frozen_of_heap hM j
 have HO := hideA (And.intro hm hl)
 have hi1 : (i : Int) < (c.reps.length : Int) := by omega
 have hi0 : (0 : Int) ≤ (i : Int) := by omega
 clear h hb hm hl hcell hk hd
 go_enter Try.func73, Try.ntmps73
 go_upto_region 1 with fail
 clear hX hM hbXb
 go_wp2_with fail
 refine HK.out.mono ?_
 rintro e W ⟨rfl, rfl⟩
 go_wp2_with fail
 go_region
 go_wp2_with fail
 refine bodyPost_ret (v := .tuple #[.agg #[.bool r.up, .int .i64 r.epoch, .int .i64 r.lock, .int .i64 (r.commit : Int), .slice am r.mems.length cm, .slice al r.log.length cl], .int .i64 0]) (by simp [results, Try.results73, go_sem, gW]) rfl ?_
 refine ⟨_, _, rfl, HO.out.1, HO.out.2, ?_⟩
 refine Below.drew ?_
 iterate 6 refine Below.setCell ?_ (by exact Nat.le_refl _) _
 exact hbX
set_option maxRecDepth 100000 in
set_option maxHeartbeats 2000000 in
theorem refStatus_no {w : World} {F : Nat → Prop} {y : Nat} {c : Clu} (d : Int) (h : RefAt w F y c) (hn : c.reps.length ≤ 5) (hd : ¬ c.isRep d) (hi : -9223372036854775808 ≤ d ∧ d ≤ 9223372036854775807) :
  Calls Try.prog 73 #[.pointer (some ⟨y, 0, none⟩), .int .i64 d] w fun e w' => e = .returned (.tuple #[.agg #[.bool false, .int .i64 0, .int .i64 0, .int .i64 0, .slice none 0 0, .slice none 0 0], .int .i64 4]) ∧ Below w.heap.size w w' := by
 obtain ⟨br, ba, vr, va, vm, vb, vt, h⟩ := h
 obtain ⟨ar, cr, hvr⟩ := owns_shape h.rr
 subst hvr
 have hyl : y < w.heap.size := (Array.getElem?_eq_some_iff.1 h.blk).1
 have hy1 : ¬ y = w.heap.size := by omega
 have hy2 : ¬ w.heap.size = y := by omega
 obtain ⟨X, hX, hbX, hM⟩ := box_more1 w #[.bool false, .int .i64 0, .int .i64 0, .int .i64 0, .slice none 0 0, .slice none 0 0] 136
 have c0 : X.cell? ⟨y, 0, none⟩ = some (.slice ar c.reps.length cr) := cell_later hbX (cell_of_heap h.blk 0)
 have HK := hideA (refKind_any y c.reps.length _ cr d X c0 hn hi)
 have hk : (kindOf c.reps.length d).1 ≠ 1 := by
  unfold kindOf
  rw [if_neg (fun e => hd ⟨e.1, e.2⟩)]
  split
  ·show (2 : Int) ≠ 1; omega
  ·split
   ·show (3 : Int) ≠ 1; omega
   ·show (0 : Int) ≠ 1; omega
 generalize (kindOf c.reps.length d).1 = k1 at *
 generalize (kindOf c.reps.length d).2 = k2 at *
 have hk' : (k1 == 1) = false := by simpa using hk
 have gW := fun j => cell_of_heap hM j
 have fW := fun j => frozen_of_heap hM j
 clear h hd
 go_enter Try.func73, Try.ntmps73
 go_upto_region 1 with fail
 clear hX hM
 go_wp2_with fail
 refine HK.out.mono ?_
 rintro e W ⟨rfl, rfl⟩
 go_wp2_with fail
 refine bodyPost_ret (v := .tuple #[.agg #[.bool false, .int .i64 0, .int .i64 0, .int .i64 0, .slice none 0 0, .slice none 0 0], .int .i64 4]) (by simp [results, Try.results73, go_sem, gW]) rfl ⟨rfl, ?_⟩
 iterate 6 refine Below.setCell ?_ (by exact Nat.le_refl _) _
 exact hbX
set_option maxRecDepth 100000 in
set_option maxHeartbeats 2000000 in
theorem refBallots_no {w : World} {F : Nat → Prop} {y : Nat} {c : Clu} (d : Int) (h : RefAt w F y c) (hn : c.reps.length ≤ 5) (hd : ¬ isAcc d) (hi : -9223372036854775808 ≤ d ∧ d ≤ 9223372036854775807) :
  Calls Try.prog 75 #[.pointer (some ⟨y, 0, none⟩), .int .i64 d] w fun e w' => e = .returned (.tuple #[.agg #[.bool false, .int .i64 0, .slice none 0 0], .int .i64 4]) ∧ Below w.heap.size w w' := by
 obtain ⟨br, ba, vr, va, vm, vb, vt, h⟩ := h
 obtain ⟨ar, cr, hvr⟩ := owns_shape h.rr
 subst hvr
 have hyl : y < w.heap.size := (Array.getElem?_eq_some_iff.1 h.blk).1
 have hy1 : ¬ y = w.heap.size := by omega
 have hy2 : ¬ w.heap.size = y := by omega
 obtain ⟨X, hX, hbX, hM⟩ := box_more1 w #[.bool false, .int .i64 0, .slice none 0 0] 140
 have c0 : X.cell? ⟨y, 0, none⟩ = some (.slice ar c.reps.length cr) := cell_later hbX (cell_of_heap h.blk 0)
 have HK := hideA (refKind_any y c.reps.length _ cr d X c0 hn hi)
 have hk : (kindOf c.reps.length d).1 ≠ 2 := by
  unfold kindOf
  split
  ·show (1 : Int) ≠ 2; omega
  ·rw [if_neg (fun e : 100 ≤ d ∧ d < 103 => hd ⟨e.1, e.2⟩)]
   split
   ·show (3 : Int) ≠ 2; omega
   ·show (0 : Int) ≠ 2; omega
 generalize (kindOf c.reps.length d).1 = k1 at *
 generalize (kindOf c.reps.length d).2 = k2 at *
 have hk' : (k1 == 2) = false := by simpa using hk
 have gW := fun j => cell_of_heap hM j
 have fW := fun j => frozen_of_heap hM j
 clear h hd
 go_enter Try.func75, Try.ntmps75
 go_upto_region 1 with fail
 clear hX hM
 go_wp2_with fail
 refine HK.out.mono ?_
 rintro e W ⟨rfl, rfl⟩
 go_wp2_with fail
 refine bodyPost_ret (v := .tuple #[.agg #[.bool false, .int .i64 0, .slice none 0 0], .int .i64 4]) (by simp [results, Try.results75, go_sem, gW]) rfl ⟨rfl, ?_⟩
 iterate 3 refine Below.setCell ?_ (by exact Nat.le_refl _) _
 exact hbX
set_option maxRecDepth 100000 in
set_option maxHeartbeats 2000000 in
theorem refBallots_any {w : World} {F : Nat → Prop} {y : Nat} {c : Clu} (d : Int) (h : RefAt w F y c) (hn : c.reps.length ≤ 5) (hd : isAcc d) :
  Calls Try.prog 75 #[.pointer (some ⟨y, 0, none⟩), .int .i64 d] w fun e w' => ∃ vm, e = .returned (.tuple #[.agg #[.bool (c.acc d).up, .int .i64 (c.acc d).epoch, vm], .int .i64 0]) ∧ IntOwn w vm (c.acc d).mems ∧ Below w.heap.size w w' := by
 obtain ⟨br, ba, vr, va, vm, vb, vt, h⟩ := h
 obtain ⟨ar, cr, hvr⟩ := owns_shape h.rr
 subst hvr
 have hd1 := hd.1
 have hd2 := hd.2
 obtain ⟨i, rfl⟩ : ∃ i : Nat, d = 100 + (i : Int) := ⟨(d - 100).toNat, by omega⟩
 have hi : i < 3 := by omega
 obtain ⟨wm, wv, hb, hm, -, -⟩ := h.accs i hi
 obtain ⟨g, cap, hv, -, -⟩ := h.ra.form (by omega)
 subst hv
 have hcell := World.ownsRow.cellAt h.ra i (by omega)
 rw [ptrs_at ba 0 3 i hi, Nat.zero_add] at hcell
 have hk : kindOf c.reps.length (100 + (i : Int)) = (2, (i : Int)) := by
  unfold kindOf
  rw [if_neg (by omega), if_pos ⟨by omega, by omega⟩]
  simp
  omega
 obtain ⟨am, cm, hvm⟩ := owns_shape hm
 subst hvm
 have hyl : y < w.heap.size := (Array.getElem?_eq_some_iff.1 h.blk).1
 have hbl : ba i < w.heap.size := (Array.getElem?_eq_some_iff.1 hb).1
 have hgl : g < w.heap.size := rc_lt hcell
 have hy1 : ¬ y = w.heap.size := by omega
 have hy2 : ¬ w.heap.size = y := by omega
 have hb1 : ¬ ba i = w.heap.size := by omega
 have hb2 : ¬ w.heap.size = ba i := by omega
 obtain ⟨X, hX, hbX, hM⟩ := box_more1 w #[.bool false, .int .i64 0, .slice none 0 0] 140
 have c0 : X.cell? ⟨y, 0, none⟩ = some (.slice ar c.reps.length cr) := cell_later hbX (cell_of_heap h.blk 0)
 have c1 : X.cell? ⟨y, 1, none⟩ = some (.slice (some ⟨g, 0, none⟩) 3 cap) := cell_later hbX (cell_of_heap h.blk 1)
 have cg := cell_later hbX hcell
 have hbXb := (hbX.block _ hbl).trans hb
 generalize c.acc (100 + (i : Int)) = r at *
 have r0 : X.cell? ⟨ba i, 0, none⟩ = some (.bool r.up) := cell_of_heap hbXb 0
 have r1 : X.cell? ⟨ba i, 1, none⟩ = some (.int .i64 r.epoch) := cell_of_heap hbXb 1
 have r2 : X.cell? ⟨ba i, 2, none⟩ = some (.slice am r.mems.length cm) := cell_of_heap hbXb 2
 have HK := hideA (refKind_any y c.reps.length _ cr (100 + (i : Int)) X c0 hn (by omega))
 rw [hk] at HK
 have gW := fun j => cell_of_heap hM j
 have fW := fun j => frozen_of_heap hM j
 have HO := hideA hm
 have hi1 : (i : Int) < 3 := by omega
 have hi0 : (0 : Int) ≤ (i : Int) := by omega
 clear h hb hm hcell hk hd
 go_enter Try.func75, Try.ntmps75
 go_upto_region 1 with fail
 clear hX hM hbXb
 go_wp2_with fail
 refine HK.out.mono ?_
 rintro e W ⟨rfl, rfl⟩
 go_wp2_with fail
 go_region
 go_wp2_with fail
 refine bodyPost_ret (v := .tuple #[.agg #[.bool r.up, .int .i64 r.epoch, .slice am r.mems.length cm], .int .i64 0]) (by simp [results, Try.results75, go_sem, gW]) rfl ?_
 refine ⟨_, rfl, HO.out, ?_⟩
 refine Below.drew ?_
 iterate 3 refine Below.setCell ?_ (by exact Nat.le_refl _) _
 exact hbX
theorem infoStr2 : (Try.prog.info? 9).map (fun i => (i.zero, i.size, i.bytes)) = some (some (.string ⟨#[]⟩), 1, 16) := by kernel_rfl
theorem frV_at (l : List (List UInt8 × Bool)) (i : Nat) (f : List UInt8 × Bool) (hf : l[i]? = some f) : (frV l)[i * 2]? = some (.string (bs f.1)) := by
 induction l generalizing i with
 | nil => simp at hf
 | cons a t ih =>
  have e : frV (a :: t) = [Value.string (bs a.1), .bool a.2] ++ frV t := by simp [frV]
  rw [e]
  cases i with
  | zero =>
   simp at hf
   subst hf
   rfl
  | succ i =>
   rw [List.getElem?_append_right (by simp; omega), show (i + 1) * 2 - [Value.string (bs a.1), Value.bool a.2].length = i * 2 by simp; omega]
   exact ih i (by simpa using hf)
set_option maxRecDepth 100000 in
set_option maxHeartbeats 2000000 in
theorem refTexts_any {w : World} {F : Nat → Prop} {y : Nat} {c : Clu} (h : RefAt w F y c) (hl : c.bag.length ≤ 1000) :
  Calls Try.prog 66 #[.pointer (some ⟨y, 0, none⟩)] w fun e w' => ∃ v, e = .returned v ∧ w'.ownsRow w.heap.size 9 1 v c.bag.length (strs (c.bag.map Prod.fst)) ∧ Below w.heap.size w w' := by
 obtain ⟨br, ba, vr, va, vm, vb, vt, h⟩ := h
 obtain ⟨ab, cb, hvb⟩ := owns_shape h.bag
 subst hvb
 have c3 : w.cell? ⟨y, 3, none⟩ = some (.slice ab c.bag.length cb) := cell_of_heap h.blk 3
 have HB := hideA h.bag
 clear h
 go_enter Try.func66, Try.ntmps66
 go_wp2_with fail
 go_loopw [3, 4] (fun v i wr => ∃ k : Nat, k ≤ c.bag.length ∧ i = .int .i64 k ∧ wr.ownsRow w.heap.size 9 1 v k (strs ((c.bag.take k).map Prod.fst)) ∧ Below w.heap.size w wr) (fun _ i _ => c.bag.length - (intOf i).toNat)
 case atStart => exact ⟨0, Nat.zero_le _, rfl, World.ownsRow_nil _ _ _ _, Below.refl _ _⟩
 case round =>
  obtain ⟨k, hk, rfl, hown, hb⟩ := hrel
  obtain ⟨av, cv, hv⟩ := owns_shape hown
  subst hv
  have r3 := cell_later hb c3
  have hk0 : (0 : Int) ≤ (k : Int) := by omega
  by_cases hlt : k < c.bag.length
  ·have hk1 : (k : Int) < (c.bag.length : Int) := by omega
   obtain ⟨g, cap, hvb, -, -⟩ := HB.out.form (by omega)
   cases hvb
   have hf : c.bag[k]? = some c.bag[k] := List.getElem?_eq_getElem hlt
   have hcell := World.ownsRow.cellAt HB.out (k * 2) (by omega)
   rw [frV_at _ _ _ hf] at hcell
   have ck := cell_later hb hcell
   have htk : Hid (strs ((c.bag.take (k + 1)).map Prod.fst) = strs ((c.bag.take k).map Prod.fst) ++ [.string (bs c.bag[k].1)]) := hideA (by rw [List.take_succ_eq_append_getElem hlt, List.map_append, strs_append]; rfl)
   generalize c.bag[k] = f at *
   obtain ⟨g', cap', W1, hrun, ho1, hg1, hwh⟩ := append_row (t := 74) infoStr2 Try.underlying74 rfl (by decide) (wr.alloc (.cells #[.string (bs f.1)] 9)) w.heap.size (.slice av k cv) k (strs ((c.bag.take k).map Prod.fst)) [.string (bs f.1)] wr.heap.size (hown.alloc _) (heap_new _ _) rfl (by intro u hu; simp at hu; subst hu; rfl) (by omega) (by decide) (by simp; have := hb.size; omega)
   have HR := hideA hrun
   have hbW : Below w.heap.size w W1 := hb.trans ((((Moved.refl wr (fun j => (Value.slice av k cv).ownBlock = some j)).alloc _).grown hg1 (fun j _ e => e)).to_below (fun j e => (hown.lt j e).1) hb.size)
   have HO := hideA (And.intro ho1 hbW)
   clear hrun ho1 hg1 hbW hcell hown
   go_wp2_with (at_builtin; refine wpList_append_run rfl (.tmp 14) (.tmp 23) 74 rfl _ _ _ _ (by simp [Act.eval]) (by simp [Act.eval]) HR.out ?_)
   go_wp2_with fail
   refine ⟨⟨k + 1, by omega, by go_num, by rw [htk.out]; exact HO.out.1, HO.out.2⟩, by simp [intOf]; omega⟩
  ·obtain rfl : k = c.bag.length := by omega
   rw [List.take_length] at hown
   have HO := hideA (And.intro hown hb)
   clear hown
   go_wp2_with fail
   go_ret
   exact ⟨_, rfl, HO.out.1, HO.out.2⟩
end Go.Proofs.Ytgieeeeeiggoeaa
