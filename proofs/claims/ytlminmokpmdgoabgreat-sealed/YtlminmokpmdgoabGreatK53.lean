import Derived.Test.YtlminmokpmdgoabGreatK50
import Derived.Test.YtlminmokpmdgoabGreatK51
import Derived.Test.YtlminmokpmdgoabGreatK52
import Derived.Test.YtlminmokpmdgoabGreatK47
import Derived.ProofKit
import Derived.OpenShut
import Derived.Deep.Slices
import Derived.SizedLaws
namespace Go.Proofs.YtlminmokpmdgoabGreat
open Go.RowKit Go.Shelf
set_option maxRecDepth 100000 in
set_option maxHeartbeats 4000000 in
theorem kstepL_any {w0 w : World} {p x : Nat} {r : Run} {B : Nat} (o : KStep) (vO : Value) (h : RunAt w0 w p x r) (hf : Fine r B) (hB : B + 1 ≤ 2999999999999) (_ho : o.Fit) (hL : IntsAt w vO o.L) (hne : o.kind ≠ 1 ∧ o.kind ≠ 2 ∧ o.kind ≠ 3 ∧ o.kind ≠ 8 ∧ o.kind ≠ 9 ∧ o.kind ≠ 10) (hlt : o.kind < 4) :
  Calls Tryz.prog 7 #[.pointer (some ⟨p, 0, none⟩), .agg #[.int .i64 o.kind, .int .i64 o.N, .int .i64 o.I, .int .i64 o.A, .int .i64 o.B, vO]] w fun z w' => (∃ v, z = .returned v) ∧ RunAt w0 w' p x (r.step (mute o)) := by
 obtain ⟨E, g, hri⟩ := hf.ri
 have hm := hri.mid
 have htl := hf.tl
 have hwl := hf.wl
 have hn5 := hm.good.nodes.n5
 have hn1 := hm.good.nodes.n1
 have hrn1 : 1 ≤ r.n := by have := hm.n; omega
 have hrn5 : r.n ≤ 5 := by have := hm.n; omega
 obtain ⟨FX, FR, vW, vF, vL, hR, hn, hb0⟩ := h
 obtain ⟨aO, cO, rfl, hOL⟩ := hL
 have HOL : Hid (IntsAt w (.slice aO o.L.length cO) o.L) := hideA ⟨aO, cO, rfl, hOL⟩
 have hpl : p < w.heap.size := hR.ownLt (.inl rfl)
 have hp1 : ¬ p = w.heap.size := by omega
 have hp2 : ¬ w.heap.size = p := by omega
 obtain ⟨X, hX, hbX, hM⟩ := box_more1 w #[.int .i64 o.kind, .int .i64 o.N, .int .i64 o.I, .int .i64 o.A, .int .i64 o.B, .slice aO o.L.length cO] 37
 have hRX := hR.below hbX
 have hsX := hbX.size
 have hqF : ¬ (FX w.heap.size ∨ OwnR p vW vF vL FR w.heap.size) := fun e => e.elim (fun e => Nat.lt_irrefl _ (cApi.lt hR.clu e)) (fun e => Nat.lt_irrefl _ (hR.ownLt e))
 have hb0X := hb0.trans (hbX.mono hb0.size)
 have HK : Hid (∀ W, Below X.heap.size X W → RunIn W p x FX FR r vW vF vL ∧ W.heap[w.heap.size]? = some (.cells #[.int .i64 o.kind, .int .i64 o.N, .int .i64 o.I, .int .i64 o.A, .int .i64 o.B, .slice aO o.L.length cO] 37) ∧ Below w0.heap.size w0 W) := hideA fun W hb => ⟨hRX.below hb, (hb.block _ (Array.getElem?_eq_some_iff.1 hM).1).trans hM, hb0X.trans (hb.mono hb0X.size)⟩
 have HN := hideA hn
 have c0 : X.cell? ⟨p, 0, none⟩ = some (.pointer (some ⟨x, 0, none⟩)) := cell_of_heap hRX.blk 0
 have c1 : X.cell? ⟨p, 1, none⟩ = some (.int .i64 (r.n : Int)) := cell_of_heap hRX.blk 1
 have g0 := cell_of_heap hM 0
 have g1 := cell_of_heap hM 1
 have g2 := cell_of_heap hM 2
 have g3 := cell_of_heap hM 3
 have g4 := cell_of_heap hM 4
 have g5 := cell_of_heap hM 5
 have hpok : POK r.x := ⟨⟨_, _, hm.good⟩, by omega⟩
 have hbd := (Below.refl X.heap.size X).drew
 have hkk : o.kind < 4 ∨ 7 < o.kind := .inl hlt
 have HV : Hid (r.step (mute o) = r) := hideA (step_none r o hne hkk)
 have HSt : Hid (StepAt w0 X p x w.heap.size #[.int .i64 o.kind, .int .i64 o.N, .int .i64 o.I, .int .i64 o.A, .int .i64 o.B, .slice aO o.L.length cO] r) := hideA ⟨⟨FX, FR, vW, vF, vL, hRX, hn, hb0X⟩, hpok, hM⟩
 obtain ⟨e1, e2, e3, e4, e5, e6⟩ := hne
 have d1 : (o.kind == 1) = false := by simpa using e1
 have d2 : (o.kind == 2) = false := by simpa using e2
 have d3 : (o.kind == 3) = false := by simpa using e3
 have d4 : (o.kind == 8) = false := by simpa using e4
 have d5 : (o.kind == 9) = false := by simpa using e5
 have d6 : (o.kind == 10) = false := by simpa using e6
 clear hR hRX hn hOL hM hkk
 go_enter Tryz.func7, Tryz.ntmps7
 all_goals (
  clear c0 c1 g1 g2 g3 g4 g5
  go_wp2_with fail
  refine (HSt.out.bag).mono ?_
  rintro e T ⟨rfl, hT⟩
  have HT := hideA hT
  have b0 := cell_of_heap hT.box 0
  clear hT
  generalize hbl : (r : Run).x.bag.length = bl at *
  by_cases hz : bl = 0
  ·subst hz
   clear b0
   go_wp2_with fail
   (try simp only [Exit.inBlock, Exit.then]); refine bodyPost_ret (results_none rfl _ _ _) rfl ?_
   rw [HV.out]
   exact ⟨⟨_, rfl⟩, HT.out.run⟩
  ·have hz1 : ((bl : Int) == 0) = false := by simp; omega
   have hz2 : ¬ (bl : Int) = 0 := by omega
   go_wp2_with fail
   (try simp only [Exit.inBlock, Exit.then]); refine bodyPost_ret (results_none rfl _ _ _) rfl ?_
   rw [HV.out]
   exact ⟨⟨_, rfl⟩, HT.out.run⟩
 )
set_option maxRecDepth 100000 in
set_option maxHeartbeats 4000000 in
theorem kstepG_any {w0 w : World} {p x : Nat} {r : Run} {B : Nat} (o : KStep) (vO : Value) (h : RunAt w0 w p x r) (hf : Fine r B) (hB : B + 1 ≤ 2999999999999) (_ho : o.Fit) (hL : IntsAt w vO o.L) (hne : o.kind ≠ 1 ∧ o.kind ≠ 2 ∧ o.kind ≠ 3 ∧ o.kind ≠ 8 ∧ o.kind ≠ 9 ∧ o.kind ≠ 10) (hlt : ¬ o.kind < 4) (hgt : 7 < o.kind) :
  Calls Tryz.prog 7 #[.pointer (some ⟨p, 0, none⟩), .agg #[.int .i64 o.kind, .int .i64 o.N, .int .i64 o.I, .int .i64 o.A, .int .i64 o.B, vO]] w fun z w' => (∃ v, z = .returned v) ∧ RunAt w0 w' p x (r.step (mute o)) := by
 obtain ⟨E, g, hri⟩ := hf.ri
 have hm := hri.mid
 have htl := hf.tl
 have hwl := hf.wl
 have hn5 := hm.good.nodes.n5
 have hn1 := hm.good.nodes.n1
 have hrn1 : 1 ≤ r.n := by have := hm.n; omega
 have hrn5 : r.n ≤ 5 := by have := hm.n; omega
 obtain ⟨FX, FR, vW, vF, vL, hR, hn, hb0⟩ := h
 obtain ⟨aO, cO, rfl, hOL⟩ := hL
 have HOL : Hid (IntsAt w (.slice aO o.L.length cO) o.L) := hideA ⟨aO, cO, rfl, hOL⟩
 have hpl : p < w.heap.size := hR.ownLt (.inl rfl)
 have hp1 : ¬ p = w.heap.size := by omega
 have hp2 : ¬ w.heap.size = p := by omega
 obtain ⟨X, hX, hbX, hM⟩ := box_more1 w #[.int .i64 o.kind, .int .i64 o.N, .int .i64 o.I, .int .i64 o.A, .int .i64 o.B, .slice aO o.L.length cO] 37
 have hRX := hR.below hbX
 have hsX := hbX.size
 have hqF : ¬ (FX w.heap.size ∨ OwnR p vW vF vL FR w.heap.size) := fun e => e.elim (fun e => Nat.lt_irrefl _ (cApi.lt hR.clu e)) (fun e => Nat.lt_irrefl _ (hR.ownLt e))
 have hb0X := hb0.trans (hbX.mono hb0.size)
 have HK : Hid (∀ W, Below X.heap.size X W → RunIn W p x FX FR r vW vF vL ∧ W.heap[w.heap.size]? = some (.cells #[.int .i64 o.kind, .int .i64 o.N, .int .i64 o.I, .int .i64 o.A, .int .i64 o.B, .slice aO o.L.length cO] 37) ∧ Below w0.heap.size w0 W) := hideA fun W hb => ⟨hRX.below hb, (hb.block _ (Array.getElem?_eq_some_iff.1 hM).1).trans hM, hb0X.trans (hb.mono hb0X.size)⟩
 have HN := hideA hn
 have c0 : X.cell? ⟨p, 0, none⟩ = some (.pointer (some ⟨x, 0, none⟩)) := cell_of_heap hRX.blk 0
 have c1 : X.cell? ⟨p, 1, none⟩ = some (.int .i64 (r.n : Int)) := cell_of_heap hRX.blk 1
 have g0 := cell_of_heap hM 0
 have g1 := cell_of_heap hM 1
 have g2 := cell_of_heap hM 2
 have g3 := cell_of_heap hM 3
 have g4 := cell_of_heap hM 4
 have g5 := cell_of_heap hM 5
 have hpok : POK r.x := ⟨⟨_, _, hm.good⟩, by omega⟩
 have hbd := (Below.refl X.heap.size X).drew
 have hkk : o.kind < 4 ∨ 7 < o.kind := .inr hgt
 have HV : Hid (r.step (mute o) = r) := hideA (step_none r o hne hkk)
 have HSt : Hid (StepAt w0 X p x w.heap.size #[.int .i64 o.kind, .int .i64 o.N, .int .i64 o.I, .int .i64 o.A, .int .i64 o.B, .slice aO o.L.length cO] r) := hideA ⟨⟨FX, FR, vW, vF, vL, hRX, hn, hb0X⟩, hpok, hM⟩
 obtain ⟨e1, e2, e3, e4, e5, e6⟩ := hne
 have d1 : (o.kind == 1) = false := by simpa using e1
 have d2 : (o.kind == 2) = false := by simpa using e2
 have d3 : (o.kind == 3) = false := by simpa using e3
 have d4 : (o.kind == 8) = false := by simpa using e4
 have d5 : (o.kind == 9) = false := by simpa using e5
 have d6 : (o.kind == 10) = false := by simpa using e6
 clear hR hRX hn hOL hM hkk
 go_enter Tryz.func7, Tryz.ntmps7
 all_goals (
  clear c0 c1 g1 g2 g3 g4 g5
  go_wp2_with fail
  refine (HSt.out.bag).mono ?_
  rintro e T ⟨rfl, hT⟩
  have HT := hideA hT
  have b0 := cell_of_heap hT.box 0
  clear hT
  generalize hbl : (r : Run).x.bag.length = bl at *
  by_cases hz : bl = 0
  ·subst hz
   clear b0
   go_wp2_with fail
   (try simp only [Exit.inBlock, Exit.then]); refine bodyPost_ret (results_none rfl _ _ _) rfl ?_
   rw [HV.out]
   exact ⟨⟨_, rfl⟩, HT.out.run⟩
  ·have hz1 : ((bl : Int) == 0) = false := by simp; omega
   have hz2 : ¬ (bl : Int) = 0 := by omega
   go_wp2_with fail
   (try simp only [Exit.inBlock, Exit.then]); refine bodyPost_ret (results_none rfl _ _ _) rfl ?_
   rw [HV.out]
   exact ⟨⟨_, rfl⟩, HT.out.run⟩
 )
theorem kstep_any {w0 w : World} {p x : Nat} {r : Run} {B : Nat} (o : KStep) (vO : Value) (h : RunAt w0 w p x r) (hf : Fine r B) (hB : B + 1 ≤ 2999999999999) (ho : o.Fit) (hL : IntsAt w vO o.L) :
  Calls Tryz.prog 7 #[.pointer (some ⟨p, 0, none⟩), o.val vO] w fun z w' => (∃ v, z = .returned v) ∧ RunAt w0 w' p x (r.step (mute o)) := by
 unfold KStep.val
 by_cases h1 : o.kind = 1
 ·rw [h1]; exact kstep1_any o vO h hf hB ho hL h1
 by_cases h2 : o.kind = 2
 ·rw [h2]
  have := pickI_lt o.N 2 (by omega)
  rcases (by omega : pickI o.N 2 = 0 ∨ pickI o.N 2 = 1) with q | q
  ·exact kstep2a_any o vO h hf hB ho hL h2 q
  ·exact kstep2b_any o vO h hf hB ho hL h2 q
 by_cases h3 : o.kind = 3
 ·rw [h3]; exact kstep3_any o vO h hf hB ho hL h3
 by_cases h4 : o.kind = 4
 ·rw [h4]; exact kstep4_any o vO h hf hB ho hL h4
 by_cases h5 : o.kind = 5
 ·rw [h5]; exact kstep5_any o vO h hf hB ho hL h5
 by_cases h6 : o.kind = 6
 ·rw [h6]; exact kstep6_any o vO h hf hB ho hL h6
 by_cases h7 : o.kind = 7
 ·rw [h7]; exact kstep7_any o vO h hf hB ho hL h7
 by_cases h8 : o.kind = 8
 ·rw [h8]; exact kstep8_any o vO h hf hB ho hL h8
 by_cases h9 : o.kind = 9
 ·rw [h9]; exact kstep9_any o vO h hf hB ho hL h9
 by_cases h10 : o.kind = 10
 ·rw [h10]; exact kstep10_any o vO h hf hB ho hL h10
 by_cases hlt : o.kind < 4
 ·exact kstepL_any o vO h hf hB ho hL ⟨h1, h2, h3, h8, h9, h10⟩ hlt
 ·exact kstepG_any o vO h hf hB ho hL ⟨h1, h2, h3, h8, h9, h10⟩ hlt (by omega)
theorem Fine.next {r : Run} {B : Nat} (hf : Fine r B) (hw : Few r) (o : KStep) : (∃ E g, Mid (r.step (mute o)) E g) ∧ (r.step (mute o)).wishes.length ≤ 900000 ∧ (r.step (mute o)).fixed.length ≤ 24 ∧ (r.step (mute o)).x.told.length ≤ B + 1 ∧ Fine (r.step (mute o)).look (B + 1) ∧ Few (r.step (mute o)).look := by
 obtain ⟨E, g, hri⟩ := hf.ri
 obtain ⟨E', g', hmid⟩ := hri.stepM o
 have hfew := hw.step (mute o)
 have hsm := hfew.small hmid.wok
 have hfx : (r.step (mute o)).fixed = r.fixed := step_fixed r (mute o)
 have htl : (r.step (mute o)).x.told.length ≤ B + 1 := by
  have := step_told r o
  have := hf.tl
  omega
 have hfl : (r.step (mute o)).fixed.length ≤ 24 := by rw [hfx]; exact hf.fl
 refine ⟨⟨E', g', hmid⟩, by omega, hfl, htl, ⟨⟨_, _, hmid.look.1⟩, ?_, look_small hmid hfl, ?_⟩, hfew.look hmid⟩
 ·rw [hmid.look.2.2.2.1]
  omega
 ·rw [hmid.look.2.1]
  exact htl
end Go.Proofs.YtlminmokpmdgoabGreat
namespace Go.Proofs.YtlminmokpmdgoabGreat
open Go.ChangeShapes Go.WideShapes Go.ChangeAt Go.RowKit Go.Deep
def ScrAt (w : World) (v : Value) (l : List KStep) : Prop :=
 ∃ a c, v = .slice a l.length c ∧ ∀ i o, l[i]? = some o → ∃ b off vL, a = some ⟨b, off, none⟩ ∧ b < w.heap.size ∧
  w.cell? ⟨b, off + i * 6, none⟩ = some (.int .i64 o.kind) ∧ w.cell? ⟨b, off + i * 6 + 1, none⟩ = some (.int .i64 o.N) ∧ w.cell? ⟨b, off + i * 6 + 2, none⟩ = some (.int .i64 o.I) ∧
  w.cell? ⟨b, off + i * 6 + 3, none⟩ = some (.int .i64 o.A) ∧ w.cell? ⟨b, off + i * 6 + 4, none⟩ = some (.int .i64 o.B) ∧ w.cell? ⟨b, off + i * 6 + 5, none⟩ = some vL ∧ IntsAt w vL o.L ∧ o.Fit
section
variable {H : Type} {enc : TypeId × Value → H} {W : World}
theorem scr_cells_int : Tryz.prog.cellsOf 3 = 1 := by kernel_rfl
theorem scr_cells_row : Tryz.prog.cellsOf 35 = 1 := by kernel_rfl
theorem scr_cells : Tryz.prog.cellsOf 37 = 6 := by kernel_rfl
theorem scr_list6 {cs : List Value} (h : cs.length = 6) : ∃ c0 c1 c2 c3 c4 c5, cs = [c0, c1, c2, c3, c4, c5] := by
 match cs, h with
 | [c0, c1, c2, c3, c4, c5], _ => exact ⟨c0, c1, c2, c3, c4, c5, rfl⟩
theorem scr_int {n : Nat} {c : Value} {xs : List (DataW H × List MemPlace)} {i : Nat} (hi : i < xs.length) (h : DataW.trod enc Tryz.prog W 0 (fun _ => true) true n 3 [c] = xs[i]?) : ∃ z, c = .int .i64 z ∧ -9223372036854775808 ≤ z ∧ z ≤ 9223372036854775807 := by
 rw [List.getElem?_eq_getElem hi] at h
 obtain ⟨z, hz, _, hw⟩ := DataW.trod_int Tryz.underlying3 h
 exact ⟨z, by simpa using hz, bounds_i64 hw⟩
theorem scr_ints {n : Nat} {v : Value} {x : DataW H × List MemPlace} (h : DataW.trod enc Tryz.prog W 0 (fun _ => true) true n 35 [v] = some x) :
  ∃ ms : List Int, IntsAt W v ms ∧ I64s ms := by
 rcases open_ints Tryz.underlying35 Tryz.underlying3 (by kernel_rfl) h with ⟨hcs, _⟩ | ⟨a, len, cap, zs, hcs, _, hl, hm, hz, rfl, hcell, hwz⟩
 ·obtain rfl : v = .slice none 0 0 := by simpa using hcs
  exact ⟨[], ⟨none, 0, rfl, fun i hi => absurd hi (Nat.not_lt_zero _)⟩, fun x hx => by cases hx⟩
 ·obtain rfl : v = .slice (some a) len cap := by simpa using hcs
  have hz' : zs.length = cap := by simpa using hz
  have hlen : (zs.take len).length = len := by rw [List.length_take]; omega
  refine ⟨zs.take len, ⟨some a, cap, by rw [hlen], fun i hi => ?_⟩, fun x hx => bounds_i64 (hwz x (List.mem_of_mem_take hx))⟩
  rw [hlen] at hi
  obtain ⟨b, off, rfl, hc⟩ := ints_at hcell (by omega)
  refine ⟨b, off, rfl, ?_⟩
  rw [hc i (by omega)]
  simp [List.getD, hi]
theorem open_step {n : Nat} {cs : List Value} {x : DataW H × List MemPlace} (h : DataW.trod enc Tryz.prog W 0 (fun _ => true) true n 37 cs = some x) :
  ∃ (o : KStep) (vL : Value), cs = [.int .i64 o.kind, .int .i64 o.N, .int .i64 o.I, .int .i64 o.A, .int .i64 o.B, vL] ∧ IntsAt W vL o.L ∧ o.Fit := by
 obtain ⟨xs, m, _, _, hl, hlen, hf⟩ := DataW.trod_struct Tryz.underlying37 h
 obtain ⟨c0, c1, c2, c3, c4, c5, rfl⟩ := scr_list6 (hl.trans scr_cells)
 have hlen' : xs.length = 6 := hlen
 have f0 : DataW.trod enc Tryz.prog W 0 (fun _ => true) true m 3 (([c0, c1, c2, c3, c4, c5].drop 0).take (Tryz.prog.cellsOf 3)) = xs[0]? := hf 0 _ rfl
 have f1 : DataW.trod enc Tryz.prog W 0 (fun _ => true) true m 3 (([c0, c1, c2, c3, c4, c5].drop 1).take (Tryz.prog.cellsOf 3)) = xs[1]? := hf 1 _ rfl
 have f2 : DataW.trod enc Tryz.prog W 0 (fun _ => true) true m 3 (([c0, c1, c2, c3, c4, c5].drop 2).take (Tryz.prog.cellsOf 3)) = xs[2]? := hf 2 _ rfl
 have f3 : DataW.trod enc Tryz.prog W 0 (fun _ => true) true m 3 (([c0, c1, c2, c3, c4, c5].drop 3).take (Tryz.prog.cellsOf 3)) = xs[3]? := hf 3 _ rfl
 have f4 : DataW.trod enc Tryz.prog W 0 (fun _ => true) true m 3 (([c0, c1, c2, c3, c4, c5].drop 4).take (Tryz.prog.cellsOf 3)) = xs[4]? := hf 4 _ rfl
 have f5 : DataW.trod enc Tryz.prog W 0 (fun _ => true) true m 35 (([c0, c1, c2, c3, c4, c5].drop 5).take (Tryz.prog.cellsOf 35)) = xs[5]? := hf 5 _ rfl
 rw [scr_cells_int] at f0 f1 f2 f3 f4
 rw [scr_cells_row] at f5
 obtain ⟨z0, rfl, b0⟩ := scr_int (by omega) f0
 obtain ⟨z1, rfl, b1⟩ := scr_int (by omega) f1
 obtain ⟨z2, rfl, b2⟩ := scr_int (by omega) f2
 obtain ⟨z3, rfl, b3⟩ := scr_int (by omega) f3
 obtain ⟨z4, rfl, b4⟩ := scr_int (by omega) f4
 have e5 : xs[5]? = some xs[5] := List.getElem?_eq_getElem (by omega)
 rw [e5] at f5
 obtain ⟨ms, hms, hm6⟩ := scr_ints f5
 exact ⟨⟨z0, z1, z2, z3, z4, ms⟩, c5, rfl, hms, ⟨b0, b1, b2, b3, b4, hm6⟩⟩
theorem open_script {n : Nat} {v : Value} {x : DataW H × List MemPlace} (h : DataW.trod enc Tryz.prog W 0 (fun _ => true) true n 22 [v] = some x) :
  ∃ l : List KStep, ScrAt W v l ∧ (l = [] ∨ ∃ el sp, x.1 = .slice el sp ∧ el.length = l.length) := by
 rcases open_slice Tryz.underlying22 h with ⟨hcs, _⟩ | ⟨a, len, cap, m, k, D, Pl, hcs, hb, hl, hm, hmm, rfl, hx⟩
 ·obtain rfl : v = .slice none 0 0 := by simpa using hcs
  exact ⟨[], ⟨none, 0, rfl, fun i o hi => by simp at hi⟩, .inl rfl⟩
 ·obtain rfl : v = .slice (some a) len cap := by simpa using hcs
  have hm' : m = cap := by simpa using hmm
  have ad2 : ∀ x y, (a.add x).add y = a.add (x + y) := by
   intro x y
   unfold Addr.add
   by_cases hx : x = 0 <;> by_cases hy : y = 0 <;> simp [hx, hy, Nat.add_assoc]
  haveI : Inhabited (KStep × Value) := ⟨(⟨0, 0, 0, 0, 0, []⟩, .bool false)⟩
  obtain ⟨E, hE⟩ := choose_lt (α := KStep × Value) (n := len) (p := fun i e => (∀ j, j < 6 → W.cell? (a.add (i * 6 + j)) = [Value.int .i64 e.1.kind, .int .i64 e.1.N, .int .i64 e.1.I, .int .i64 e.1.A, .int .i64 e.1.B, e.2][j]?) ∧ IntsAt W e.2 e.1.L ∧ e.1.Fit) (fun i hi => by
   obtain ⟨cs', h1, h2⟩ := hx i (by omega)
   obtain ⟨o, vL, rfl, hL, hF⟩ := open_step h2
   rw [scr_cells] at h1
   refine ⟨(o, vL), fun j hj => ?_, hL, hF⟩
   have := (World.cells?_some h1).2.2 j hj
   rw [← this, ad2])
  refine ⟨(List.range len).map (fun i => (E i).1), ⟨some a, cap, by simp, fun i o hi => ?_⟩, .inr ⟨_, _, rfl, by simp⟩⟩
  have hi' : i < len := by
   have := (List.getElem?_eq_some_iff.1 hi).1
   simpa using this
  have ho : (E i).1 = o := by
   rw [List.getElem?_map, List.getElem?_range hi'] at hi
   simpa using hi
  subst ho
  obtain ⟨hs, hL, hF⟩ := hE i hi'
  obtain ⟨b, off, spot⟩ := a
  have hspot : spot = none := by simpa [Addr.add] using World.cell?_spot ((hE 0 (by omega)).1 0 (by omega))
  subst hspot
  have ad : ∀ j, (⟨b, off, none⟩ : Addr).add j = ⟨b, off + j, none⟩ := fun j => by unfold Addr.add; simp
  have c0 : W.cell? ⟨b, off + i * 6, none⟩ = some (.int .i64 (E i).1.kind) := by have := hs 0 (by omega); rw [ad] at this; exact this
  refine ⟨b, off, (E i).2, rfl, cell_lt c0, c0, ?_, ?_, ?_, ?_, ?_, hL, hF⟩
  ·have := hs 1 (by omega); rw [ad] at this; exact this
  ·have := hs 2 (by omega); rw [ad] at this; exact this
  ·have := hs 3 (by omega); rw [ad] at this; exact this
  ·have := hs 4 (by omega); rw [ad] at this; exact this
  ·have := hs 5 (by omega); rw [ad] at this; exact this
theorem scr_bytes : Tryz.prog.bytesOf 37 = 64 := by kernel_rfl
end
theorem ScrAt.below {w w' : World} {v : Value} {l : List KStep} (h : ScrAt w v l) (hb : Below w.heap.size w w') : ScrAt w' v l := by
 obtain ⟨a, c, rfl, h⟩ := h
 refine ⟨a, c, rfl, fun i o hi => ?_⟩
 obtain ⟨b, off, vL, ha, hlt, h0, h1, h2, h3, h4, h5, hL, hF⟩ := h i o hi
 have hs := hb.size
 exact ⟨b, off, vL, ha, by omega, cell_later hb h0, cell_later hb h1, cell_later hb h2, cell_later hb h3, cell_later hb h4, cell_later hb h5, hL.below hb, hF⟩
end Go.Proofs.YtlminmokpmdgoabGreat
namespace Go.Proofs.YtlminmokpmdgoabGreat
open Go.RowKit Go.Shelf
set_option maxRecDepth 100000 in
set_option maxHeartbeats 2000000 in
theorem played_any (z : Int) (v : Value) (l : List KStep) (w : World) (i0 : -9223372036854775808 ≤ z) (i1 : z ≤ 9223372036854775807) (hS : ScrAt w v l) (hl : l.length ≤ 2299999999999) :
  Calls Tryz.prog 5 #[.int .i64 z, v] w fun e w' => ∃ p x r E g, e = .returned (.pointer (some ⟨p, 0, none⟩)) ∧ RunAt w w' p x r ∧ RI r E g := by
 have hp := pickI_lt z 5 (by omega)
 obtain ⟨n, hn⟩ : ∃ n : Nat, 1 + pickI z 5 = (n : Int) := ⟨(1 + pickI z 5).toNat, by omega⟩
 have HB := hideA (kbegin_any z w n hn i0 i1)
 have hfew : Few (Run.begin n) := begin_few n (by omega) (by omega)
 have HS := hideA hS
 obtain ⟨a, c, rfl, hS⟩ := hS
 clear hS
 go_enter Tryz.func5, Tryz.ntmps5
 go_wp2_with fail
 refine HB.out.mono ?_
 rintro e W ⟨p, x, rfl, hA, hF⟩
 have HA := hideA (And.intro hA hF)
 clear hA hF HB
 go_wp2_with fail
 go_loopw [6] (fun i wr => ∃ k : Nat, k ≤ l.length ∧ i = .int .i64 k ∧ ∃ r, RunAt w wr p x r ∧ Fine r (5000 + k) ∧ Few r) (fun i _ => l.length - (intOf i).toNat)
 case atStart => exact ⟨0, Nat.zero_le _, rfl, _, HA.out.1, HA.out.2, hfew⟩
 case round =>
  obtain ⟨k, hk, rfl, r, hA, hF, hw⟩ := hrel
  have H := hideA (And.intro hA (And.intro hF hw))
  obtain ⟨FX, FR, vW, vF, vL, hR, hn9, hb0⟩ := hA
  obtain ⟨E, g, hri⟩ := hF.ri
  have Hri := hideA hri
  have q9 : wr.cell? ⟨p, 9, none⟩ = some (.bool true) := by
   have := cell_of_heap hR.blk 9
   rw [show (runCells r x vW vF vL)[9]? = some (.bool r.ok) from rfl, hri.mid.flags.1] at this
   exact this
  by_cases hlt : k < l.length
  ·have hk1 : (k : Int) < (l.length : Int) := by omega
   have ho : l[k]? = some l[k] := List.getElem?_eq_getElem hlt
   generalize l[k] = o at *
   obtain ⟨a', c', e', hcells⟩ := HS.out.below hb0
   cases e'
   obtain ⟨b, off, vO, rfl, hb, s0, s1, s2, s3, s4, s5, hL, hFit⟩ := hcells k o ho
   have HSt := hideA (kstep_any o vO H.out.1 hF (by omega) hFit hL)
   unfold KStep.val at HSt
   obtain ⟨⟨E', g', hmid⟩, n2, n3, n4, n5, n6⟩ := hF.next hw o
   have HNx := hideA (And.intro n5 n6)
   have Hmid := hideA hmid
   clear hR hn9 hb0 hF hw hri hcells hL n5 n6 hmid
   go_wp2_with fail
   refine HSt.out.mono ?_
   rintro e V ⟨⟨v9, rfl⟩, hAV⟩
   have HL := hideA (look_any hAV Hmid.out n2 n3 (by omega))
   clear hAV HSt s0 s1 s2 s3 s4 s5 q9
   go_wp2_with fail
   refine HL.out.mono ?_
   rintro e U ⟨⟨v9, rfl⟩, hAU⟩
   have HAU := hideA hAU
   clear hAU HL
   go_wp2_with fail
   go_roundw
   case rel => exact ⟨k + 1, by omega, by go_num, _, HAU.out, HNx.out.1, HNx.out.2⟩
   case measure => simp [intOf]; omega
  ·obtain rfl : k = l.length := by omega
   clear hR hn9 hb0 hF hw hri
   go_wp2_with fail
   go_ret
   exact ⟨p, x, r, E, g, rfl, H.out.1, Hri.out⟩
end Go.Proofs.YtlminmokpmdgoabGreat
