import Derived.Test.YtlminmokpmdgoabGreatK50
namespace Go.Proofs.YtlminmokpmdgoabGreat
open Go.RowKit Go.Shelf
set_option maxRecDepth 100000 in
set_option maxHeartbeats 4000000 in
theorem kstep2a_any {w0 w : World} {p x : Nat} {r : Run} {B : Nat} (o : KStep) (vO : Value) (h : RunAt w0 w p x r) (hf : Fine r B) (hB : B + 1 ≤ 2999999999999) (ho : o.Fit) (hL : IntsAt w vO o.L) (hk : o.kind = 2) (hmm : pickI o.N 2 = 0) :
  Calls Tryz.prog 7 #[.pointer (some ⟨p, 0, none⟩), .agg #[.int .i64 2, .int .i64 o.N, .int .i64 o.I, .int .i64 o.A, .int .i64 o.B, vO]] w fun z w' => (∃ v, z = .returned v) ∧ RunAt w0 w' p x (r.step (mute o)) := by
 obtain ⟨E, g, hri⟩ := hf.ri
 have hm := hri.mid
 have htl := hf.tl
 have hwl := hf.wl
 have hn5 := hm.good.nodes.n5
 have hn1 := hm.good.nodes.n1
 have hrn1 : 1 ≤ r.n := by have := hm.n; omega
 have hrn5 : r.n ≤ 5 := by have := hm.n; omega
 obtain ⟨FX, FR, vW, vF, vL, hR, hn, hb0⟩ := h
 obtain ⟨aO, cO, rfl, hOL⟩ := hL
 have HOL : Hid (IntsAt w (.slice aO o.L.length cO) o.L) := hideA ⟨aO, cO, rfl, hOL⟩
 have hpl : p < w.heap.size := hR.ownLt (.inl rfl)
 have hp1 : ¬ p = w.heap.size := by omega
 have hp2 : ¬ w.heap.size = p := by omega
 obtain ⟨X, hX, hbX, hM⟩ := box_more1 w #[.int .i64 2, .int .i64 o.N, .int .i64 o.I, .int .i64 o.A, .int .i64 o.B, .slice aO o.L.length cO] 37
 have hRX := hR.below hbX
 have hsX := hbX.size
 have hqF : ¬ (FX w.heap.size ∨ OwnR p vW vF vL FR w.heap.size) := fun e => e.elim (fun e => Nat.lt_irrefl _ (cApi.lt hR.clu e)) (fun e => Nat.lt_irrefl _ (hR.ownLt e))
 have hb0X := hb0.trans (hbX.mono hb0.size)
 have HK : Hid (∀ W, Below X.heap.size X W → RunIn W p x FX FR r vW vF vL ∧ W.heap[w.heap.size]? = some (.cells #[.int .i64 2, .int .i64 o.N, .int .i64 o.I, .int .i64 o.A, .int .i64 o.B, .slice aO o.L.length cO] 37) ∧ Below w0.heap.size w0 W) := hideA fun W hb => ⟨hRX.below hb, (hb.block _ (Array.getElem?_eq_some_iff.1 hM).1).trans hM, hb0X.trans (hb.mono hb0X.size)⟩
 have HN := hideA hn
 have c0 : X.cell? ⟨p, 0, none⟩ = some (.pointer (some ⟨x, 0, none⟩)) := cell_of_heap hRX.blk 0
 have c1 : X.cell? ⟨p, 1, none⟩ = some (.int .i64 (r.n : Int)) := cell_of_heap hRX.blk 1
 have g0 := cell_of_heap hM 0
 have g1 := cell_of_heap hM 1
 have g2 := cell_of_heap hM 2
 have g3 := cell_of_heap hM 3
 have g4 := cell_of_heap hM 4
 have g5 := cell_of_heap hM 5
 have hpok : POK r.x := ⟨⟨_, _, hm.good⟩, by omega⟩
 have hbd := (Below.refl X.heap.size X).drew
 have HV : Hid (r.step (mute o) = r.change 0 (membersOf r.n o.A o.B)) := hideA (by rw [step_plain r o (by omega) (by omega)]; unfold Run.plain; rw [if_neg (by omega), if_pos hk, hmm])
 have hl : memsOk (membersOf r.n o.A o.B) r.n = true := members_ok r.n (by omega) _ _
 have HP : Hid (∀ W, Calls Tryz.prog 9 #[.int .i64 o.N, .int .i64 2] W fun e w' => e = .returned (.int .i64 0) ∧ w' = W) := hideA fun W => by
  have := pick_any o.N 2 W (by omega) (by omega) ho.n.1 ho.n.2
  rw [hmm] at this
  exact this
 have HMm : Hid (∀ W, Below X.heap.size X W → Calls Tryz.prog 15 #[.pointer (some ⟨p, 0, none⟩), .int .i64 o.A, .int .i64 o.B] W fun e w' => ∃ a c, e = .returned (.slice a (membersOf r.n o.A o.B).length c) ∧ w'.ownsRow X.heap.size 3 1 (.slice a (membersOf r.n o.A o.B).length c) (membersOf r.n o.A o.B).length (ints (membersOf r.n o.A o.B)) ∧ Below X.heap.size X w') := hideA fun W hb => by
  refine (members_any p r.n o.A o.B W (cell_of_heap (HK.out W hb).1.blk 1) (by omega) (by omega) ho.a.1 ho.a.2 ho.b.1 ho.b.2).mono ?_
  rintro e w' ⟨v, rfl, hv, hb'⟩
  obtain ⟨a, c, rfl⟩ := owns_shape hv
  exact ⟨a, c, rfl, owns_base hv hb.size, hb.trans (hb'.mono hb.size)⟩
 have HC : Hid (∀ W v, Below X.heap.size X W → W.ownsRow X.heap.size 3 1 v (membersOf r.n o.A o.B).length (ints (membersOf r.n o.A o.B)) → Calls Tryz.prog 14 #[.pointer (some ⟨p, 0, none⟩), .int .i64 0, v] W fun e w' => (∃ v, e = .returned v) ∧ StepAt w0 w' p x w.heap.size #[.int .i64 2, .int .i64 o.N, .int .i64 o.I, .int .i64 o.A, .int .i64 o.B, .slice aO o.L.length cO] (r.change 0 (membersOf r.n o.A o.B))) := hideA fun W v hb hv => by
  obtain ⟨q1, q2, q3⟩ := HK.out W hb
  refine (kchange0_any (w0 := w0) v (membersOf r.n o.A o.B) q1 HN.out q3 hm hl (listIn_own hv) (fun k hk2 hF => ?_) (by omega)).mono ?_
  ·have := (ownBlock_cells hv hk2).choose_spec.2
   have := cApi.lt hRX.clu hF
   omega
  ·rintro e w' ⟨⟨v, rfl⟩, hA, hKp⟩
   obtain ⟨E', g', hmid⟩ := hri.change 0 (by omega) (membersOf r.n o.A o.B) hl
   refine ⟨⟨v, rfl⟩, hA, ⟨⟨_, _, hmid.good⟩, ?_⟩, ?_⟩
   ·rw [run_change_told]
    omega
   ·exact (hKp w.heap.size (Array.getElem?_eq_some_iff.1 q2).1 hqF).trans q2
 generalize membersOf r.n o.A o.B = l at *
 clear hR hRX hn hOL hM
 go_enter Tryz.func7, Tryz.ntmps7
 go_wp2_with fail
 go_region_held3 (fun w' => w'.cell? ⟨w.heap.size, 1, none⟩ = some (.int .i64 o.N) ∧ w'.cell? ⟨w.heap.size, 3, none⟩ = some (.int .i64 o.A) ∧ w'.cell? ⟨w.heap.size, 4, none⟩ = some (.int .i64 o.B)) (first | (refine ⟨?_, ?_, ?_⟩ <;> first | assumption | (simp [go_sem, *]; done)) | (simp [go_sem]; done) | go_keep)
  (first
   | (go_at_call 9; refine (HP.out _).mono ?_; rintro e W9 ⟨rfl, rfl⟩)
   | (go_at_call 15; refine (HMm.out _ hbd).mono ?_; rintro e V ⟨av, cv, rfl, hov, hbV⟩; have HbV := hideA (And.intro hbV hov); have y1 := cell_of_heap (HK.out V hbV).2.1 1; have y3 := cell_of_heap (HK.out V hbV).2.1 3; have y4 := cell_of_heap (HK.out V hbV).2.1 4; clear hbV hov)
   | (go_at_call 14; refine (HC.out _ _ HbV.out.1 HbV.out.2).mono ?_; rintro e W ⟨⟨v9, rfl⟩, hSt⟩; have HSt := hideA hSt; have z1 := cell_of_heap hSt.box 1; have z3 := cell_of_heap hSt.box 3; have z4 := cell_of_heap hSt.box 4; clear hSt))
 all_goals (
  clear c0 c1 g0 g1 g2 g3 g4 g5 y1 y3 y4 z1 z3 z4 HP HMm HC
  go_wp2_with fail
  refine (HSt.out.bag).mono ?_
  rintro e T ⟨rfl, hT⟩
  have HT := hideA hT
  have b0 := cell_of_heap hT.box 0
  clear hT
  generalize hbl : (r.change 0 l : Run).x.bag.length = bl at *
  by_cases hz : bl = 0
  ·subst hz
   clear b0
   go_wp2_with fail
   (try simp only [Exit.inBlock, Exit.then]); refine bodyPost_ret (results_none rfl _ _ _) rfl ?_
   rw [HV.out]
   exact ⟨⟨_, rfl⟩, HT.out.run⟩
  ·have hz1 : ((bl : Int) == 0) = false := by simp; omega
   have hz2 : ¬ (bl : Int) = 0 := by omega
   go_wp2_with fail
   (try simp only [Exit.inBlock, Exit.then]); refine bodyPost_ret (results_none rfl _ _ _) rfl ?_
   rw [HV.out]
   exact ⟨⟨_, rfl⟩, HT.out.run⟩
 )
set_option maxRecDepth 100000 in
set_option maxHeartbeats 4000000 in
theorem kstep2b_any {w0 w : World} {p x : Nat} {r : Run} {B : Nat} (o : KStep) (vO : Value) (h : RunAt w0 w p x r) (hf : Fine r B) (hB : B + 1 ≤ 2999999999999) (ho : o.Fit) (hL : IntsAt w vO o.L) (hk : o.kind = 2) (hmm : pickI o.N 2 = 1) :
  Calls Tryz.prog 7 #[.pointer (some ⟨p, 0, none⟩), .agg #[.int .i64 2, .int .i64 o.N, .int .i64 o.I, .int .i64 o.A, .int .i64 o.B, vO]] w fun z w' => (∃ v, z = .returned v) ∧ RunAt w0 w' p x (r.step (mute o)) := by
 obtain ⟨E, g, hri⟩ := hf.ri
 have hm := hri.mid
 have htl := hf.tl
 have hwl := hf.wl
 have hn5 := hm.good.nodes.n5
 have hn1 := hm.good.nodes.n1
 have hrn1 : 1 ≤ r.n := by have := hm.n; omega
 have hrn5 : r.n ≤ 5 := by have := hm.n; omega
 obtain ⟨FX, FR, vW, vF, vL, hR, hn, hb0⟩ := h
 obtain ⟨aO, cO, rfl, hOL⟩ := hL
 have HOL : Hid (IntsAt w (.slice aO o.L.length cO) o.L) := hideA ⟨aO, cO, rfl, hOL⟩
 have hpl : p < w.heap.size := hR.ownLt (.inl rfl)
 have hp1 : ¬ p = w.heap.size := by omega
 have hp2 : ¬ w.heap.size = p := by omega
 obtain ⟨X, hX, hbX, hM⟩ := box_more1 w #[.int .i64 2, .int .i64 o.N, .int .i64 o.I, .int .i64 o.A, .int .i64 o.B, .slice aO o.L.length cO] 37
 have hRX := hR.below hbX
 have hsX := hbX.size
 have hqF : ¬ (FX w.heap.size ∨ OwnR p vW vF vL FR w.heap.size) := fun e => e.elim (fun e => Nat.lt_irrefl _ (cApi.lt hR.clu e)) (fun e => Nat.lt_irrefl _ (hR.ownLt e))
 have hb0X := hb0.trans (hbX.mono hb0.size)
 have HK : Hid (∀ W, Below X.heap.size X W → RunIn W p x FX FR r vW vF vL ∧ W.heap[w.heap.size]? = some (.cells #[.int .i64 2, .int .i64 o.N, .int .i64 o.I, .int .i64 o.A, .int .i64 o.B, .slice aO o.L.length cO] 37) ∧ Below w0.heap.size w0 W) := hideA fun W hb => ⟨hRX.below hb, (hb.block _ (Array.getElem?_eq_some_iff.1 hM).1).trans hM, hb0X.trans (hb.mono hb0X.size)⟩
 have HN := hideA hn
 have c0 : X.cell? ⟨p, 0, none⟩ = some (.pointer (some ⟨x, 0, none⟩)) := cell_of_heap hRX.blk 0
 have c1 : X.cell? ⟨p, 1, none⟩ = some (.int .i64 (r.n : Int)) := cell_of_heap hRX.blk 1
 have g0 := cell_of_heap hM 0
 have g1 := cell_of_heap hM 1
 have g2 := cell_of_heap hM 2
 have g3 := cell_of_heap hM 3
 have g4 := cell_of_heap hM 4
 have g5 := cell_of_heap hM 5
 have hpok : POK r.x := ⟨⟨_, _, hm.good⟩, by omega⟩
 have hbd := (Below.refl X.heap.size X).drew
 have HV : Hid (r.step (mute o) = r.change 1 (membersOf r.n o.A o.B)) := hideA (by rw [step_plain r o (by omega) (by omega)]; unfold Run.plain; rw [if_neg (by omega), if_pos hk, hmm])
 have hl : memsOk (membersOf r.n o.A o.B) r.n = true := members_ok r.n (by omega) _ _
 have HP : Hid (∀ W, Calls Tryz.prog 9 #[.int .i64 o.N, .int .i64 2] W fun e w' => e = .returned (.int .i64 1) ∧ w' = W) := hideA fun W => by
  have := pick_any o.N 2 W (by omega) (by omega) ho.n.1 ho.n.2
  rw [hmm] at this
  exact this
 have HMm : Hid (∀ W, Below X.heap.size X W → Calls Tryz.prog 15 #[.pointer (some ⟨p, 0, none⟩), .int .i64 o.A, .int .i64 o.B] W fun e w' => ∃ a c, e = .returned (.slice a (membersOf r.n o.A o.B).length c) ∧ w'.ownsRow X.heap.size 3 1 (.slice a (membersOf r.n o.A o.B).length c) (membersOf r.n o.A o.B).length (ints (membersOf r.n o.A o.B)) ∧ Below X.heap.size X w') := hideA fun W hb => by
  refine (members_any p r.n o.A o.B W (cell_of_heap (HK.out W hb).1.blk 1) (by omega) (by omega) ho.a.1 ho.a.2 ho.b.1 ho.b.2).mono ?_
  rintro e w' ⟨v, rfl, hv, hb'⟩
  obtain ⟨a, c, rfl⟩ := owns_shape hv
  exact ⟨a, c, rfl, owns_base hv hb.size, hb.trans (hb'.mono hb.size)⟩
 have HC : Hid (∀ W v, Below X.heap.size X W → W.ownsRow X.heap.size 3 1 v (membersOf r.n o.A o.B).length (ints (membersOf r.n o.A o.B)) → Calls Tryz.prog 14 #[.pointer (some ⟨p, 0, none⟩), .int .i64 1, v] W fun e w' => (∃ v, e = .returned v) ∧ StepAt w0 w' p x w.heap.size #[.int .i64 2, .int .i64 o.N, .int .i64 o.I, .int .i64 o.A, .int .i64 o.B, .slice aO o.L.length cO] (r.change 1 (membersOf r.n o.A o.B))) := hideA fun W v hb hv => by
  obtain ⟨q1, q2, q3⟩ := HK.out W hb
  refine (kchange1_any (w0 := w0) v (membersOf r.n o.A o.B) q1 HN.out q3 hm hl (listIn_own hv) (fun k hk2 hF => ?_) (by omega)).mono ?_
  ·have := (ownBlock_cells hv hk2).choose_spec.2
   have := cApi.lt hRX.clu hF
   omega
  ·rintro e w' ⟨⟨v, rfl⟩, hA, hKp⟩
   obtain ⟨E', g', hmid⟩ := hri.change 1 (by omega) (membersOf r.n o.A o.B) hl
   refine ⟨⟨v, rfl⟩, hA, ⟨⟨_, _, hmid.good⟩, ?_⟩, ?_⟩
   ·rw [run_change_told]
    omega
   ·exact (hKp w.heap.size (Array.getElem?_eq_some_iff.1 q2).1 hqF).trans q2
 generalize membersOf r.n o.A o.B = l at *
 clear hR hRX hn hOL hM
 go_enter Tryz.func7, Tryz.ntmps7
 go_wp2_with fail
 go_region_held3 (fun w' => w'.cell? ⟨w.heap.size, 1, none⟩ = some (.int .i64 o.N) ∧ w'.cell? ⟨w.heap.size, 3, none⟩ = some (.int .i64 o.A) ∧ w'.cell? ⟨w.heap.size, 4, none⟩ = some (.int .i64 o.B)) (first | (refine ⟨?_, ?_, ?_⟩ <;> first | assumption | (simp [go_sem, *]; done)) | (simp [go_sem]; done) | go_keep)
  (first
   | (go_at_call 9; refine (HP.out _).mono ?_; rintro e W9 ⟨rfl, rfl⟩)
   | (go_at_call 15; refine (HMm.out _ hbd).mono ?_; rintro e V ⟨av, cv, rfl, hov, hbV⟩; have HbV := hideA (And.intro hbV hov); have y1 := cell_of_heap (HK.out V hbV).2.1 1; have y3 := cell_of_heap (HK.out V hbV).2.1 3; have y4 := cell_of_heap (HK.out V hbV).2.1 4; clear hbV hov)
   | (go_at_call 14; refine (HC.out _ _ HbV.out.1 HbV.out.2).mono ?_; rintro e W ⟨⟨v9, rfl⟩, hSt⟩; have HSt := hideA hSt; have z1 := cell_of_heap hSt.box 1; have z3 := cell_of_heap hSt.box 3; have z4 := cell_of_heap hSt.box 4; clear hSt))
 all_goals (
  clear c0 c1 g0 g1 g2 g3 g4 g5 y1 y3 y4 z1 z3 z4 HP HMm HC
  go_wp2_with fail
  refine (HSt.out.bag).mono ?_
  rintro e T ⟨rfl, hT⟩
  have HT := hideA hT
  have b0 := cell_of_heap hT.box 0
  clear hT
  generalize hbl : (r.change 1 l : Run).x.bag.length = bl at *
  by_cases hz : bl = 0
  ·subst hz
   clear b0
   go_wp2_with fail
   (try simp only [Exit.inBlock, Exit.then]); refine bodyPost_ret (results_none rfl _ _ _) rfl ?_
   rw [HV.out]
   exact ⟨⟨_, rfl⟩, HT.out.run⟩
  ·have hz1 : ((bl : Int) == 0) = false := by simp; omega
   have hz2 : ¬ (bl : Int) = 0 := by omega
   go_wp2_with fail
   (try simp only [Exit.inBlock, Exit.then]); refine bodyPost_ret (results_none rfl _ _ _) rfl ?_
   rw [HV.out]
   exact ⟨⟨_, rfl⟩, HT.out.run⟩
 )
set_option maxRecDepth 100000 in
set_option maxHeartbeats 4000000 in
theorem kstep3_any {w0 w : World} {p x : Nat} {r : Run} {B : Nat} (o : KStep) (vO : Value) (h : RunAt w0 w p x r) (hf : Fine r B) (hB : B + 1 ≤ 2999999999999) (ho : o.Fit) (hL : IntsAt w vO o.L) (hk : o.kind = 3) :
  Calls Tryz.prog 7 #[.pointer (some ⟨p, 0, none⟩), .agg #[.int .i64 3, .int .i64 o.N, .int .i64 o.I, .int .i64 o.A, .int .i64 o.B, vO]] w fun z w' => (∃ v, z = .returned v) ∧ RunAt w0 w' p x (r.step (mute o)) := by
 obtain ⟨E, g, hri⟩ := hf.ri
 have hm := hri.mid
 have htl := hf.tl
 have hwl := hf.wl
 have hn5 := hm.good.nodes.n5
 have hn1 := hm.good.nodes.n1
 have hrn1 : 1 ≤ r.n := by have := hm.n; omega
 have hrn5 : r.n ≤ 5 := by have := hm.n; omega
 obtain ⟨FX, FR, vW, vF, vL, hR, hn, hb0⟩ := h
 obtain ⟨aO, cO, rfl, hOL⟩ := hL
 have HOL : Hid (IntsAt w (.slice aO o.L.length cO) o.L) := hideA ⟨aO, cO, rfl, hOL⟩
 have hpl : p < w.heap.size := hR.ownLt (.inl rfl)
 have hp1 : ¬ p = w.heap.size := by omega
 have hp2 : ¬ w.heap.size = p := by omega
 obtain ⟨X, hX, hbX, hM⟩ := box_more1 w #[.int .i64 3, .int .i64 o.N, .int .i64 o.I, .int .i64 o.A, .int .i64 o.B, .slice aO o.L.length cO] 37
 have hRX := hR.below hbX
 have hsX := hbX.size
 have hqF : ¬ (FX w.heap.size ∨ OwnR p vW vF vL FR w.heap.size) := fun e => e.elim (fun e => Nat.lt_irrefl _ (cApi.lt hR.clu e)) (fun e => Nat.lt_irrefl _ (hR.ownLt e))
 have hb0X := hb0.trans (hbX.mono hb0.size)
 have HK : Hid (∀ W, Below X.heap.size X W → RunIn W p x FX FR r vW vF vL ∧ W.heap[w.heap.size]? = some (.cells #[.int .i64 3, .int .i64 o.N, .int .i64 o.I, .int .i64 o.A, .int .i64 o.B, .slice aO o.L.length cO] 37) ∧ Below w0.heap.size w0 W) := hideA fun W hb => ⟨hRX.below hb, (hb.block _ (Array.getElem?_eq_some_iff.1 hM).1).trans hM, hb0X.trans (hb.mono hb0X.size)⟩
 have HN := hideA hn
 have c0 : X.cell? ⟨p, 0, none⟩ = some (.pointer (some ⟨x, 0, none⟩)) := cell_of_heap hRX.blk 0
 have c1 : X.cell? ⟨p, 1, none⟩ = some (.int .i64 (r.n : Int)) := cell_of_heap hRX.blk 1
 have g0 := cell_of_heap hM 0
 have g1 := cell_of_heap hM 1
 have g2 := cell_of_heap hM 2
 have g3 := cell_of_heap hM 3
 have g4 := cell_of_heap hM 4
 have g5 := cell_of_heap hM 5
 have hpok : POK r.x := ⟨⟨_, _, hm.good⟩, by omega⟩
 have hbd := (Below.refl X.heap.size X).drew
 have HV : Hid (r.step (mute o) = { r with x := (r.x.tick (nodeOf r.n o.N)).1 }) := hideA (by rw [step_plain r o (by omega) (by omega)]; unfold Run.plain; rw [if_neg (by omega), if_neg (by omega), if_pos hk])
 have HNd : Hid (∀ W, Below X.heap.size X W → Calls Tryz.prog 17 #[.pointer (some ⟨p, 0, none⟩), .int .i64 o.N] W fun e w' => e = .returned (.int .i64 (nodeOf r.n o.N)) ∧ w' = W) := hideA fun W hb => node_any p r.n o.N W (cell_of_heap (HK.out W hb).1.blk 1) (by omega) (by omega) ho.n.1 ho.n.2
 have hgood2 : ∃ E' g', Good (r.x.tick (nodeOf r.n o.N)).1 E' g' := by
  obtain ⟨E', g', q, _⟩ := hm.good.tick (nodeOf r.n o.N)
  exact ⟨E', g', q⟩
 have HT : Hid (∀ W, Below X.heap.size X W → Calls Tryz.prog 16 #[.pointer (some ⟨x, 0, none⟩), .int .i64 (nodeOf r.n o.N)] W fun e w' => (∃ v, e = .returned v) ∧ StepAt w0 w' p x w.heap.size #[.int .i64 3, .int .i64 o.N, .int .i64 o.I, .int .i64 o.A, .int .i64 o.B, .slice aO o.L.length cO] { r with x := (r.x.tick (nodeOf r.n o.N)).1 }) := hideA fun W hb => by
  obtain ⟨q1, q2, q3⟩ := HK.out W hb
  refine (cApi.tick (nodeOf r.n o.N) q1.clu hpok).mono ?_
  rintro e w' ⟨rfl, ha⟩
  exact ⟨⟨_, rfl⟩, StepAt.after q1 HN.out q3 _ ha q2 (fun e => hqF (.inl e)) ⟨hgood2, by rw [tick_told]; omega⟩⟩
 clear hR hRX hn hOL hM hgood2
 go_enter Tryz.func7, Tryz.ntmps7
 go_wp2_with fail
 go_region_held3 (fun w' => w'.cell? ⟨p, 0, none⟩ = some (.pointer (some ⟨x, 0, none⟩)) ∧ w'.cell? ⟨w.heap.size, 1, none⟩ = some (.int .i64 o.N)) (first | (refine ⟨?_, ?_⟩ <;> first | assumption | (simp [go_sem, *]; done)) | (simp [go_sem]; done) | go_keep)
  (first
   | (go_at_call 17; refine (HNd.out _ hbd).mono ?_; rintro e W9 ⟨rfl, rfl⟩)
   | (go_at_call 16; refine (HT.out _ hbd).mono ?_; rintro e W ⟨⟨v9, rfl⟩, hSt⟩; have HSt := hideA hSt; obtain ⟨_, _, _, _, _, hRz, _, _⟩ := hSt.run; have z0 : W.cell? ⟨p, 0, none⟩ = some (.pointer (some ⟨x, 0, none⟩)) := cell_of_heap hRz.blk 0; have z1 := cell_of_heap hSt.box 1; clear hSt hRz))
 all_goals (
  clear c0 c1 g0 g1 g2 g3 g4 g5 z0 z1 HNd HT
  go_wp2_with fail
  refine (HSt.out.bag).mono ?_
  rintro e T ⟨rfl, hT⟩
  have HT := hideA hT
  have b0 := cell_of_heap hT.box 0
  clear hT
  generalize hbl : ({ r with x := (r.x.tick (nodeOf r.n o.N)).1 } : Run).x.bag.length = bl at *
  by_cases hz : bl = 0
  ·subst hz
   clear b0
   go_wp2_with fail
   (try simp only [Exit.inBlock, Exit.then]); refine bodyPost_ret (results_none rfl _ _ _) rfl ?_
   rw [HV.out]
   exact ⟨⟨_, rfl⟩, HT.out.run⟩
  ·have hz1 : ((bl : Int) == 0) = false := by simp; omega
   have hz2 : ¬ (bl : Int) = 0 := by omega
   go_wp2_with fail
   (try simp only [Exit.inBlock, Exit.then]); refine bodyPost_ret (results_none rfl _ _ _) rfl ?_
   rw [HV.out]
   exact ⟨⟨_, rfl⟩, HT.out.run⟩
 )
set_option maxRecDepth 100000 in
set_option maxHeartbeats 4000000 in
theorem kstep4_any {w0 w : World} {p x : Nat} {r : Run} {B : Nat} (o : KStep) (vO : Value) (h : RunAt w0 w p x r) (hf : Fine r B) (hB : B + 1 ≤ 2999999999999) (ho : o.Fit) (hL : IntsAt w vO o.L) (hk : o.kind = 4) :
  Calls Tryz.prog 7 #[.pointer (some ⟨p, 0, none⟩), .agg #[.int .i64 4, .int .i64 o.N, .int .i64 o.I, .int .i64 o.A, .int .i64 o.B, vO]] w fun z w' => (∃ v, z = .returned v) ∧ RunAt w0 w' p x (r.step (mute o)) := by
 obtain ⟨E, g, hri⟩ := hf.ri
 have hm := hri.mid
 have htl := hf.tl
 have hwl := hf.wl
 have hn5 := hm.good.nodes.n5
 have hn1 := hm.good.nodes.n1
 have hrn1 : 1 ≤ r.n := by have := hm.n; omega
 have hrn5 : r.n ≤ 5 := by have := hm.n; omega
 obtain ⟨FX, FR, vW, vF, vL, hR, hn, hb0⟩ := h
 obtain ⟨aO, cO, rfl, hOL⟩ := hL
 have HOL : Hid (IntsAt w (.slice aO o.L.length cO) o.L) := hideA ⟨aO, cO, rfl, hOL⟩
 have hpl : p < w.heap.size := hR.ownLt (.inl rfl)
 have hp1 : ¬ p = w.heap.size := by omega
 have hp2 : ¬ w.heap.size = p := by omega
 obtain ⟨X, hX, hbX, hM⟩ := box_more1 w #[.int .i64 4, .int .i64 o.N, .int .i64 o.I, .int .i64 o.A, .int .i64 o.B, .slice aO o.L.length cO] 37
 have hRX := hR.below hbX
 have hsX := hbX.size
 have hqF : ¬ (FX w.heap.size ∨ OwnR p vW vF vL FR w.heap.size) := fun e => e.elim (fun e => Nat.lt_irrefl _ (cApi.lt hR.clu e)) (fun e => Nat.lt_irrefl _ (hR.ownLt e))
 have hb0X := hb0.trans (hbX.mono hb0.size)
 have HK : Hid (∀ W, Below X.heap.size X W → RunIn W p x FX FR r vW vF vL ∧ W.heap[w.heap.size]? = some (.cells #[.int .i64 4, .int .i64 o.N, .int .i64 o.I, .int .i64 o.A, .int .i64 o.B, .slice aO o.L.length cO] 37) ∧ Below w0.heap.size w0 W) := hideA fun W hb => ⟨hRX.below hb, (hb.block _ (Array.getElem?_eq_some_iff.1 hM).1).trans hM, hb0X.trans (hb.mono hb0X.size)⟩
 have HN := hideA hn
 have c0 : X.cell? ⟨p, 0, none⟩ = some (.pointer (some ⟨x, 0, none⟩)) := cell_of_heap hRX.blk 0
 have c1 : X.cell? ⟨p, 1, none⟩ = some (.int .i64 (r.n : Int)) := cell_of_heap hRX.blk 1
 have g0 := cell_of_heap hM 0
 have g1 := cell_of_heap hM 1
 have g2 := cell_of_heap hM 2
 have g3 := cell_of_heap hM 3
 have g4 := cell_of_heap hM 4
 have g5 := cell_of_heap hM 5
 have hpok : POK r.x := ⟨⟨_, _, hm.good⟩, by omega⟩
 have hbd := (Below.refl X.heap.size X).drew
 have hok := hm.flags.1
 have HF : Hid (r.step (mute o) = r.framed o) := hideA (step_framed r o (by omega))
 have HSt : Hid (StepAt w0 X p x w.heap.size #[.int .i64 4, .int .i64 o.N, .int .i64 o.I, .int .i64 o.A, .int .i64 o.B, .slice aO o.L.length cO] r) := hideA ⟨⟨FX, FR, vW, vF, vL, hRX, hn, hb0X⟩, hpok, hM⟩
 have hkind := hk
 clear hR hRX hn hOL hM
 go_enter Tryz.func7, Tryz.ntmps7
 clear c0 c1 g1 g2 g3 g4 g5
 go_wp2_with fail
 refine (HSt.out.bag).mono ?_
 rintro e T ⟨rfl, hT⟩
 have HT := hideA hT
 have b0 := cell_of_heap hT.box 0
 have b2 := cell_of_heap hT.box 2
 clear hT HSt g0
 by_cases hz : r.x.bag.length = 0
 ·have hz0 : ((r.x.bag.length : Nat) : Int) = 0 := by omega
  have HV : Hid (r.framed o = r) := hideA (by unfold Run.framed; rw [if_pos (.inl hz)])
  rw [hz0]
  clear b0 b2
  go_wp2_with fail
  (try simp only [Exit.inBlock, Exit.then]); refine bodyPost_ret (results_none rfl _ _ _) rfl ?_
  rw [HF.out, HV.out]
  exact ⟨⟨_, rfl⟩, HT.out.run⟩
 ·have hbl200 : r.x.bag.length ≤ 200 := hm.good.bag
  have h0 : (r.x.deliver (pickI o.I r.x.bag.length)).2 = 0 := by
   unfold Clu.deliver
   rw [if_pos (hasFrame_pick hz o.I)]
   split <;> rfl
  have HV : Hid (r.framed o = { r with x := (r.x.deliver (pickI o.I r.x.bag.length)).1 }) := hideA (by
   unfold Run.framed
   rw [if_neg (by omega)]
   simp only []
   rw [if_pos hkind, h0, hok]
   rfl)
  have HP := hideA (pick_any o.I (r.x.bag.length : Int) T (by omega) (by omega) ho.i.1 ho.i.2)
  generalize hii : pickI o.I (r.x.bag.length : Int) = i at *
  obtain ⟨F1, R1, vW1, vF1, vL1, hR1, hn1_, hb1⟩ := HT.out.run
  have HC := hideA (cApi.deliver i hR1.clu HT.out.pok)
  rw [h0] at HC
  have HR1 := hideA (And.intro hR1 (And.intro hn1_ hb1))
  have t0 : T.cell? ⟨p, 0, none⟩ = some (.pointer (some ⟨x, 0, none⟩)) := cell_of_heap hR1.blk 0
  clear hR1 hn1_ hb1
  generalize hbl : r.x.bag.length = bl at *
  have hz1 : ((bl : Int) == 0) = false := by simp; omega
  have hz2 : ¬ (bl : Int) = 0 := by omega
  clear hii h0
  go_wp2_with fail
  refine HP.out.mono ?_
  rintro e T9 ⟨rfl, rfl⟩
  go_wp2_with fail
  refine HC.out.mono ?_
  rintro e U ⟨rfl, hA⟩
  have HA := hideA (RunAt.after HR1.out.1 HR1.out.2.1 HR1.out.2.2 (r.x.deliver i).1 hA)
  obtain ⟨F', q1, q2, q3⟩ := HR1.out.1.after (r.x.deliver i).1 hA
  have k9 : U.cell? ⟨p, 9, none⟩ = some (.bool true) := by
   have := cell_of_heap q1.blk 9
   rw [show (runCells { r with x := (r.x.deliver i).1 } x vW1 vF1 vL1)[9]? = some (.bool r.ok) from rfl, hok] at this
   exact this
  have f9 := frozen_of_heap q1.blk 9
  have hsame : U.setCell ⟨p, 9, none⟩ (.bool true) = U := setCell_same q1.blk (by rw [show (runCells { r with x := (r.x.deliver i).1 } x vW1 vF1 vL1)[9]? = some (.bool r.ok) from rfl, hok])
  clear hA q1 q2 q3 t0 b0 b2
  go_wp2_with fail
  go_end0
  rw [HF.out, HV.out]
  exact ⟨⟨_, rfl⟩, HA.out⟩
set_option maxRecDepth 100000 in
set_option maxHeartbeats 4000000 in
theorem kstep5_any {w0 w : World} {p x : Nat} {r : Run} {B : Nat} (o : KStep) (vO : Value) (h : RunAt w0 w p x r) (hf : Fine r B) (hB : B + 1 ≤ 2999999999999) (ho : o.Fit) (hL : IntsAt w vO o.L) (hk : o.kind = 5) :
  Calls Tryz.prog 7 #[.pointer (some ⟨p, 0, none⟩), .agg #[.int .i64 5, .int .i64 o.N, .int .i64 o.I, .int .i64 o.A, .int .i64 o.B, vO]] w fun z w' => (∃ v, z = .returned v) ∧ RunAt w0 w' p x (r.step (mute o)) := by
 obtain ⟨E, g, hri⟩ := hf.ri
 have hm := hri.mid
 have htl := hf.tl
 have hwl := hf.wl
 have hn5 := hm.good.nodes.n5
 have hn1 := hm.good.nodes.n1
 have hrn1 : 1 ≤ r.n := by have := hm.n; omega
 have hrn5 : r.n ≤ 5 := by have := hm.n; omega
 obtain ⟨FX, FR, vW, vF, vL, hR, hn, hb0⟩ := h
 obtain ⟨aO, cO, rfl, hOL⟩ := hL
 have HOL : Hid (IntsAt w (.slice aO o.L.length cO) o.L) := hideA ⟨aO, cO, rfl, hOL⟩
 have hpl : p < w.heap.size := hR.ownLt (.inl rfl)
 have hp1 : ¬ p = w.heap.size := by omega
 have hp2 : ¬ w.heap.size = p := by omega
 obtain ⟨X, hX, hbX, hM⟩ := box_more1 w #[.int .i64 5, .int .i64 o.N, .int .i64 o.I, .int .i64 o.A, .int .i64 o.B, .slice aO o.L.length cO] 37
 have hRX := hR.below hbX
 have hsX := hbX.size
 have hqF : ¬ (FX w.heap.size ∨ OwnR p vW vF vL FR w.heap.size) := fun e => e.elim (fun e => Nat.lt_irrefl _ (cApi.lt hR.clu e)) (fun e => Nat.lt_irrefl _ (hR.ownLt e))
 have hb0X := hb0.trans (hbX.mono hb0.size)
 have HK : Hid (∀ W, Below X.heap.size X W → RunIn W p x FX FR r vW vF vL ∧ W.heap[w.heap.size]? = some (.cells #[.int .i64 5, .int .i64 o.N, .int .i64 o.I, .int .i64 o.A, .int .i64 o.B, .slice aO o.L.length cO] 37) ∧ Below w0.heap.size w0 W) := hideA fun W hb => ⟨hRX.below hb, (hb.block _ (Array.getElem?_eq_some_iff.1 hM).1).trans hM, hb0X.trans (hb.mono hb0X.size)⟩
 have HN := hideA hn
 have c0 : X.cell? ⟨p, 0, none⟩ = some (.pointer (some ⟨x, 0, none⟩)) := cell_of_heap hRX.blk 0
 have c1 : X.cell? ⟨p, 1, none⟩ = some (.int .i64 (r.n : Int)) := cell_of_heap hRX.blk 1
 have g0 := cell_of_heap hM 0
 have g1 := cell_of_heap hM 1
 have g2 := cell_of_heap hM 2
 have g3 := cell_of_heap hM 3
 have g4 := cell_of_heap hM 4
 have g5 := cell_of_heap hM 5
 have hpok : POK r.x := ⟨⟨_, _, hm.good⟩, by omega⟩
 have hbd := (Below.refl X.heap.size X).drew
 have hok := hm.flags.1
 have HF : Hid (r.step (mute o) = r.framed o) := hideA (step_framed r o (by omega))
 have HSt : Hid (StepAt w0 X p x w.heap.size #[.int .i64 5, .int .i64 o.N, .int .i64 o.I, .int .i64 o.A, .int .i64 o.B, .slice aO o.L.length cO] r) := hideA ⟨⟨FX, FR, vW, vF, vL, hRX, hn, hb0X⟩, hpok, hM⟩
 have hkind := hk
 clear hR hRX hn hOL hM
 go_enter Tryz.func7, Tryz.ntmps7
 clear c0 c1 g1 g2 g3 g4 g5
 go_wp2_with fail
 refine (HSt.out.bag).mono ?_
 rintro e T ⟨rfl, hT⟩
 have HT := hideA hT
 have b0 := cell_of_heap hT.box 0
 have b2 := cell_of_heap hT.box 2
 clear hT HSt g0
 by_cases hz : r.x.bag.length = 0
 ·have hz0 : ((r.x.bag.length : Nat) : Int) = 0 := by omega
  have HV : Hid (r.framed o = r) := hideA (by unfold Run.framed; rw [if_pos (.inl hz)])
  rw [hz0]
  clear b0 b2
  go_wp2_with fail
  (try simp only [Exit.inBlock, Exit.then]); refine bodyPost_ret (results_none rfl _ _ _) rfl ?_
  rw [HF.out, HV.out]
  exact ⟨⟨_, rfl⟩, HT.out.run⟩
 ·have hbl200 : r.x.bag.length ≤ 200 := hm.good.bag
  have h0 : (r.x.drop (pickI o.I r.x.bag.length)).2 = 0 := by
   unfold Clu.drop
   rw [if_pos (hasFrame_pick hz o.I)]
  have HV : Hid (r.framed o = { r with x := (r.x.drop (pickI o.I r.x.bag.length)).1 }) := hideA (by
   unfold Run.framed
   rw [if_neg (by omega)]
   simp only []
   rw [if_neg (by omega), if_pos hkind, h0, hok]
   rfl)
  have HP := hideA (pick_any o.I (r.x.bag.length : Int) T (by omega) (by omega) ho.i.1 ho.i.2)
  generalize hii : pickI o.I (r.x.bag.length : Int) = i at *
  obtain ⟨F1, R1, vW1, vF1, vL1, hR1, hn1_, hb1⟩ := HT.out.run
  have HC := hideA (cApi.drop i hR1.clu HT.out.pok)
  rw [h0] at HC
  have HR1 := hideA (And.intro hR1 (And.intro hn1_ hb1))
  have t0 : T.cell? ⟨p, 0, none⟩ = some (.pointer (some ⟨x, 0, none⟩)) := cell_of_heap hR1.blk 0
  clear hR1 hn1_ hb1
  generalize hbl : r.x.bag.length = bl at *
  have hz1 : ((bl : Int) == 0) = false := by simp; omega
  have hz2 : ¬ (bl : Int) = 0 := by omega
  clear hii h0
  go_wp2_with fail
  refine HP.out.mono ?_
  rintro e T9 ⟨rfl, rfl⟩
  go_wp2_with fail
  refine HC.out.mono ?_
  rintro e U ⟨rfl, hA⟩
  have HA := hideA (RunAt.after HR1.out.1 HR1.out.2.1 HR1.out.2.2 (r.x.drop i).1 hA)
  obtain ⟨F', q1, q2, q3⟩ := HR1.out.1.after (r.x.drop i).1 hA
  have k9 : U.cell? ⟨p, 9, none⟩ = some (.bool true) := by
   have := cell_of_heap q1.blk 9
   rw [show (runCells { r with x := (r.x.drop i).1 } x vW1 vF1 vL1)[9]? = some (.bool r.ok) from rfl, hok] at this
   exact this
  have f9 := frozen_of_heap q1.blk 9
  have hsame : U.setCell ⟨p, 9, none⟩ (.bool true) = U := setCell_same q1.blk (by rw [show (runCells { r with x := (r.x.drop i).1 } x vW1 vF1 vL1)[9]? = some (.bool r.ok) from rfl, hok])
  clear hA q1 q2 q3 t0 b0 b2
  go_wp2_with fail
  go_end0
  rw [HF.out, HV.out]
  exact ⟨⟨_, rfl⟩, HA.out⟩
end Go.Proofs.YtlminmokpmdgoabGreat
