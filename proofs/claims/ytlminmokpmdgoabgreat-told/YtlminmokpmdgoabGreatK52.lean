import Derived.Test.YtlminmokpmdgoabGreatK50
namespace Go.Proofs.YtlminmokpmdgoabGreat
open Go.RowKit Go.Shelf
set_option maxRecDepth 100000 in
set_option maxHeartbeats 4000000 in
theorem kstep6_any {w0 w : World} {p x : Nat} {r : Run} {B : Nat} (o : KStep) (vO : Value) (h : RunAt w0 w p x r) (hf : Fine r B) (hB : B + 1 ≤ 2999999999999) (ho : o.Fit) (hL : IntsAt w vO o.L) (hk : o.kind = 6) :
  Calls Tryz.prog 7 #[.pointer (some ⟨p, 0, none⟩), .agg #[.int .i64 6, .int .i64 o.N, .int .i64 o.I, .int .i64 o.A, .int .i64 o.B, vO]] w fun z w' => (∃ v, z = .returned v) ∧ RunAt w0 w' p x (r.step (mute o)) := by
 obtain ⟨E, g, hri⟩ := hf.ri
 have hm := hri.mid
 have htl := hf.tl
 have hwl := hf.wl
 have hn5 := hm.good.nodes.n5
 have hn1 := hm.good.nodes.n1
 have hrn1 : 1 ≤ r.n := by have := hm.n; omega
 have hrn5 : r.n ≤ 5 := by have := hm.n; omega
 obtain ⟨FX, FR, vW, vF, vL, hR, hn, hb0⟩ := h
 obtain ⟨aO, cO, rfl, hOL⟩ := hL
 have HOL : Hid (IntsAt w (.slice aO o.L.length cO) o.L) := hideA ⟨aO, cO, rfl, hOL⟩
 have hpl : p < w.heap.size := hR.ownLt (.inl rfl)
 have hp1 : ¬ p = w.heap.size := by omega
 have hp2 : ¬ w.heap.size = p := by omega
 obtain ⟨X, hX, hbX, hM⟩ := box_more1 w #[.int .i64 6, .int .i64 o.N, .int .i64 o.I, .int .i64 o.A, .int .i64 o.B, .slice aO o.L.length cO] 37
 have hRX := hR.below hbX
 have hsX := hbX.size
 have hqF : ¬ (FX w.heap.size ∨ OwnR p vW vF vL FR w.heap.size) := fun e => e.elim (fun e => Nat.lt_irrefl _ (cApi.lt hR.clu e)) (fun e => Nat.lt_irrefl _ (hR.ownLt e))
 have hb0X := hb0.trans (hbX.mono hb0.size)
 have HK : Hid (∀ W, Below X.heap.size X W → RunIn W p x FX FR r vW vF vL ∧ W.heap[w.heap.size]? = some (.cells #[.int .i64 6, .int .i64 o.N, .int .i64 o.I, .int .i64 o.A, .int .i64 o.B, .slice aO o.L.length cO] 37) ∧ Below w0.heap.size w0 W) := hideA fun W hb => ⟨hRX.below hb, (hb.block _ (Array.getElem?_eq_some_iff.1 hM).1).trans hM, hb0X.trans (hb.mono hb0X.size)⟩
 have HN := hideA hn
 have c0 : X.cell? ⟨p, 0, none⟩ = some (.pointer (some ⟨x, 0, none⟩)) := cell_of_heap hRX.blk 0
 have c1 : X.cell? ⟨p, 1, none⟩ = some (.int .i64 (r.n : Int)) := cell_of_heap hRX.blk 1
 have g0 := cell_of_heap hM 0
 have g1 := cell_of_heap hM 1
 have g2 := cell_of_heap hM 2
 have g3 := cell_of_heap hM 3
 have g4 := cell_of_heap hM 4
 have g5 := cell_of_heap hM 5
 have hpok : POK r.x := ⟨⟨_, _, hm.good⟩, by omega⟩
 have hbd := (Below.refl X.heap.size X).drew
 have hok := hm.flags.1
 have HF : Hid (r.step (mute o) = r.framed o) := hideA (step_framed r o (by omega))
 have HSt : Hid (StepAt w0 X p x w.heap.size #[.int .i64 6, .int .i64 o.N, .int .i64 o.I, .int .i64 o.A, .int .i64 o.B, .slice aO o.L.length cO] r) := hideA ⟨⟨FX, FR, vW, vF, vL, hRX, hn, hb0X⟩, hpok, hM⟩
 have hkind := hk
 clear hR hRX hn hOL hM
 go_enter Tryz.func7, Tryz.ntmps7
 clear c0 c1 g1 g2 g3 g4 g5
 go_wp2_with fail
 refine (HSt.out.bag).mono ?_
 rintro e T ⟨rfl, hT⟩
 have HT := hideA hT
 have b0 := cell_of_heap hT.box 0
 have b2 := cell_of_heap hT.box 2
 clear hT HSt g0
 by_cases hz : r.x.bag.length = 0
 ·have hz0 : ((r.x.bag.length : Nat) : Int) = 0 := by omega
  have HV : Hid (r.framed o = r) := hideA (by unfold Run.framed; rw [if_pos (.inl hz)])
  rw [hz0]
  clear b0 b2
  go_wp2_with fail
  (try simp only [Exit.inBlock, Exit.then]); refine bodyPost_ret (results_none rfl _ _ _) rfl ?_
  rw [HF.out, HV.out]
  exact ⟨⟨_, rfl⟩, HT.out.run⟩
 ·have hbl200 : r.x.bag.length ≤ 200 := hm.good.bag
  have h0 : (r.x.double (pickI o.I r.x.bag.length)).2 = 0 := by
   unfold Clu.double
   rw [if_pos (hasFrame_pick hz o.I)]
  have HV : Hid (r.framed o = { r with x := (r.x.double (pickI o.I r.x.bag.length)).1 }) := hideA (by
   unfold Run.framed
   rw [if_neg (by omega)]
   simp only []
   rw [if_neg (by omega), if_neg (by omega), if_pos hkind, h0, hok]
   rfl)
  have HP := hideA (pick_any o.I (r.x.bag.length : Int) T (by omega) (by omega) ho.i.1 ho.i.2)
  generalize hii : pickI o.I (r.x.bag.length : Int) = i at *
  obtain ⟨F1, R1, vW1, vF1, vL1, hR1, hn1_, hb1⟩ := HT.out.run
  have HC := hideA (cApi.double i hR1.clu HT.out.pok)
  rw [h0] at HC
  have HR1 := hideA (And.intro hR1 (And.intro hn1_ hb1))
  have t0 : T.cell? ⟨p, 0, none⟩ = some (.pointer (some ⟨x, 0, none⟩)) := cell_of_heap hR1.blk 0
  clear hR1 hn1_ hb1
  generalize hbl : r.x.bag.length = bl at *
  have hz1 : ((bl : Int) == 0) = false := by simp; omega
  have hz2 : ¬ (bl : Int) = 0 := by omega
  clear hii h0
  go_wp2_with fail
  refine HP.out.mono ?_
  rintro e T9 ⟨rfl, rfl⟩
  go_wp2_with fail
  refine HC.out.mono ?_
  rintro e U ⟨rfl, hA⟩
  have HA := hideA (RunAt.after HR1.out.1 HR1.out.2.1 HR1.out.2.2 (r.x.double i).1 hA)
  obtain ⟨F', q1, q2, q3⟩ := HR1.out.1.after (r.x.double i).1 hA
  have k9 : U.cell? ⟨p, 9, none⟩ = some (.bool true) := by
   have := cell_of_heap q1.blk 9
   rw [show (runCells { r with x := (r.x.double i).1 } x vW1 vF1 vL1)[9]? = some (.bool r.ok) from rfl, hok] at this
   exact this
  have f9 := frozen_of_heap q1.blk 9
  have hsame : U.setCell ⟨p, 9, none⟩ (.bool true) = U := setCell_same q1.blk (by rw [show (runCells { r with x := (r.x.double i).1 } x vW1 vF1 vL1)[9]? = some (.bool r.ok) from rfl, hok])
  clear hA q1 q2 q3 t0 b0 b2
  go_wp2_with fail
  go_end0
  rw [HF.out, HV.out]
  exact ⟨⟨_, rfl⟩, HA.out⟩
set_option maxRecDepth 100000 in
set_option maxHeartbeats 4000000 in
theorem kstep7_any {w0 w : World} {p x : Nat} {r : Run} {B : Nat} (o : KStep) (vO : Value) (h : RunAt w0 w p x r) (hf : Fine r B) (hB : B + 1 ≤ 2999999999999) (ho : o.Fit) (hL : IntsAt w vO o.L) (hk : o.kind = 7) :
  Calls Tryz.prog 7 #[.pointer (some ⟨p, 0, none⟩), .agg #[.int .i64 7, .int .i64 o.N, .int .i64 o.I, .int .i64 o.A, .int .i64 o.B, vO]] w fun z w' => (∃ v, z = .returned v) ∧ RunAt w0 w' p x (r.step (mute o)) := by
 obtain ⟨E, g, hri⟩ := hf.ri
 have hm := hri.mid
 have htl := hf.tl
 have hwl := hf.wl
 have hn5 := hm.good.nodes.n5
 have hn1 := hm.good.nodes.n1
 have hrn1 : 1 ≤ r.n := by have := hm.n; omega
 have hrn5 : r.n ≤ 5 := by have := hm.n; omega
 obtain ⟨FX, FR, vW, vF, vL, hR, hn, hb0⟩ := h
 obtain ⟨aO, cO, rfl, hOL⟩ := hL
 have HOL : Hid (IntsAt w (.slice aO o.L.length cO) o.L) := hideA ⟨aO, cO, rfl, hOL⟩
 have hpl : p < w.heap.size := hR.ownLt (.inl rfl)
 have hp1 : ¬ p = w.heap.size := by omega
 have hp2 : ¬ w.heap.size = p := by omega
 obtain ⟨X, hX, hbX, hM⟩ := box_more1 w #[.int .i64 7, .int .i64 o.N, .int .i64 o.I, .int .i64 o.A, .int .i64 o.B, .slice aO o.L.length cO] 37
 have hRX := hR.below hbX
 have hsX := hbX.size
 have hqF : ¬ (FX w.heap.size ∨ OwnR p vW vF vL FR w.heap.size) := fun e => e.elim (fun e => Nat.lt_irrefl _ (cApi.lt hR.clu e)) (fun e => Nat.lt_irrefl _ (hR.ownLt e))
 have hb0X := hb0.trans (hbX.mono hb0.size)
 have HK : Hid (∀ W, Below X.heap.size X W → RunIn W p x FX FR r vW vF vL ∧ W.heap[w.heap.size]? = some (.cells #[.int .i64 7, .int .i64 o.N, .int .i64 o.I, .int .i64 o.A, .int .i64 o.B, .slice aO o.L.length cO] 37) ∧ Below w0.heap.size w0 W) := hideA fun W hb => ⟨hRX.below hb, (hb.block _ (Array.getElem?_eq_some_iff.1 hM).1).trans hM, hb0X.trans (hb.mono hb0X.size)⟩
 have HN := hideA hn
 have c0 : X.cell? ⟨p, 0, none⟩ = some (.pointer (some ⟨x, 0, none⟩)) := cell_of_heap hRX.blk 0
 have c1 : X.cell? ⟨p, 1, none⟩ = some (.int .i64 (r.n : Int)) := cell_of_heap hRX.blk 1
 have g0 := cell_of_heap hM 0
 have g1 := cell_of_heap hM 1
 have g2 := cell_of_heap hM 2
 have g3 := cell_of_heap hM 3
 have g4 := cell_of_heap hM 4
 have g5 := cell_of_heap hM 5
 have hpok : POK r.x := ⟨⟨_, _, hm.good⟩, by omega⟩
 have hbd := (Below.refl X.heap.size X).drew
 have hok := hm.flags.1
 have HV : Hid (r.step (mute o) = r) := hideA (step_mute r o (.inl hk))
 have HSt : Hid (StepAt w0 X p x w.heap.size #[.int .i64 7, .int .i64 o.N, .int .i64 o.I, .int .i64 o.A, .int .i64 o.B, .slice aO o.L.length cO] r) := hideA ⟨⟨FX, FR, vW, vF, vL, hRX, hn, hb0X⟩, hpok, hM⟩
 clear hR hRX hn hOL hM
 go_enter Tryz.func7, Tryz.ntmps7
 clear c0 c1 g1 g2 g3 g4 g5
 go_wp2_with fail
 refine (HSt.out.bag).mono ?_
 rintro e T ⟨rfl, hT⟩
 have HT := hideA hT
 have b0 := cell_of_heap hT.box 0
 have b2 := cell_of_heap hT.box 2
 have b5 := cell_of_heap hT.box 5
 clear hT HSt g0
 by_cases hz : r.x.bag.length = 0
 ·have hz0 : ((r.x.bag.length : Nat) : Int) = 0 := by omega
  rw [hz0]
  clear b0 b2 b5
  go_wp2_with fail
  (try simp only [Exit.inBlock, Exit.then]); refine bodyPost_ret (results_none rfl _ _ _) rfl ?_
  rw [HV.out]
  exact ⟨⟨_, rfl⟩, HT.out.run⟩
 ·have hbl200 : r.x.bag.length ≤ 200 := hm.good.bag
  have HP := hideA (pick_any o.I (r.x.bag.length : Int) T (by omega) (by omega) ho.i.1 ho.i.2)
  generalize hii : pickI o.I (r.x.bag.length : Int) = i at *
  obtain ⟨F1, R1, vW1, vF1, vL1, hR1, hn1_, hb1⟩ := HT.out.run
  have HC : Hid (∀ W, Calls Tryz.prog 25 #[.pointer (some ⟨x, 0, none⟩), .int .i64 i, .slice aO o.L.length cO] W fun e w' => e = .returned (.int .i64 0) ∧ w' = W) := hideA fun W => cApi.spoil x i (.slice aO o.L.length cO) W
  have t0 : T.cell? ⟨p, 0, none⟩ = some (.pointer (some ⟨x, 0, none⟩)) := cell_of_heap hR1.blk 0
  have k9 : T.cell? ⟨p, 9, none⟩ = some (.bool true) := by
   have := cell_of_heap hR1.blk 9
   rw [show (runCells r x vW1 vF1 vL1)[9]? = some (.bool r.ok) from rfl, hok] at this
   exact this
  have f9 := frozen_of_heap hR1.blk 9
  have hsame : T.setCell ⟨p, 9, none⟩ (.bool true) = T := setCell_same hR1.blk (by rw [show (runCells r x vW1 vF1 vL1)[9]? = some (.bool r.ok) from rfl, hok])
  have hsame2 : T.drew.setCell ⟨p, 9, none⟩ (.bool true) = T.drew := setCell_same (w := T.drew) hR1.blk (by rw [show (runCells r x vW1 vF1 vL1)[9]? = some (.bool r.ok) from rfl, hok])
  clear hR1 hn1_ hb1
  generalize hbl : r.x.bag.length = bl at *
  have hz1 : ((bl : Int) == 0) = false := by simp; omega
  have hz2 : ¬ (bl : Int) = 0 := by omega
  clear hii
  go_wp2_with fail
  refine HP.out.mono ?_
  rintro e T9 ⟨rfl, rfl⟩
  go_wp2_with fail
  go_region_held3 (fun w' => w'.cell? ⟨p, 0, none⟩ = some (.pointer (some ⟨x, 0, none⟩)) ∧ w'.cell? ⟨w.heap.size, 5, none⟩ = some (.slice aO o.L.length cO)) (first | (refine ⟨?_, ?_⟩ <;> first | assumption | (simp [go_sem, *]; done)) | (simp [go_sem]; done) | go_keep)
   (first | (go_at_call 25; refine (HC.out _).mono ?_; rintro e W9 ⟨rfl, rfl⟩))
  all_goals (
   clear t0 b0 b2 b5
   go_wp2_with fail
   go_end0
   rw [HV.out]
   refine ⟨⟨_, rfl⟩, ?_⟩
   first
    | exact HT.out.run.below (Below.refl _ _).drew
    | (rw [hsame2]; exact HT.out.run.below (Below.refl _ _).drew))
set_option maxRecDepth 100000 in
set_option maxHeartbeats 4000000 in
theorem kstep8_any {w0 w : World} {p x : Nat} {r : Run} {B : Nat} (o : KStep) (vO : Value) (h : RunAt w0 w p x r) (hf : Fine r B) (hB : B + 1 ≤ 2999999999999) (ho : o.Fit) (hL : IntsAt w vO o.L) (hk : o.kind = 8) :
  Calls Tryz.prog 7 #[.pointer (some ⟨p, 0, none⟩), .agg #[.int .i64 8, .int .i64 o.N, .int .i64 o.I, .int .i64 o.A, .int .i64 o.B, vO]] w fun z w' => (∃ v, z = .returned v) ∧ RunAt w0 w' p x (r.step (mute o)) := by
 obtain ⟨E, g, hri⟩ := hf.ri
 have hm := hri.mid
 have htl := hf.tl
 have hwl := hf.wl
 have hn5 := hm.good.nodes.n5
 have hn1 := hm.good.nodes.n1
 have hrn1 : 1 ≤ r.n := by have := hm.n; omega
 have hrn5 : r.n ≤ 5 := by have := hm.n; omega
 obtain ⟨FX, FR, vW, vF, vL, hR, hn, hb0⟩ := h
 obtain ⟨aO, cO, rfl, hOL⟩ := hL
 have HOL : Hid (IntsAt w (.slice aO o.L.length cO) o.L) := hideA ⟨aO, cO, rfl, hOL⟩
 have hpl : p < w.heap.size := hR.ownLt (.inl rfl)
 have hp1 : ¬ p = w.heap.size := by omega
 have hp2 : ¬ w.heap.size = p := by omega
 obtain ⟨X, hX, hbX, hM⟩ := box_more1 w #[.int .i64 8, .int .i64 o.N, .int .i64 o.I, .int .i64 o.A, .int .i64 o.B, .slice aO o.L.length cO] 37
 have hRX := hR.below hbX
 have hsX := hbX.size
 have hqF : ¬ (FX w.heap.size ∨ OwnR p vW vF vL FR w.heap.size) := fun e => e.elim (fun e => Nat.lt_irrefl _ (cApi.lt hR.clu e)) (fun e => Nat.lt_irrefl _ (hR.ownLt e))
 have hb0X := hb0.trans (hbX.mono hb0.size)
 have HK : Hid (∀ W, Below X.heap.size X W → RunIn W p x FX FR r vW vF vL ∧ W.heap[w.heap.size]? = some (.cells #[.int .i64 8, .int .i64 o.N, .int .i64 o.I, .int .i64 o.A, .int .i64 o.B, .slice aO o.L.length cO] 37) ∧ Below w0.heap.size w0 W) := hideA fun W hb => ⟨hRX.below hb, (hb.block _ (Array.getElem?_eq_some_iff.1 hM).1).trans hM, hb0X.trans (hb.mono hb0X.size)⟩
 have HN := hideA hn
 have c0 : X.cell? ⟨p, 0, none⟩ = some (.pointer (some ⟨x, 0, none⟩)) := cell_of_heap hRX.blk 0
 have c1 : X.cell? ⟨p, 1, none⟩ = some (.int .i64 (r.n : Int)) := cell_of_heap hRX.blk 1
 have g0 := cell_of_heap hM 0
 have g1 := cell_of_heap hM 1
 have g2 := cell_of_heap hM 2
 have g3 := cell_of_heap hM 3
 have g4 := cell_of_heap hM 4
 have g5 := cell_of_heap hM 5
 have hpok : POK r.x := ⟨⟨_, _, hm.good⟩, by omega⟩
 have hbd := (Below.refl X.heap.size X).drew
 have HV : Hid (r.step (mute o) = { r with x := (r.x.crash (nodeOf r.n o.N)).1 }) := hideA (by rw [step_plain r o (by omega) (by omega)]; unfold Run.plain; rw [if_neg (by omega), if_neg (by omega), if_neg (by omega), if_pos hk])
 have HNd : Hid (∀ W, Below X.heap.size X W → Calls Tryz.prog 17 #[.pointer (some ⟨p, 0, none⟩), .int .i64 o.N] W fun e w' => e = .returned (.int .i64 (nodeOf r.n o.N)) ∧ w' = W) := hideA fun W hb => node_any p r.n o.N W (cell_of_heap (HK.out W hb).1.blk 1) (by omega) (by omega) ho.n.1 ho.n.2
 have hgood2 : ∃ E' g', Good (r.x.crash (nodeOf r.n o.N)).1 E' g' := by
  obtain ⟨E', g', q, _⟩ := hm.good.crash (nodeOf r.n o.N)
  exact ⟨E', g', q⟩
 have HT : Hid (∀ W, Below X.heap.size X W → Calls Tryz.prog 18 #[.pointer (some ⟨x, 0, none⟩), .int .i64 (nodeOf r.n o.N)] W fun e w' => (∃ v, e = .returned v) ∧ StepAt w0 w' p x w.heap.size #[.int .i64 8, .int .i64 o.N, .int .i64 o.I, .int .i64 o.A, .int .i64 o.B, .slice aO o.L.length cO] { r with x := (r.x.crash (nodeOf r.n o.N)).1 }) := hideA fun W hb => by
  obtain ⟨q1, q2, q3⟩ := HK.out W hb
  refine (cApi.crash (nodeOf r.n o.N) q1.clu hpok).mono ?_
  rintro e w' ⟨rfl, ha⟩
  exact ⟨⟨_, rfl⟩, StepAt.after q1 HN.out q3 _ ha q2 (fun e => hqF (.inl e)) ⟨hgood2, by rw [crash_told]; omega⟩⟩
 clear hR hRX hn hOL hM hgood2
 go_enter Tryz.func7, Tryz.ntmps7
 go_wp2_with fail
 go_region_held3 (fun w' => w'.cell? ⟨p, 0, none⟩ = some (.pointer (some ⟨x, 0, none⟩)) ∧ w'.cell? ⟨w.heap.size, 1, none⟩ = some (.int .i64 o.N)) (first | (refine ⟨?_, ?_⟩ <;> first | assumption | (simp [go_sem, *]; done)) | (simp [go_sem]; done) | go_keep)
  (first
   | (go_at_call 17; refine (HNd.out _ hbd).mono ?_; rintro e W9 ⟨rfl, rfl⟩)
   | (go_at_call 18; refine (HT.out _ hbd).mono ?_; rintro e W ⟨⟨v9, rfl⟩, hSt⟩; have HSt := hideA hSt; obtain ⟨_, _, _, _, _, hRz, _, _⟩ := hSt.run; have z0 : W.cell? ⟨p, 0, none⟩ = some (.pointer (some ⟨x, 0, none⟩)) := cell_of_heap hRz.blk 0; have z1 := cell_of_heap hSt.box 1; clear hSt hRz))
 all_goals (
  clear c0 c1 g0 g1 g2 g3 g4 g5 z0 z1 HNd HT
  go_wp2_with fail
  refine (HSt.out.bag).mono ?_
  rintro e T ⟨rfl, hT⟩
  have HT := hideA hT
  have b0 := cell_of_heap hT.box 0
  clear hT
  generalize hbl : ({ r with x := (r.x.crash (nodeOf r.n o.N)).1 } : Run).x.bag.length = bl at *
  by_cases hz : bl = 0
  ·subst hz
   clear b0
   go_wp2_with fail
   (try simp only [Exit.inBlock, Exit.then]); refine bodyPost_ret (results_none rfl _ _ _) rfl ?_
   rw [HV.out]
   exact ⟨⟨_, rfl⟩, HT.out.run⟩
  ·have hz1 : ((bl : Int) == 0) = false := by simp; omega
   have hz2 : ¬ (bl : Int) = 0 := by omega
   go_wp2_with fail
   (try simp only [Exit.inBlock, Exit.then]); refine bodyPost_ret (results_none rfl _ _ _) rfl ?_
   rw [HV.out]
   exact ⟨⟨_, rfl⟩, HT.out.run⟩
 )
set_option maxRecDepth 100000 in
set_option maxHeartbeats 4000000 in
theorem kstep9_any {w0 w : World} {p x : Nat} {r : Run} {B : Nat} (o : KStep) (vO : Value) (h : RunAt w0 w p x r) (hf : Fine r B) (hB : B + 1 ≤ 2999999999999) (ho : o.Fit) (hL : IntsAt w vO o.L) (hk : o.kind = 9) :
  Calls Tryz.prog 7 #[.pointer (some ⟨p, 0, none⟩), .agg #[.int .i64 9, .int .i64 o.N, .int .i64 o.I, .int .i64 o.A, .int .i64 o.B, vO]] w fun z w' => (∃ v, z = .returned v) ∧ RunAt w0 w' p x (r.step (mute o)) := by
 obtain ⟨E, g, hri⟩ := hf.ri
 have hm := hri.mid
 have htl := hf.tl
 have hwl := hf.wl
 have hn5 := hm.good.nodes.n5
 have hn1 := hm.good.nodes.n1
 have hrn1 : 1 ≤ r.n := by have := hm.n; omega
 have hrn5 : r.n ≤ 5 := by have := hm.n; omega
 obtain ⟨FX, FR, vW, vF, vL, hR, hn, hb0⟩ := h
 obtain ⟨aO, cO, rfl, hOL⟩ := hL
 have HOL : Hid (IntsAt w (.slice aO o.L.length cO) o.L) := hideA ⟨aO, cO, rfl, hOL⟩
 have hpl : p < w.heap.size := hR.ownLt (.inl rfl)
 have hp1 : ¬ p = w.heap.size := by omega
 have hp2 : ¬ w.heap.size = p := by omega
 obtain ⟨X, hX, hbX, hM⟩ := box_more1 w #[.int .i64 9, .int .i64 o.N, .int .i64 o.I, .int .i64 o.A, .int .i64 o.B, .slice aO o.L.length cO] 37
 have hRX := hR.below hbX
 have hsX := hbX.size
 have hqF : ¬ (FX w.heap.size ∨ OwnR p vW vF vL FR w.heap.size) := fun e => e.elim (fun e => Nat.lt_irrefl _ (cApi.lt hR.clu e)) (fun e => Nat.lt_irrefl _ (hR.ownLt e))
 have hb0X := hb0.trans (hbX.mono hb0.size)
 have HK : Hid (∀ W, Below X.heap.size X W → RunIn W p x FX FR r vW vF vL ∧ W.heap[w.heap.size]? = some (.cells #[.int .i64 9, .int .i64 o.N, .int .i64 o.I, .int .i64 o.A, .int .i64 o.B, .slice aO o.L.length cO] 37) ∧ Below w0.heap.size w0 W) := hideA fun W hb => ⟨hRX.below hb, (hb.block _ (Array.getElem?_eq_some_iff.1 hM).1).trans hM, hb0X.trans (hb.mono hb0X.size)⟩
 have HN := hideA hn
 have c0 : X.cell? ⟨p, 0, none⟩ = some (.pointer (some ⟨x, 0, none⟩)) := cell_of_heap hRX.blk 0
 have c1 : X.cell? ⟨p, 1, none⟩ = some (.int .i64 (r.n : Int)) := cell_of_heap hRX.blk 1
 have g0 := cell_of_heap hM 0
 have g1 := cell_of_heap hM 1
 have g2 := cell_of_heap hM 2
 have g3 := cell_of_heap hM 3
 have g4 := cell_of_heap hM 4
 have g5 := cell_of_heap hM 5
 have hpok : POK r.x := ⟨⟨_, _, hm.good⟩, by omega⟩
 have hbd := (Below.refl X.heap.size X).drew
 have HV : Hid (r.step (mute o) = { r with x := (r.x.restart (nodeOf r.n o.N)).1 }) := hideA (by rw [step_plain r o (by omega) (by omega)]; unfold Run.plain; rw [if_neg (by omega), if_neg (by omega), if_neg (by omega), if_neg (by omega), if_pos hk])
 have HNd : Hid (∀ W, Below X.heap.size X W → Calls Tryz.prog 17 #[.pointer (some ⟨p, 0, none⟩), .int .i64 o.N] W fun e w' => e = .returned (.int .i64 (nodeOf r.n o.N)) ∧ w' = W) := hideA fun W hb => node_any p r.n o.N W (cell_of_heap (HK.out W hb).1.blk 1) (by omega) (by omega) ho.n.1 ho.n.2
 have hgood2 : ∃ E' g', Good (r.x.restart (nodeOf r.n o.N)).1 E' g' := by
  obtain ⟨E', g', q, _⟩ := hm.good.restart (nodeOf r.n o.N)
  exact ⟨E', g', q⟩
 have HT : Hid (∀ W, Below X.heap.size X W → Calls Tryz.prog 19 #[.pointer (some ⟨x, 0, none⟩), .int .i64 (nodeOf r.n o.N)] W fun e w' => (∃ v, e = .returned v) ∧ StepAt w0 w' p x w.heap.size #[.int .i64 9, .int .i64 o.N, .int .i64 o.I, .int .i64 o.A, .int .i64 o.B, .slice aO o.L.length cO] { r with x := (r.x.restart (nodeOf r.n o.N)).1 }) := hideA fun W hb => by
  obtain ⟨q1, q2, q3⟩ := HK.out W hb
  refine (cApi.restart (nodeOf r.n o.N) q1.clu hpok).mono ?_
  rintro e w' ⟨rfl, ha⟩
  exact ⟨⟨_, rfl⟩, StepAt.after q1 HN.out q3 _ ha q2 (fun e => hqF (.inl e)) ⟨hgood2, by rw [restart_told]; omega⟩⟩
 clear hR hRX hn hOL hM hgood2
 go_enter Tryz.func7, Tryz.ntmps7
 go_wp2_with fail
 go_region_held3 (fun w' => w'.cell? ⟨p, 0, none⟩ = some (.pointer (some ⟨x, 0, none⟩)) ∧ w'.cell? ⟨w.heap.size, 1, none⟩ = some (.int .i64 o.N)) (first | (refine ⟨?_, ?_⟩ <;> first | assumption | (simp [go_sem, *]; done)) | (simp [go_sem]; done) | go_keep)
  (first
   | (go_at_call 17; refine (HNd.out _ hbd).mono ?_; rintro e W9 ⟨rfl, rfl⟩)
   | (go_at_call 19; refine (HT.out _ hbd).mono ?_; rintro e W ⟨⟨v9, rfl⟩, hSt⟩; have HSt := hideA hSt; obtain ⟨_, _, _, _, _, hRz, _, _⟩ := hSt.run; have z0 : W.cell? ⟨p, 0, none⟩ = some (.pointer (some ⟨x, 0, none⟩)) := cell_of_heap hRz.blk 0; have z1 := cell_of_heap hSt.box 1; clear hSt hRz))
 all_goals (
  clear c0 c1 g0 g1 g2 g3 g4 g5 z0 z1 HNd HT
  go_wp2_with fail
  refine (HSt.out.bag).mono ?_
  rintro e T ⟨rfl, hT⟩
  have HT := hideA hT
  have b0 := cell_of_heap hT.box 0
  clear hT
  generalize hbl : ({ r with x := (r.x.restart (nodeOf r.n o.N)).1 } : Run).x.bag.length = bl at *
  by_cases hz : bl = 0
  ·subst hz
   clear b0
   go_wp2_with fail
   (try simp only [Exit.inBlock, Exit.then]); refine bodyPost_ret (results_none rfl _ _ _) rfl ?_
   rw [HV.out]
   exact ⟨⟨_, rfl⟩, HT.out.run⟩
  ·have hz1 : ((bl : Int) == 0) = false := by simp; omega
   have hz2 : ¬ (bl : Int) = 0 := by omega
   go_wp2_with fail
   (try simp only [Exit.inBlock, Exit.then]); refine bodyPost_ret (results_none rfl _ _ _) rfl ?_
   rw [HV.out]
   exact ⟨⟨_, rfl⟩, HT.out.run⟩
 )
set_option maxRecDepth 100000 in
set_option maxHeartbeats 4000000 in
theorem kstep10_any {w0 w : World} {p x : Nat} {r : Run} {B : Nat} (o : KStep) (vO : Value) (h : RunAt w0 w p x r) (hf : Fine r B) (hB : B + 1 ≤ 2999999999999) (_ho : o.Fit) (hL : IntsAt w vO o.L) (hk : o.kind = 10) :
  Calls Tryz.prog 7 #[.pointer (some ⟨p, 0, none⟩), .agg #[.int .i64 10, .int .i64 o.N, .int .i64 o.I, .int .i64 o.A, .int .i64 o.B, vO]] w fun z w' => (∃ v, z = .returned v) ∧ RunAt w0 w' p x (r.step (mute o)) := by
 obtain ⟨E, g, hri⟩ := hf.ri
 have hm := hri.mid
 have htl := hf.tl
 have hwl := hf.wl
 have hn5 := hm.good.nodes.n5
 have hn1 := hm.good.nodes.n1
 have hrn1 : 1 ≤ r.n := by have := hm.n; omega
 have hrn5 : r.n ≤ 5 := by have := hm.n; omega
 obtain ⟨FX, FR, vW, vF, vL, hR, hn, hb0⟩ := h
 obtain ⟨aO, cO, rfl, hOL⟩ := hL
 have HOL : Hid (IntsAt w (.slice aO o.L.length cO) o.L) := hideA ⟨aO, cO, rfl, hOL⟩
 have hpl : p < w.heap.size := hR.ownLt (.inl rfl)
 have hp1 : ¬ p = w.heap.size := by omega
 have hp2 : ¬ w.heap.size = p := by omega
 obtain ⟨X, hX, hbX, hM⟩ := box_more1 w #[.int .i64 10, .int .i64 o.N, .int .i64 o.I, .int .i64 o.A, .int .i64 o.B, .slice aO o.L.length cO] 37
 have hRX := hR.below hbX
 have hsX := hbX.size
 have hqF : ¬ (FX w.heap.size ∨ OwnR p vW vF vL FR w.heap.size) := fun e => e.elim (fun e => Nat.lt_irrefl _ (cApi.lt hR.clu e)) (fun e => Nat.lt_irrefl _ (hR.ownLt e))
 have hb0X := hb0.trans (hbX.mono hb0.size)
 have HK : Hid (∀ W, Below X.heap.size X W → RunIn W p x FX FR r vW vF vL ∧ W.heap[w.heap.size]? = some (.cells #[.int .i64 10, .int .i64 o.N, .int .i64 o.I, .int .i64 o.A, .int .i64 o.B, .slice aO o.L.length cO] 37) ∧ Below w0.heap.size w0 W) := hideA fun W hb => ⟨hRX.below hb, (hb.block _ (Array.getElem?_eq_some_iff.1 hM).1).trans hM, hb0X.trans (hb.mono hb0X.size)⟩
 have HN := hideA hn
 have c0 : X.cell? ⟨p, 0, none⟩ = some (.pointer (some ⟨x, 0, none⟩)) := cell_of_heap hRX.blk 0
 have c1 : X.cell? ⟨p, 1, none⟩ = some (.int .i64 (r.n : Int)) := cell_of_heap hRX.blk 1
 have g0 := cell_of_heap hM 0
 have g1 := cell_of_heap hM 1
 have g2 := cell_of_heap hM 2
 have g3 := cell_of_heap hM 3
 have g4 := cell_of_heap hM 4
 have g5 := cell_of_heap hM 5
 have hpok : POK r.x := ⟨⟨_, _, hm.good⟩, by omega⟩
 have hbd := (Below.refl X.heap.size X).drew
 have HV : Hid (r.step (mute o) = r) := hideA (step_mute r o (.inr hk))
 have HT : Hid (Calls Tryz.prog 20 #[.pointer (some ⟨x, 0, none⟩)] X fun e w' => (∃ v, e = .returned v) ∧ w' = X) := hideA (cApi.round x X)
 have HSt : Hid (StepAt w0 X p x w.heap.size #[.int .i64 10, .int .i64 o.N, .int .i64 o.I, .int .i64 o.A, .int .i64 o.B, .slice aO o.L.length cO] r) := hideA ⟨⟨FX, FR, vW, vF, vL, hRX, hn, hb0X⟩, hpok, hM⟩
 clear hR hRX hn hOL hM
 go_enter Tryz.func7, Tryz.ntmps7
 go_wp2_with fail
 refine HT.out.mono ?_
 rintro e W ⟨⟨v, rfl⟩, rfl⟩
 all_goals (
  clear c0 c1 g0 g1 g2 g3 g4 g5
  go_wp2_with fail
  refine (HSt.out.bag).mono ?_
  rintro e T ⟨rfl, hT⟩
  have HT := hideA hT
  have b0 := cell_of_heap hT.box 0
  clear hT
  generalize hbl : (r : Run).x.bag.length = bl at *
  by_cases hz : bl = 0
  ·subst hz
   clear b0
   go_wp2_with fail
   (try simp only [Exit.inBlock, Exit.then]); refine bodyPost_ret (results_none rfl _ _ _) rfl ?_
   rw [HV.out]
   exact ⟨⟨_, rfl⟩, HT.out.run⟩
  ·have hz1 : ((bl : Int) == 0) = false := by simp; omega
   have hz2 : ¬ (bl : Int) = 0 := by omega
   go_wp2_with fail
   (try simp only [Exit.inBlock, Exit.then]); refine bodyPost_ret (results_none rfl _ _ _) rfl ?_
   rw [HV.out]
   exact ⟨⟨_, rfl⟩, HT.out.run⟩
 )
end Go.Proofs.YtlminmokpmdgoabGreat
