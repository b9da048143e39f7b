import Derived.Test.YtlminmokpmdgoabGreatK47
import Derived.BigRegion
import Derived.Test.YtlminmokpmdgoabGreatK49
import Derived.Test.YtlminmokpmdgoabGreatK12
namespace Go.Proofs.YtlminmokpmdgoabGreat
open Go.RowKit Go.Shelf
theorem set14_5 {W : World} {p x : Nat} {r : Run} {vW vF vL : Value} (n : Nat) (h : W.heap[p]? = some (.cells (runCells r x vW vF vL) 31)) : (W.setCell ⟨p, 5, none⟩ (.int .i64 (n : Int))).heap[p]? = some (.cells (runCells { r with begun0 := n } x vW vF vL) 31) := heap_setCell_same _ _ _ _ _ _ h
theorem set14_6 {W : World} {p x : Nat} {r : Run} {vW vF vL : Value} (n : Nat) (h : W.heap[p]? = some (.cells (runCells r x vW vF vL) 31)) : (W.setCell ⟨p, 6, none⟩ (.int .i64 (n : Int))).heap[p]? = some (.cells (runCells { r with begun1 := n } x vW vF vL) 31) := heap_setCell_same _ _ _ _ _ _ h
theorem change_code {r : Run} {E : Int} {g : Gh} (hm : Mid r E g) (m : Int) (hm2 : m = 0 ∨ m = 1) (l : List Int) (hl : memsOk l r.n = true) : (r.x.change (200 + m) l).2 = 0 ∨ (r.x.change (200 + m) l).2 = 5 := by
 unfold Clu.change
 rw [if_neg (by simp only [Decidable.not_not]; unfold isMas; omega)]
 split
 ·exact .inr rfl
 ·rw [if_neg (by rw [← hm.n, hl]; simp)]
  exact .inl rfl
theorem flags_after {w0 W W2 : World} {p x : Nat} {F' FR : Nat → Prop} {r r' : Run} {vW vF vL : Value} (h : RunIn W p x F' FR r vW vF vL) (hn : ∀ k, F' k ∨ OwnR p vW vF vL FR k → w0.heap.size ≤ k) (hb : Below w0.heap.size w0 W) (hblk : W2.heap[p]? = some (.cells (runCells r' x vW vF vL) 31)) (hM : Moved W W2 (fun k => k = p)) (hk : ∀ k, k ≠ p → W2.heap[k]? = W.heap[k]?)
  (e1 : r'.x = r.x) (e2 : r'.wishes = r.wishes) (e3 : r'.fixed = r.fixed) (e4 : r'.last = r.last) : RunAt w0 W2 p x r' :=
 ⟨F', FR, vW, vF, vL, h.flags hblk hk e1 e2 e3 e4, hn, hb.trans (hM.to_below (fun k e => hn k (.inr (.inl e))) hb.size)⟩
set_option maxRecDepth 100000 in
set_option maxHeartbeats 2000000 in
theorem kchange0_any {w0 w : World} {p x : Nat} {FX FR : Nat → Prop} {r : Run} {vW vF vL : Value} {E : Int} {g : Gh} (v : Value) (l : List Int) (h : RunIn w p x FX FR r vW vF vL) (hn : ∀ k, FX k ∨ OwnR p vW vF vL FR k → w0.heap.size ≤ k) (hb0 : Below w0.heap.size w0 w) (hm : Mid r E g) (hl : memsOk l r.n = true) (hv : ListIn w v l) (hvF : ∀ k, v.ownBlock = some k → ¬ FX k) (htl : r.x.told.length ≤ 2999999999999) :
  Calls Tryz.prog 14 #[.pointer (some ⟨p, 0, none⟩), .int .i64 0, v] w fun z w' => (∃ v, z = .returned v) ∧ RunAt w0 w' p x (r.change 0 l) ∧ KeepB w w' p FX FR vW vF vL := by
 have hlen : l.length ≤ 5 := by have := memsOk_length hl; have := hm.n; have := hm.good.nodes.n5; omega
 have hcode := change_code hm 0 (by omega) l hl
 have hok := hm.flags.1
 have HC := hideA (cApi.change (200 + 0) v l h.clu ⟨⟨_, _, hm.good⟩, htl⟩ hv (by omega) hvF)
 have c0 : w.cell? ⟨p, 0, none⟩ = some (.pointer (some ⟨x, 0, none⟩)) := cell_of_heap h.blk 0
 have c5 : w.cell? ⟨p, 5, none⟩ = some (.int .i64 (r.begun0 : Int)) := cell_of_heap h.blk 5
 have HR : Hid (r.change 0 l = if 40 ≤ r.begun0 then r else { r with x := (r.x.change (200 + 0) l).1, begun0 := if (r.x.change (200 + 0) l).2 = 0 ∧ (0 : Int) = 0 then r.begun0 + 1 else r.begun0, begun1 := if (r.x.change (200 + 0) l).2 = 0 ∧ (0 : Int) ≠ 0 then r.begun1 + 1 else r.begun1, ok := r.ok && (decide ((r.x.change (200 + 0) l).2 = 0) || decide ((r.x.change (200 + 0) l).2 = 5)) }) := hideA rfl
 have HI := hideA (And.intro h (And.intro hn hb0))
 obtain ⟨av, cv, hsh, -⟩ := hv.2
 subst hsh
 clear h hn hb0 hv
 by_cases h40 : 40 ≤ r.begun0
 ·have HV : Hid (r.change 0 l = r) := hideA (by rw [HR.out, if_pos h40])
  have h40' : (40 : Int) ≤ (r.begun0 : Int) := by omega
  go_enter Tryz.func14, Tryz.ntmps14
  go_wp2_with fail
  (try simp only [Exit.inBlock, Exit.then]); refine bodyPost_ret (results_none rfl _ _ _) rfl ?_
  rw [HV.out]
  exact ⟨⟨_, rfl⟩, ⟨FX, FR, vW, vF, vL, HI.out.1, HI.out.2.1, HI.out.2.2⟩, fun _ _ _ => rfl⟩
 ·have h40' : ¬ (40 : Int) ≤ (r.begun0 : Int) := by omega
  have h200 : (200 : Int) + 0 = 200 := rfl
  rw [h200] at HC HR hcode
  generalize hcc : r.x.change 200 l = cc at *
  obtain ⟨c', code⟩ := cc
  simp only at HC HR hcode
  clear hcc h200
  rcases hcode with rfl | rfl
  ·have HV : Hid (r.change 0 l = { r with x := c', begun0 := r.begun0 + 1 }) := hideA (by rw [HR.out, if_neg h40, hok]; rfl)
   have hwr : IntKind.i64.wrap ((r.begun0 : Int) + 1) = (r.begun0 : Int) + 1 := by rw [IntKind.wrap_i64]; omega
   go_enter Tryz.func14, Tryz.ntmps14
   go_wp2_with fail
   refine HC.out.mono ?_
   rintro z W ⟨rfl, hA⟩
   obtain ⟨F', q1, q2, q3⟩ := HI.out.1.after c' hA
   have hnew : ∀ k, F' k ∨ OwnR p vW vF vL FR k → w0.heap.size ≤ k := fun k hk => by
    have := HI.out.2.2.size
    rcases hk with q | q
    ·rcases q3 k q with q | q
     ·exact HI.out.2.1 k (.inl q)
     ·omega
    ·exact HI.out.2.1 k (.inr q)
   have hbW := HI.out.2.2.trans (q2.to_below (fun k q => HI.out.2.1 k (.inl q)) HI.out.2.2.size)
   have HQ := hideA (And.intro q1 (And.intro hnew hbW))
   have HKp : Hid (KeepB w W p FX FR vW vF vL) := hideA fun k hk hno => q2.block k hk (fun e => hno (.inl e))
   have hws := hideA q2.size
   have k5 : W.cell? ⟨p, 5, none⟩ = some (.int .i64 (r.begun0 : Int)) := cell_of_heap q1.blk 5
   have f5 := frozen_of_heap q1.blk 5
   have k9 : W.cell? ⟨p, 9, none⟩ = some (.bool true) := by
    have := cell_of_heap q1.blk 9
    rw [show (runCells { r with x := c' } x vW vF vL)[9]? = some (.bool r.ok) from rfl, hok] at this
    exact this
   have f9 := frozen_of_heap q1.blk 9
   have hB2 := set14_5 (r.begun0 + 1) q1.blk
   have hM2 : Moved W (W.setCell ⟨p, 5, none⟩ (.int .i64 ((r.begun0 + 1 : Nat) : Int))) (fun k => k = p) := (Moved.refl W (fun k => k = p)).setCell ⟨p, 5, none⟩ rfl _
   have hsame := setCell_same (j := 9) (v := .bool true) hB2 (by rw [show (runCells { r with x := c', begun0 := r.begun0 + 1 } x vW vF vL)[9]? = some (.bool r.ok) from rfl, hok])
   have HB2 := hideA (And.intro hB2 (And.intro hM2 hsame))
   clear hA q1 q2 q3 hB2 hM2 hnew hbW hsame c0 c5
   go_wp2_with fail
   go_region
   all_goals (
    go_wp2_with fail
    go_end0
    rw [HV.out]
    refine ⟨⟨_, rfl⟩, RunAt.below ?_ (Below.refl _ _).drew, ?_⟩
    rotate_left
    ·intro k hk hno
     have hkp : k ≠ p := fun e => hno (.inr (.inl e))
     exact ((Below.heap_setCell _ _ _ k hkp).trans (Below.heap_setCell _ _ _ k hkp)).trans (HKp.out k hk hno)
    have hcst : ((r.begun0 : Int) + 1) = ((r.begun0 + 1 : Nat) : Int) := by omega
    rw [hcst, HB2.out.2.2]
    exact flags_after HQ.out.1 HQ.out.2.1 HQ.out.2.2 HB2.out.1 HB2.out.2.1 (fun k hk => Below.heap_setCell _ _ _ _ hk) rfl rfl rfl rfl)
  ·have HV : Hid (r.change 0 l = { r with x := c' }) := hideA (by rw [HR.out, if_neg h40, hok]; rfl)
   go_enter Tryz.func14, Tryz.ntmps14
   go_wp2_with fail
   refine HC.out.mono ?_
   rintro z W ⟨rfl, hA⟩
   have HA := hideA (RunAt.after HI.out.1 HI.out.2.1 HI.out.2.2 c' hA)
   have HKp : Hid (KeepB w W p FX FR vW vF vL) := hideA (by obtain ⟨_, _, q, _⟩ := hA; exact fun k hk hno => q.block k hk (fun e => hno (.inl e)))
   obtain ⟨F', q1, q2, q3⟩ := HI.out.1.after c' hA
   have k9 : W.cell? ⟨p, 9, none⟩ = some (.bool true) := by
    have := cell_of_heap q1.blk 9
    rw [show (runCells { r with x := c' } x vW vF vL)[9]? = some (.bool r.ok) from rfl, hok] at this
    exact this
   have f9 := frozen_of_heap q1.blk 9
   have hsame : W.setCell ⟨p, 9, none⟩ (.bool true) = W := setCell_same q1.blk (by rw [show (runCells { r with x := c' } x vW vF vL)[9]? = some (.bool r.ok) from rfl, hok])
   clear hA q1 q2 q3 c0 c5
   go_wp2_with fail
   go_end0
   rw [HV.out]
   exact ⟨⟨_, rfl⟩, HA.out, HKp.out⟩
set_option maxRecDepth 100000 in
set_option maxHeartbeats 2000000 in
theorem kchange1_any {w0 w : World} {p x : Nat} {FX FR : Nat → Prop} {r : Run} {vW vF vL : Value} {E : Int} {g : Gh} (v : Value) (l : List Int) (h : RunIn w p x FX FR r vW vF vL) (hn : ∀ k, FX k ∨ OwnR p vW vF vL FR k → w0.heap.size ≤ k) (hb0 : Below w0.heap.size w0 w) (hm : Mid r E g) (hl : memsOk l r.n = true) (hv : ListIn w v l) (hvF : ∀ k, v.ownBlock = some k → ¬ FX k) (htl : r.x.told.length ≤ 2999999999999) :
  Calls Tryz.prog 14 #[.pointer (some ⟨p, 0, none⟩), .int .i64 1, v] w fun z w' => (∃ v, z = .returned v) ∧ RunAt w0 w' p x (r.change 1 l) ∧ KeepB w w' p FX FR vW vF vL := by
 have hlen : l.length ≤ 5 := by have := memsOk_length hl; have := hm.n; have := hm.good.nodes.n5; omega
 have hcode := change_code hm 1 (by omega) l hl
 have hok := hm.flags.1
 have HC := hideA (cApi.change (200 + 1) v l h.clu ⟨⟨_, _, hm.good⟩, htl⟩ hv (by omega) hvF)
 have c0 : w.cell? ⟨p, 0, none⟩ = some (.pointer (some ⟨x, 0, none⟩)) := cell_of_heap h.blk 0
 have c5 : w.cell? ⟨p, 6, none⟩ = some (.int .i64 (r.begun1 : Int)) := cell_of_heap h.blk 6
 have HR : Hid (r.change 1 l = if 40 ≤ r.begun1 then r else { r with x := (r.x.change (200 + 1) l).1, begun0 := if (r.x.change (200 + 1) l).2 = 0 ∧ (1 : Int) = 0 then r.begun0 + 1 else r.begun0, begun1 := if (r.x.change (200 + 1) l).2 = 0 ∧ (1 : Int) ≠ 0 then r.begun1 + 1 else r.begun1, ok := r.ok && (decide ((r.x.change (200 + 1) l).2 = 0) || decide ((r.x.change (200 + 1) l).2 = 5)) }) := hideA rfl
 have HI := hideA (And.intro h (And.intro hn hb0))
 obtain ⟨av, cv, hsh, -⟩ := hv.2
 subst hsh
 clear h hn hb0 hv
 by_cases h40 : 40 ≤ r.begun1
 ·have HV : Hid (r.change 1 l = r) := hideA (by rw [HR.out, if_pos h40])
  have h40' : (40 : Int) ≤ (r.begun1 : Int) := by omega
  go_enter Tryz.func14, Tryz.ntmps14
  go_wp2_with fail
  (try simp only [Exit.inBlock, Exit.then]); refine bodyPost_ret (results_none rfl _ _ _) rfl ?_
  rw [HV.out]
  exact ⟨⟨_, rfl⟩, ⟨FX, FR, vW, vF, vL, HI.out.1, HI.out.2.1, HI.out.2.2⟩, fun _ _ _ => rfl⟩
 ·have h40' : ¬ (40 : Int) ≤ (r.begun1 : Int) := by omega
  have h200 : (200 : Int) + 1 = 201 := rfl
  rw [h200] at HC HR hcode
  generalize hcc : r.x.change 201 l = cc at *
  obtain ⟨c', code⟩ := cc
  simp only at HC HR hcode
  clear hcc h200
  rcases hcode with rfl | rfl
  ·have HV : Hid (r.change 1 l = { r with x := c', begun1 := r.begun1 + 1 }) := hideA (by rw [HR.out, if_neg h40, hok]; rfl)
   have hwr : IntKind.i64.wrap ((r.begun1 : Int) + 1) = (r.begun1 : Int) + 1 := by rw [IntKind.wrap_i64]; omega
   go_enter Tryz.func14, Tryz.ntmps14
   go_wp2_with fail
   refine HC.out.mono ?_
   rintro z W ⟨rfl, hA⟩
   obtain ⟨F', q1, q2, q3⟩ := HI.out.1.after c' hA
   have hnew : ∀ k, F' k ∨ OwnR p vW vF vL FR k → w0.heap.size ≤ k := fun k hk => by
    have := HI.out.2.2.size
    rcases hk with q | q
    ·rcases q3 k q with q | q
     ·exact HI.out.2.1 k (.inl q)
     ·omega
    ·exact HI.out.2.1 k (.inr q)
   have hbW := HI.out.2.2.trans (q2.to_below (fun k q => HI.out.2.1 k (.inl q)) HI.out.2.2.size)
   have HQ := hideA (And.intro q1 (And.intro hnew hbW))
   have HKp : Hid (KeepB w W p FX FR vW vF vL) := hideA fun k hk hno => q2.block k hk (fun e => hno (.inl e))
   have hws := hideA q2.size
   have k5 : W.cell? ⟨p, 6, none⟩ = some (.int .i64 (r.begun1 : Int)) := cell_of_heap q1.blk 6
   have f5 := frozen_of_heap q1.blk 6
   have k9 : W.cell? ⟨p, 9, none⟩ = some (.bool true) := by
    have := cell_of_heap q1.blk 9
    rw [show (runCells { r with x := c' } x vW vF vL)[9]? = some (.bool r.ok) from rfl, hok] at this
    exact this
   have f9 := frozen_of_heap q1.blk 9
   have hB2 := set14_6 (r.begun1 + 1) q1.blk
   have hM2 : Moved W (W.setCell ⟨p, 6, none⟩ (.int .i64 ((r.begun1 + 1 : Nat) : Int))) (fun k => k = p) := (Moved.refl W (fun k => k = p)).setCell ⟨p, 6, none⟩ rfl _
   have hsame := setCell_same (j := 9) (v := .bool true) hB2 (by rw [show (runCells { r with x := c', begun1 := r.begun1 + 1 } x vW vF vL)[9]? = some (.bool r.ok) from rfl, hok])
   have HB2 := hideA (And.intro hB2 (And.intro hM2 hsame))
   clear hA q1 q2 q3 hB2 hM2 hnew hbW hsame c0 c5
   go_wp2_with fail
   go_region
   all_goals (
    go_wp2_with fail
    go_end0
    rw [HV.out]
    refine ⟨⟨_, rfl⟩, RunAt.below ?_ (Below.refl _ _).drew, ?_⟩
    rotate_left
    ·intro k hk hno
     have hkp : k ≠ p := fun e => hno (.inr (.inl e))
     exact ((Below.heap_setCell _ _ _ k hkp).trans (Below.heap_setCell _ _ _ k hkp)).trans (HKp.out k hk hno)
    have hcst : ((r.begun1 : Int) + 1) = ((r.begun1 + 1 : Nat) : Int) := by omega
    rw [hcst, HB2.out.2.2]
    exact flags_after HQ.out.1 HQ.out.2.1 HQ.out.2.2 HB2.out.1 HB2.out.2.1 (fun k hk => Below.heap_setCell _ _ _ _ hk) rfl rfl rfl rfl)
  ·have HV : Hid (r.change 1 l = { r with x := c' }) := hideA (by rw [HR.out, if_neg h40, hok]; rfl)
   go_enter Tryz.func14, Tryz.ntmps14
   go_wp2_with fail
   refine HC.out.mono ?_
   rintro z W ⟨rfl, hA⟩
   have HA := hideA (RunAt.after HI.out.1 HI.out.2.1 HI.out.2.2 c' hA)
   have HKp : Hid (KeepB w W p FX FR vW vF vL) := hideA (by obtain ⟨_, _, q, _⟩ := hA; exact fun k hk hno => q.block k hk (fun e => hno (.inl e)))
   obtain ⟨F', q1, q2, q3⟩ := HI.out.1.after c' hA
   have k9 : W.cell? ⟨p, 9, none⟩ = some (.bool true) := by
    have := cell_of_heap q1.blk 9
    rw [show (runCells { r with x := c' } x vW vF vL)[9]? = some (.bool r.ok) from rfl, hok] at this
    exact this
   have f9 := frozen_of_heap q1.blk 9
   have hsame : W.setCell ⟨p, 9, none⟩ (.bool true) = W := setCell_same q1.blk (by rw [show (runCells { r with x := c' } x vW vF vL)[9]? = some (.bool r.ok) from rfl, hok])
   clear hA q1 q2 q3 c0 c5
   go_wp2_with fail
   go_end0
   rw [HV.out]
   exact ⟨⟨_, rfl⟩, HA.out, HKp.out⟩
theorem listIn_own {w : World} {base : Nat} {v : Value} {l : List Int} (h : w.ownsRow base 3 1 v l.length (ints l)) : ListIn w v l := ⟨IntsAt.of_owns h, own_cap h⟩
structure StepAt (w0 W : World) (p x q : Nat) (cs : Array Value) (r : Run) : Prop where
 run : RunAt w0 W p x r
 pok : POK r.x
 box : W.heap[q]? = some (.cells cs 37)
theorem StepAt.bag {w0 W : World} {p x q : Nat} {cs : Array Value} {r : Run} (h : StepAt w0 W p x q cs r) :
  Calls Tryz.prog 21 #[.pointer (some ⟨p, 0, none⟩)] W fun e w' => e = .returned (.int .i64 (r.x.bag.length : Int)) ∧ StepAt w0 w' p x q cs r := by
 obtain ⟨FX, FR, vW, vF, vL, hR, hn, hb⟩ := h.run
 refine (bagLen_any cApi p x FX r.x W (cell_of_heap hR.blk 0) hR.clu h.pok).mono ?_
 rintro e w' ⟨rfl, hbl⟩
 exact ⟨rfl, h.run.below hbl, h.pok, (hbl.block q (Array.getElem?_eq_some_iff.1 h.box).1).trans h.box⟩
theorem StepAt.after {w0 W W' : World} {p x q : Nat} {cs : Array Value} {FX FR : Nat → Prop} {r : Run} {vW vF vL : Value} (h : RunIn W p x FX FR r vW vF vL) (hn : ∀ k, FX k ∨ OwnR p vW vF vL FR k → w0.heap.size ≤ k) (hb : Below w0.heap.size w0 W) (c' : Clu) (ha : CAfter W FX x c' W') (hbox : W.heap[q]? = some (.cells cs 37)) (hq : ¬ FX q) (hp : POK c') : StepAt w0 W' p x q cs { r with x := c' } := by
 refine ⟨RunAt.after h hn hb c' ha, hp, ?_⟩
 obtain ⟨F', _, h2, _⟩ := ha
 exact (h2.block q (Array.getElem?_eq_some_iff.1 hbox).1 hq).trans hbox
set_option maxRecDepth 100000 in
set_option maxHeartbeats 4000000 in
theorem kstep1_any {w0 w : World} {p x : Nat} {r : Run} {B : Nat} (o : KStep) (vO : Value) (h : RunAt w0 w p x r) (hf : Fine r B) (hB : B + 1 ≤ 2999999999999) (ho : o.Fit) (hL : IntsAt w vO o.L) (hk : o.kind = 1) :
  Calls Tryz.prog 7 #[.pointer (some ⟨p, 0, none⟩), .agg #[.int .i64 1, .int .i64 o.N, .int .i64 o.I, .int .i64 o.A, .int .i64 o.B, vO]] w fun z w' => (∃ v, z = .returned v) ∧ RunAt w0 w' p x (r.step (mute o)) := by
 obtain ⟨E, g, hri⟩ := hf.ri
 have hm := hri.mid
 have htl := hf.tl
 have hwl := hf.wl
 have hn5 := hm.good.nodes.n5
 have hn1 := hm.good.nodes.n1
 have hrn1 : 1 ≤ r.n := by have := hm.n; omega
 have hrn5 : r.n ≤ 5 := by have := hm.n; omega
 obtain ⟨FX, FR, vW, vF, vL, hR, hn, hb0⟩ := h
 obtain ⟨aO, cO, rfl, hOL⟩ := hL
 have HOL : Hid (IntsAt w (.slice aO o.L.length cO) o.L) := hideA ⟨aO, cO, rfl, hOL⟩
 have hpl : p < w.heap.size := hR.ownLt (.inl rfl)
 have hp1 : ¬ p = w.heap.size := by omega
 have hp2 : ¬ w.heap.size = p := by omega
 obtain ⟨X, hX, hbX, hM⟩ := box_more1 w #[.int .i64 1, .int .i64 o.N, .int .i64 o.I, .int .i64 o.A, .int .i64 o.B, .slice aO o.L.length cO] 37
 have hRX := hR.below hbX
 have hsX := hbX.size
 have hqF : ¬ (FX w.heap.size ∨ OwnR p vW vF vL FR w.heap.size) := fun e => e.elim (fun e => Nat.lt_irrefl _ (cApi.lt hR.clu e)) (fun e => Nat.lt_irrefl _ (hR.ownLt e))
 have hb0X := hb0.trans (hbX.mono hb0.size)
 have HK : Hid (∀ W, Below X.heap.size X W → RunIn W p x FX FR r vW vF vL ∧ W.heap[w.heap.size]? = some (.cells #[.int .i64 1, .int .i64 o.N, .int .i64 o.I, .int .i64 o.A, .int .i64 o.B, .slice aO o.L.length cO] 37) ∧ Below w0.heap.size w0 W) := hideA fun W hb => ⟨hRX.below hb, (hb.block _ (Array.getElem?_eq_some_iff.1 hM).1).trans hM, hb0X.trans (hb.mono hb0X.size)⟩
 have HN := hideA hn
 have c0 : X.cell? ⟨p, 0, none⟩ = some (.pointer (some ⟨x, 0, none⟩)) := cell_of_heap hRX.blk 0
 have c1 : X.cell? ⟨p, 1, none⟩ = some (.int .i64 (r.n : Int)) := cell_of_heap hRX.blk 1
 have g0 := cell_of_heap hM 0
 have g1 := cell_of_heap hM 1
 have g2 := cell_of_heap hM 2
 have g3 := cell_of_heap hM 3
 have g4 := cell_of_heap hM 4
 have g5 := cell_of_heap hM 5
 have hpok : POK r.x := ⟨⟨_, _, hm.good⟩, by omega⟩
 have hbd := (Below.refl X.heap.size X).drew
 have hd := pick_rep hm o.N
 have he : (r.entry o).ok = true := entry_ok hm.wok o
 have HV : Hid (r.step (mute o) = r.ask (pickI o.N r.n) (r.entry o)) := hideA (by rw [step_plain r o (by omega) (by omega)]; unfold Run.plain; rw [if_pos hk])
 have hsq : ∀ y ∈ r.wishes, -1 ≤ y.e.seq ∧ y.e.seq ≤ 1000 := fun y hy => by
  have := hm.wok y hy
  unfold Ent.ok at this
  simp only [Bool.and_eq_true, decide_eq_true_eq] at this
  omega
 have HP : Hid (∀ W, Calls Tryz.prog 9 #[.int .i64 o.N, .int .i64 (r.n : Int)] W fun e w' => e = .returned (.int .i64 (pickI o.N r.n)) ∧ w' = W) := hideA fun W => pick_any o.N r.n W (by omega) (by omega) ho.n.1 ho.n.2
 have HE : Hid (∀ W, Below X.heap.size X W → Calls Tryz.prog 13 #[.pointer (some ⟨p, 0, none⟩), .agg #[.int .i64 1, .int .i64 o.N, .int .i64 o.I, .int .i64 o.A, .int .i64 o.B, .slice aO o.L.length cO]] W fun e w' => e = .returned (.agg #[.int .i64 (r.entry o).client, .int .i64 (r.entry o).seq, .int .i64 (r.entry o).kind, .int .i64 (r.entry o).key, .int .i64 (r.entry o).value]) ∧ Below X.heap.size X w') := hideA fun W hb => by
  obtain ⟨q1, q2, q3⟩ := HK.out W hb
  obtain ⟨aW, cW, hvW, hWat⟩ := wishAt_of q1.hW
  have k2 : W.cell? ⟨p, 2, none⟩ = some (.slice aW r.wishes.length cW) := by have := cell_of_heap q1.blk 2; rw [hvW] at this; exact this
  have := entry_any p r aW cW o (.slice aO o.L.length cO) W k2 hWat (by omega) ((HOL.out.below hbX).below hb) ho hsq
  unfold KStep.val at this
  rw [hk] at this
  refine this.mono ?_
  rintro e w' ⟨rfl, hb'⟩
  exact ⟨rfl, hb.trans (hb'.mono hb.size)⟩
 have HA : Hid (∀ W, Below X.heap.size X W → Calls Tryz.prog 11 #[.pointer (some ⟨p, 0, none⟩), .int .i64 (pickI o.N r.n), .agg #[.int .i64 (r.entry o).client, .int .i64 (r.entry o).seq, .int .i64 (r.entry o).kind, .int .i64 (r.entry o).key, .int .i64 (r.entry o).value]] W fun e w' => (∃ v, e = .returned v) ∧ StepAt w0 w' p x w.heap.size #[.int .i64 1, .int .i64 o.N, .int .i64 o.I, .int .i64 o.A, .int .i64 o.B, .slice aO o.L.length cO] (r.ask (pickI o.N r.n) (r.entry o))) := hideA fun W hb => by
  obtain ⟨q1, q2, q3⟩ := HK.out W hb
  refine (kask_in (w0 := w0) (pickI o.N r.n) (r.entry o) q1 HN.out q3 hm hd he (by omega) (by omega)).mono ?_
  rintro e w' ⟨⟨v, rfl⟩, hA, hKp⟩
  refine ⟨⟨v, rfl⟩, hA, ⟨⟨_, _, (hri.ask _ _ hd he).good⟩, ?_⟩, ?_⟩
  ·show (r.x.ask _ _).1.told.length ≤ _
   rw [ask_told]
   omega
  ·exact (hKp w.heap.size (Array.getElem?_eq_some_iff.1 q2).1 hqF).trans q2
 generalize r.entry o = en at *
 generalize pickI o.N r.n = dn at *
 clear hR hRX hn hOL hM
 go_enter Tryz.func7, Tryz.ntmps7
 go_wp2_with fail
 go_region_held3 (fun w' => w'.cell? ⟨p, 1, none⟩ = some (.int .i64 (r.n : Int)) ∧ w'.cell? ⟨w.heap.size, 0, none⟩ = some (.int .i64 1) ∧ w'.cell? ⟨w.heap.size, 1, none⟩ = some (.int .i64 o.N) ∧ w'.cell? ⟨w.heap.size, 2, none⟩ = some (.int .i64 o.I) ∧ w'.cell? ⟨w.heap.size, 3, none⟩ = some (.int .i64 o.A) ∧ w'.cell? ⟨w.heap.size, 4, none⟩ = some (.int .i64 o.B) ∧ w'.cell? ⟨w.heap.size, 5, none⟩ = some (.slice aO o.L.length cO)) (first | (refine ⟨?_, ?_, ?_, ?_, ?_, ?_, ?_⟩ <;> first | assumption | (simp [go_sem, *]; done)) | (simp [go_sem]; done) | go_keep)
  (first
   | (go_at_call 9; refine (HP.out _).mono ?_; rintro e W9 ⟨rfl, rfl⟩)
   | (go_at_call 13; refine (HE.out _ hbd).mono ?_; rintro e V ⟨rfl, hbV⟩; have HbV := hideA hbV; have v1 : V.cell? ⟨p, 1, none⟩ = some (.int .i64 (r.n : Int)) := cell_of_heap (HK.out V hbV).1.blk 1; have y0 := cell_of_heap (HK.out V hbV).2.1 0; have y1 := cell_of_heap (HK.out V hbV).2.1 1; have y2 := cell_of_heap (HK.out V hbV).2.1 2; have y3 := cell_of_heap (HK.out V hbV).2.1 3; have y4 := cell_of_heap (HK.out V hbV).2.1 4; have y5 := cell_of_heap (HK.out V hbV).2.1 5; clear hbV)
   | (go_at_call 11; refine (HA.out _ HbV.out).mono ?_; rintro e W ⟨⟨v9, rfl⟩, hSt⟩; have HSt := hideA hSt; obtain ⟨_, _, _, _, _, hRz, _, _⟩ := hSt.run; have x1 : W.cell? ⟨p, 1, none⟩ = some (.int .i64 (r.n : Int)) := cell_of_heap hRz.blk 1; have z0 := cell_of_heap hSt.box 0; have z1 := cell_of_heap hSt.box 1; have z2 := cell_of_heap hSt.box 2; have z3 := cell_of_heap hSt.box 3; have z4 := cell_of_heap hSt.box 4; have z5 := cell_of_heap hSt.box 5; clear hSt hRz))
 all_goals (
  clear c0 c1 g0 g1 g2 g3 g4 g5 v1 y0 y1 y2 y3 y4 y5 z0 z1 z2 z3 z4 z5 x1 HP HE HA
  go_wp2_with fail
  refine (HSt.out.bag).mono ?_
  rintro e T ⟨rfl, hT⟩
  have HT := hideA hT
  have b0 := cell_of_heap hT.box 0
  clear hT
  generalize hbl : (r.ask dn en : Run).x.bag.length = bl at *
  by_cases hz : bl = 0
  ·subst hz
   clear b0
   go_wp2_with fail
   (try simp only [Exit.inBlock, Exit.then]); refine bodyPost_ret (results_none rfl _ _ _) rfl ?_
   rw [HV.out]
   exact ⟨⟨_, rfl⟩, HT.out.run⟩
  ·have hz1 : ((bl : Int) == 0) = false := by simp; omega
   have hz2 : ¬ (bl : Int) = 0 := by omega
   go_wp2_with fail
   (try simp only [Exit.inBlock, Exit.then]); refine bodyPost_ret (results_none rfl _ _ _) rfl ?_
   rw [HV.out]
   exact ⟨⟨_, rfl⟩, HT.out.run⟩
 )
end Go.Proofs.YtlminmokpmdgoabGreat
