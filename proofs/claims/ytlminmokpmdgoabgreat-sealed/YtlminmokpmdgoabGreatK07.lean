import Derived.Test.YtlminmokpmdgoabGreatK06
import Derived.Test.YtlminmokpmdgoabGreatK01
namespace Go.Proofs.YtlminmokpmdgoabGreat
def stOf (c : Clu) : St :=
 {R := fun i => if c.isRep i then c.rep i else Rep.first 0
  A := fun a => if isAcc a then c.acc a else Acc.first 0
  S := fun k => if isMas k then c.mas k else Mas.still true 0 }
theorem stOf_R {c : Clu} {i : Int} (h : c.isRep i) : (stOf c).R i = c.rep i := if_pos h
theorem stOf_A {c : Clu} {i : Int} (h : isAcc i) : (stOf c).A i = c.acc i := if_pos h
theorem stOf_S {c : Clu} {i : Int} (h : isMas i) : (stOf c).S i = c.mas i := if_pos h
theorem rep_setRep {c : Clu} {d j : Int} {r : Rep} (hd : c.isRep d) (hj : c.isRep j) : (c.setRep d r).rep j = if j = d then r else c.rep j := by
 unfold Clu.isRep at hd hj
 show (c.reps.set d.toNat r).getD j.toNat (Rep.first 0) = _
 by_cases h : j = d
 ·subst h
  rw [if_pos rfl, List.getD, List.getElem?_set_self (by omega)]
  rfl
 ·rw [if_neg h, List.getD, List.getElem?_set_ne (by omega)]
  rfl
theorem isRep_setRep {c : Clu} {d j : Int} {r : Rep} : (c.setRep d r).isRep j ↔ c.isRep j := by
 unfold Clu.isRep Clu.setRep
 simp
theorem stOf_setRep {c : Clu} {d : Int} {r : Rep} (hd : c.isRep d) : stOf (c.setRep d r) = (stOf c).setR d r := by
 unfold stOf St.setR
 congr 1
 funext j
 dsimp only
 by_cases hj : c.isRep j
 ·rw [if_pos (isRep_setRep.2 hj), rep_setRep hd hj, if_pos hj]
 ·rw [if_neg (fun q => hj (isRep_setRep.1 q)), if_neg hj, if_neg (fun (q : j = d) => hj (q ▸ hd))]
theorem acc_setAcc {c : Clu} {d j : Int} {r : Acc} (hl : c.accs.length = 3) (hd : isAcc d) (hj : isAcc j) : (c.setAcc d r).acc j = if j = d then r else c.acc j := by
 unfold isAcc at hd hj
 show (c.accs.set (d - 100).toNat r).getD (j - 100).toNat (Acc.first 0) = _
 by_cases h : j = d
 ·subst h
  rw [if_pos rfl, List.getD, List.getElem?_set_self (by omega)]
  rfl
 ·rw [if_neg h, List.getD, List.getElem?_set_ne (by omega)]
  rfl
theorem stOf_setAcc {c : Clu} {d : Int} {r : Acc} (hl : c.accs.length = 3) (hd : isAcc d) : stOf (c.setAcc d r) = (stOf c).setA d r := by
 unfold stOf St.setA
 congr 1
 funext j
 dsimp only
 by_cases hj : isAcc j
 ·rw [if_pos hj, acc_setAcc hl hd hj, if_pos hj]
 ·rw [if_neg hj, if_neg hj, if_neg (fun (q : j = d) => hj (q ▸ hd))]
theorem mas_setMas {c : Clu} {d j : Int} {r : Mas} (hl : c.mass.length = 2) (hd : isMas d) (hj : isMas j) : (c.setMas d r).mas j = if j = d then r else c.mas j := by
 unfold isMas at hd hj
 show (c.mass.set (d - 200).toNat r).getD (j - 200).toNat (Mas.still true 0) = _
 by_cases h : j = d
 ·subst h
  rw [if_pos rfl, List.getD, List.getElem?_set_self (by omega)]
  rfl
 ·rw [if_neg h, List.getD, List.getElem?_set_ne (by omega)]
  rfl
theorem stOf_setMas {c : Clu} {d : Int} {r : Mas} (hl : c.mass.length = 2) (hd : isMas d) : stOf (c.setMas d r) = (stOf c).setS d r := by
 unfold stOf St.setS
 congr 1
 funext j
 dsimp only
 by_cases hj : isMas j
 ·rw [if_pos hj, mas_setMas hl hd hj, if_pos hj]
 ·rw [if_neg hj, if_neg hj, if_neg (fun (q : j = d) => hj (q ▸ hd))]
structure Nodes (c : Clu) (E : Int) (g : Gh) : Prop where
 n1 : 1 ≤ c.reps.length
 n5 : c.reps.length ≤ 5
 a3 : c.accs.length = 3
 m2 : c.mass.length = 2
 n : g.n = c.reps.length
 E0 : 0 ≤ E
 R : ∀ i, c.isRep i → RepWF c.reps.length E (c.rep i)
 A : ∀ a, isAcc a → AccWF c.reps.length E (c.acc a)
 S : ∀ k, isMas k → MasWF c.reps.length E (c.mas k)
 budget : E + (c.mas 200).reads + (c.mas 201).reads ≤ (c.mas 200).begun + (c.mas 201).begun
 inv : Inv g (stOf c)
def Sent (c : Clu) (E : Int) (g : Gh) (m : Msg) : Prop := MsgWF c.reps.length E m ∧ MsgInv g (stOf c) m
def FrameOK (c : Clu) (E : Int) (g : Gh) (f : List UInt8 × Bool) : Prop :=
 ∃ m, Sent c E g m ∧ (f.1 = m.frame ∨ (f.2 = true ∧ msgOf f.1 = none ∧ f.1.length = m.frame.length))
structure Good (c : Clu) (E : Int) (g : Gh) : Prop where
 nodes : Nodes c E g
 bag : c.bag.length ≤ 200
 frames : ∀ f ∈ c.bag, FrameOK c E g f
theorem reads_range (s : Mas) : 0 ≤ s.reads ∧ s.reads ≤ 1 := by unfold Mas.reads; split <;> omega
theorem Nodes.E2000 {c : Clu} {E : Int} {g : Gh} (h : Nodes c E g) : E ≤ 2000 := by
 have h1 := (h.S 200 (by unfold isMas; omega)).begun
 have h2 := (h.S 201 (by unfold isMas; omega)).begun
 have := h.budget
 have := reads_range (c.mas 200)
 have := reads_range (c.mas 201)
 omega
theorem Nodes.frame {c : Clu} {E : Int} {g : Gh} (h : Nodes c E g) {m : Msg} (hm : Sent c E g m) : msgOf m.frame = some m := msgOf_frame m (hm.1.ok h.n5 h.E2000)
theorem Good.msg {c : Clu} {E : Int} {g : Gh} (h : Good c E g) {f : List UInt8 × Bool} (hf : f ∈ c.bag) {m : Msg} (hm : msgOf f.1 = some m) : Sent c E g m := by
 obtain ⟨m0, h1, h2⟩ := h.frames f hf
 rcases h2 with q | ⟨_, q, _⟩
 ·rw [q, h.nodes.frame h1] at hm
  injection hm with hm
  exact hm ▸ h1
 ·rw [q] at hm; cases hm
structure Later (c : Clu) (E : Int) (g : Gh) (c' : Clu) (E' : Int) (g' : Gh) : Prop where
 nodes : Nodes c' E' g'
 le : Le g (stOf c) g' (stOf c')
 E : E ≤ E'
 reps : c'.reps.length = c.reps.length
theorem Later.sent {c c' : Clu} {E E' : Int} {g g' : Gh} (h : Later c E g c' E' g') {m : Msg} (hm : Sent c E g m) : Sent c' E' g' m :=
 ⟨by rw [h.reps]; exact hm.1.mono h.E, hm.2.mono h.le⟩
theorem Later.frameOK {c c' : Clu} {E E' : Int} {g g' : Gh} (h : Later c E g c' E' g') {f : List UInt8 × Bool} (hf : FrameOK c E g f) : FrameOK c' E' g' f := by
 obtain ⟨m, h1, h2⟩ := hf
 exact ⟨m, h.sent h1, h2⟩
theorem Later.refl {c : Clu} {E : Int} {g : Gh} (h : Nodes c E g) : Later c E g c E g := ⟨h, Le.refl _ _, Int.le_refl _, rfl⟩
theorem Nodes.bag {c : Clu} {E : Int} {g : Gh} (h : Nodes c E g) (b : List (List UInt8 × Bool)) (t : List Ans) : Nodes { c with bag := b, told := t } E g :=
 ⟨h.n1, h.n5, h.a3, h.m2, h.n, h.E0, h.R, h.A, h.S, h.budget, h.inv⟩
theorem Nodes.laterRep {c : Clu} {E : Int} {g g' : Gh} (h : Nodes c E g) {d : Int} (hd : c.isRep d) {r : Rep} (hw : RepWF c.reps.length E r) (hi : Inv g' ((stOf c).setR d r)) (hl : Le g (stOf c) g' ((stOf c).setR d r)) :
  Later c E g (c.setRep d r) E g' := by
 have hlen : (c.setRep d r).reps.length = c.reps.length := by unfold Clu.setRep; simp
 refine ⟨?_, by rw [stOf_setRep hd]; exact hl, Int.le_refl _, hlen⟩
 exact
  {n1 := by rw [hlen]; exact h.n1
   n5 := by rw [hlen]; exact h.n5
   a3 := h.a3, m2 := h.m2
   n := by rw [hlen, hl.n]; exact h.n
   E0 := h.E0
   R := by
    intro i hi
    rw [hlen]
    rw [isRep_setRep] at hi
    rw [rep_setRep hd hi]
    split
    ·exact hw
    ·exact h.R i hi
   A := by rw [hlen]; exact h.A
   S := by rw [hlen]; exact h.S
   budget := h.budget
   inv := by rw [stOf_setRep hd]; exact hi }
theorem Nodes.laterAcc {c : Clu} {E : Int} {g g' : Gh} (h : Nodes c E g) {d : Int} (hd : isAcc d) {r : Acc} (hw : AccWF c.reps.length E r) (hi : Inv g' ((stOf c).setA d r)) (hl : Le g (stOf c) g' ((stOf c).setA d r)) :
  Later c E g (c.setAcc d r) E g' := by
 have hlen : (c.setAcc d r).accs.length = c.accs.length := by unfold Clu.setAcc; simp
 refine ⟨?_, by rw [stOf_setAcc h.a3 hd]; exact hl, Int.le_refl _, rfl⟩
 exact
  {n1 := h.n1, n5 := h.n5, m2 := h.m2, E0 := h.E0, R := h.R, S := h.S, budget := h.budget
   a3 := by rw [hlen]; exact h.a3
   n := by rw [hl.n]; exact h.n
   A := by
    intro i hi
    rw [acc_setAcc h.a3 hd hi]
    split
    ·exact hw
    ·exact h.A i hi
   inv := by rw [stOf_setAcc h.a3 hd]; exact hi }
theorem Nodes.laterMas {c : Clu} {E E' : Int} {g g' : Gh} (h : Nodes c E g) {d : Int} (hd : isMas d) {r : Mas} (hE : E ≤ E') (hw : MasWF c.reps.length E' r) (hb : E' + r.reads - r.begun ≤ E + (c.mas d).reads - (c.mas d).begun)
  (hi : Inv g' ((stOf c).setS d r)) (hl : Le g (stOf c) g' ((stOf c).setS d r)) : Later c E g (c.setMas d r) E' g' := by
 have hlen : (c.setMas d r).mass.length = c.mass.length := by unfold Clu.setMas; simp
 have h0 : isMas 200 := by unfold isMas; omega
 have h1 : isMas 201 := by unfold isMas; omega
 refine ⟨?_, by rw [stOf_setMas h.m2 hd]; exact hl, hE, rfl⟩
 exact
  {n1 := h.n1, n5 := h.n5, a3 := h.a3, E0 := Int.le_trans h.E0 hE
   m2 := by rw [hlen]; exact h.m2
   n := by rw [hl.n]; exact h.n
   R := fun i hi => (h.R i hi).mono hE
   A := fun i hi => (h.A i hi).mono hE
   S := by
    intro i hi
    rw [mas_setMas h.m2 hd hi]
    split
    ·exact hw
    ·exact (h.S i hi).mono hE
   budget := by
    rw [mas_setMas h.m2 hd h0, mas_setMas h.m2 hd h1]
    have := h.budget
    have hd' := hd
    unfold isMas at hd'
    by_cases q : d = 200
    ·subst q
     rw [if_pos rfl, if_neg (by decide)]
     omega
    ·have : d = 201 := by omega
     subst this
     rw [if_neg (by decide), if_pos rfl]
     omega
   inv := by rw [stOf_setMas h.m2 hd]; exact hi }
theorem rep_dst {c : Clu} {E : Int} {g : Gh} (h : Nodes c E g) {d : Int} (hd : c.isRep d) : 0 ≤ d ∧ d ≤ 303 ∧ d < g.n := by
 have := h.n5
 have := h.n
 unfold Clu.isRep at hd
 omega
theorem Nodes.takes {c : Clu} {E : Int} {g : Gh} (h : Nodes c E g) {m : Msg} (hm : Sent c E g m) : ∃ E' g', Later c E g (c.takes m).1 E' g' ∧ ∀ x ∈ (c.takes m).2, Sent (c.takes m).1 E' g' x := by
 unfold Clu.takes
 split
 ·split
  ·rename_i hd
   obtain ⟨d0, d1, d2⟩ := rep_dst h hd
   obtain ⟨w1, w2⟩ := repTake_wf (h.R _ hd) h.n5 h.E0 ⟨d0, d1⟩ hm.1
   obtain ⟨g', i1, i2, i3⟩ := h.inv.repTake (i := m.dst) d0 d2 m hm.2 rfl
   rw [stOf_R hd] at i1 i2 i3
   have hL := h.laterRep hd w1 i1 i2
   refine ⟨E, g', hL, ?_⟩
   intro x hx
   exact ⟨by rw [hL.reps]; exact w2 x hx, by rw [stOf_setRep hd]; exact i3 x hx⟩
  ·split
   ·rename_i hd
    obtain ⟨w1, w2⟩ := accTake_wf (h.A _ hd) hm.1
    obtain ⟨g', i1, i2, i3⟩ := h.inv.accTake hd m hm.2 rfl
    rw [stOf_A hd] at i1 i2 i3
    have hL := h.laterAcc hd w1 i1 i2
    refine ⟨E, g', hL, ?_⟩
    intro x hx
    exact ⟨w2 x hx, by rw [stOf_setAcc h.a3 hd]; exact i3 x hx⟩
   ·rename_i hup hr ha
    have hd : isMas m.dst := by
     unfold Clu.upOf at hup
     rw [if_neg hr, if_neg ha] at hup
     split at hup
     ·assumption
     ·cases hup
    obtain ⟨w1, w2, w3, w4⟩ := masTake_wf (h.S _ hd) h.n5 h.E0 hm.1
    obtain ⟨g', i1, i2, i3⟩ := h.inv.masTake hd m hm.2 rfl
    rw [stOf_S hd] at i1 i2 i3
    have hL := h.laterMas hd (E' := E + (c.mas m.dst).reads - ((c.mas m.dst).take m).1.reads) (by omega) w1 (by omega) i1 i2
    refine ⟨_, g', hL, ?_⟩
    intro x hx
    exact ⟨w4 x hx, by rw [stOf_setMas h.m2 hd]; exact i3 x hx⟩
 ·exact ⟨E, g, Later.refl h, fun x hx => by cases hx⟩
theorem Nodes.ticks {c : Clu} {E : Int} {g : Gh} (h : Nodes c E g) (d : Int) : ∀ x ∈ c.ticks d, Sent c E g x := by
 intro x hx
 unfold Clu.ticks at hx
 split at hx
 ·rename_i hd
  obtain ⟨d0, d1, d2⟩ := rep_dst h hd
  have := h.inv.tick_ok (i := d) d0 d2
  rw [stOf_R hd] at this
  exact ⟨repTick_wf (h.R _ hd) h.n5 ⟨d0, d1⟩ x hx, this x hx⟩
 ·split at hx
  ·rename_i hd
   have := (h.inv.mas hd).asks_ok
   rw [stOf_S hd] at this
   exact ⟨asks_wf (h.S _ hd) h.n5 h.E0 (by unfold isMas at hd; omega) x hx, this x hx⟩
  ·cases hx
theorem frames_take {c : Clu} {E : Int} {g : Gh} {b : List (List UInt8 × Bool)} {out : List Msg} (hb : ∀ f ∈ b, FrameOK c E g f) (ho : ∀ x ∈ out, Sent c E g x) : ∀ f ∈ (b ++ out.map (fun m => (m.frame, false))).take 200, FrameOK c E g f := by
 intro f hf
 rcases List.mem_append.1 (List.mem_of_mem_take hf) with q | q
 ·exact hb f q
 ·simp only [List.mem_map] at q
  obtain ⟨m, hm, rfl⟩ := q
  exact ⟨m, ho m hm, .inl rfl⟩
theorem Nodes.good {c : Clu} {E : Int} {g : Gh} (h : Nodes c E g) {out : List Msg} (hb : ∀ f ∈ c.bag, FrameOK c E g f) (ho : ∀ x ∈ out, Sent c E g x) : Good (c.send out) E g :=
 ⟨h.bag _ _, by unfold Clu.send; simp; omega, frames_take hb ho⟩
def StepOK (c : Clu) (E : Int) (g : Gh) (c' : Clu) : Prop := ∃ E' g', Good c' E' g' ∧ Le g (stOf c) g' (stOf c') ∧ E ≤ E' ∧ c'.reps.length = c.reps.length
theorem StepOK.same {c : Clu} {E : Int} {g : Gh} (h : Good c E g) : StepOK c E g c := ⟨E, g, h, Le.refl _ _, Int.le_refl _, rfl⟩
theorem Good.arrive {c : Clu} {E : Int} {g : Gh} (h : Good c E g) {m : Msg} (hm : Sent c E g m) : StepOK c E g (c.arrive m) := by
 have ht : Nodes (c.tell m) E g := by unfold Clu.tell; split; exact h.nodes.bag _ _; exact h.nodes
 have hst : stOf (c.tell m) = stOf c := by unfold Clu.tell; split <;> rfl
 have hrl : (c.tell m).reps = c.reps := by unfold Clu.tell; split <;> rfl
 have hbg : (c.tell m).bag = c.bag := by unfold Clu.tell; split <;> rfl
 have hm' : Sent (c.tell m) E g m := by unfold Sent; rw [hst, hrl]; exact hm
 obtain ⟨E', g', hL, ho⟩ := ht.takes hm'
 have hb' : ((c.tell m).takes m).1.bag = c.bag := by
  rw [← hbg]
  unfold Clu.takes
  split
  ·split
   ·rfl
   ·split <;> rfl
  ·rfl
 refine ⟨E', g', hL.nodes.good ?_ ho, ?_, hL.E, ?_⟩
 ·rw [hb']
  intro f hf
  obtain ⟨m0, h1, h2⟩ := h.frames f hf
  exact hL.frameOK ⟨m0, by unfold Sent; rw [hst, hrl]; exact h1, h2⟩
 ·have := hL.le
  rw [hst] at this
  exact this
 ·show ((c.tell m).takes m).1.reps.length = _
  rw [hL.reps, hrl]
theorem Good.gone {c : Clu} {E : Int} {g : Gh} (h : Good c E g) (i : Int) : Good (c.gone i) E g :=
 ⟨h.nodes.bag _ _, Nat.le_trans (by unfold Clu.gone; exact List.length_eraseIdx_le _ _) h.bag, fun f hf => h.frames f (List.mem_of_mem_eraseIdx hf)⟩
theorem frameAt_mem {c : Clu} {i : Int} (h : c.hasFrame i) : c.frameAt i ∈ c.bag := by
 unfold Clu.hasFrame at h
 unfold Clu.frameAt
 rw [List.getD, List.getElem?_eq_getElem (by omega)]
 exact List.getElem_mem _
theorem Good.deliver {c : Clu} {E : Int} {g : Gh} (h : Good c E g) (i : Int) : StepOK c E g (c.deliver i).1 := by
 unfold Clu.deliver
 split
 ·rename_i hi
  split
  ·exact ⟨E, g, h.gone i, Le.refl _ _, Int.le_refl _, rfl⟩
  ·rename_i m hm
   exact (h.gone i).arrive (h.msg (frameAt_mem hi) hm)
 ·exact StepOK.same h
theorem Good.drop {c : Clu} {E : Int} {g : Gh} (h : Good c E g) (i : Int) : StepOK c E g (c.drop i).1 := by
 unfold Clu.drop
 split
 ·exact ⟨E, g, h.gone i, Le.refl _ _, Int.le_refl _, rfl⟩
 ·exact StepOK.same h
theorem Good.double {c : Clu} {E : Int} {g : Gh} (h : Good c E g) (i : Int) : StepOK c E g (c.double i).1 := by
 unfold Clu.double
 split
 ·rename_i hi
  refine ⟨E, g, ⟨h.nodes.bag _ _, by show ((c.bag ++ [c.frameAt i]).take 200).length ≤ 200; rw [List.length_take]; omega, ?_⟩, Le.refl _ _, Int.le_refl _, rfl⟩
  intro f hf
  rcases List.mem_append.1 (List.mem_of_mem_take hf) with q | q
  ·exact h.frames f q
  ·rw [List.mem_singleton] at q
   subst q
   exact h.frames _ (frameAt_mem hi)
 ·exact StepOK.same h
theorem Good.tick {c : Clu} {E : Int} {g : Gh} (h : Good c E g) (d : Int) : StepOK c E g (c.tick d).1 := by
 unfold Clu.tick
 split
 ·exact StepOK.same h
 ·exact StepOK.same h
 ·exact ⟨E, g, h.nodes.good h.frames (h.nodes.ticks d), Le.refl _ _, Int.le_refl _, rfl⟩
theorem Later.step {c c' : Clu} {E E' : Int} {g g' : Gh} (hL : Later c E g c' E' g') (h : Good c E g) (hb : c'.bag = c.bag) {out : List Msg} (ho : ∀ x ∈ out, Sent c' E' g' x) : StepOK c E g (c'.send out) :=
 ⟨E', g', hL.nodes.good (by rw [hb]; exact fun f hf => hL.frameOK (h.frames f hf)) ho, hL.le, hL.E, hL.reps⟩
theorem Later.still {c c' : Clu} {E E' : Int} {g g' : Gh} (hL : Later c E g c' E' g') (h : Good c E g) (hb : c'.bag = c.bag) : StepOK c E g c' :=
 ⟨E', g', ⟨hL.nodes, by rw [hb]; exact h.bag, by rw [hb]; exact fun f hf => hL.frameOK (h.frames f hf)⟩, hL.le, hL.E, hL.reps⟩
theorem Good.crash {c : Clu} {E : Int} {g : Gh} (h : Good c E g) (d : Int) : StepOK c E g (c.crash d).1 := by
 unfold Clu.crash
 split
 ·exact StepOK.same h
 ·exact StepOK.same h
 ·rename_i hup
  split
  ·rename_i hd
   obtain ⟨d0, d1, d2⟩ := rep_dst h.nodes hd
   obtain ⟨g', i1, i2⟩ := h.nodes.inv.repCrash (i := d) d0 d2
   rw [stOf_R hd] at i1 i2
   exact (h.nodes.laterRep hd (repCrash_wf (h.nodes.R _ hd)) i1 i2).still h rfl
  ·rename_i hr
   split
   ·rename_i hd
    obtain ⟨i1, i2⟩ := h.nodes.inv.accReg hd (a' := { c.acc d with up := false }) (by rw [stOf_A hd]) (by have := h.nodes.inv.reg hd; rw [stOf_A hd] at this; exact this)
    exact (h.nodes.laterAcc hd (r := { c.acc d with up := false }) ⟨(h.nodes.A _ hd).epoch, (h.nodes.A _ hd).mems, (h.nodes.A _ hd).votes⟩ i1 i2).still h rfl
   ·rename_i ha
    have hd : isMas d := by
     unfold Clu.upOf at hup
     rw [if_neg hr, if_neg ha] at hup
     split at hup
     ·assumption
     ·cases hup
    obtain ⟨i1, i2⟩ := h.nodes.inv.masIdle (k := d) false
    rw [stOf_S hd] at i1 i2
    have hrd := reads_range (c.mas d)
    have e0 : (Mas.still false (c.mas d).begun).reads = 0 := rfl
    have e1 : (Mas.still false (c.mas d).begun).begun = (c.mas d).begun := rfl
    exact (h.nodes.laterMas hd (Int.le_refl _) (masStill_wf _ (h.nodes.S _ hd).begun h.nodes.E0) (by rw [e0, e1]; omega) i1 i2).still h rfl
theorem Good.restart {c : Clu} {E : Int} {g : Gh} (h : Good c E g) (d : Int) : StepOK c E g (c.restart d).1 := by
 unfold Clu.restart
 split
 ·exact StepOK.same h
 ·exact StepOK.same h
 ·rename_i hup
  split
  ·rename_i hd
   obtain ⟨d0, d1, d2⟩ := rep_dst h.nodes hd
   obtain ⟨g', i1, i2⟩ := h.nodes.inv.repRestart (i := d) d0 d2
   rw [stOf_R hd] at i1 i2
   exact (h.nodes.laterRep hd (repRestart_wf (h.nodes.R _ hd)) i1 i2).still h rfl
  ·rename_i hr
   split
   ·rename_i hd
    obtain ⟨i1, i2⟩ := h.nodes.inv.accReg hd (a' := { c.acc d with up := true }) (by rw [stOf_A hd]) (by have := h.nodes.inv.reg hd; rw [stOf_A hd] at this; exact this)
    exact (h.nodes.laterAcc hd (r := { c.acc d with up := true }) ⟨(h.nodes.A _ hd).epoch, (h.nodes.A _ hd).mems, (h.nodes.A _ hd).votes⟩ i1 i2).still h rfl
   ·rename_i ha
    have hd : isMas d := by
     unfold Clu.upOf at hup
     rw [if_neg hr, if_neg ha] at hup
     split at hup
     ·assumption
     ·cases hup
    obtain ⟨i1, i2⟩ := h.nodes.inv.masIdle (k := d) true
    rw [stOf_S hd] at i1 i2
    have hrd := reads_range (c.mas d)
    have e0 : (Mas.still true (c.mas d).begun).reads = 0 := rfl
    have e1 : (Mas.still true (c.mas d).begun).begun = (c.mas d).begun := rfl
    exact (h.nodes.laterMas hd (Int.le_refl _) (masStill_wf _ (h.nodes.S _ hd).begun h.nodes.E0) (by rw [e0, e1]; omega) i1 i2).still h rfl
theorem Good.change {c : Clu} {E : Int} {g : Gh} (h : Good c E g) (d : Int) (l : List Int) : StepOK c E g (c.change d l).1 := by
 unfold Clu.change
 split
 ·exact StepOK.same h
 ·rename_i hd
  have hd : isMas d := Decidable.not_not.1 hd
  split
  ·exact StepOK.same h
  ·rename_i hb
   split
   ·exact StepOK.same h
   ·rename_i hl
    have hl : memsOk l c.reps.length = true := by simpa using hl
    obtain ⟨i1, i2, i3⟩ := h.nodes.inv.masBegin hd l (by rw [h.nodes.n]; exact hl)
    rw [stOf_S hd] at i1 i2 i3
    have hwf := masBegin_wf (n := c.reps.length) (E := E) (own := d) (s := c.mas d) (l := l) (by omega) h.nodes.E0 hd hl
    have e0 : ((c.mas d).begin d l).reads = 1 := rfl
    have e1 : ((c.mas d).begin d l).begun = (c.mas d).begun + 1 := rfl
    have hrd := reads_range (c.mas d)
    have hL := h.nodes.laterMas hd (Int.le_refl _) hwf (by rw [e0, e1]; omega) i1 i2
    refine hL.step h rfl ?_
    intro x hx
    exact ⟨asks_wf hwf h.nodes.n5 h.nodes.E0 (by unfold isMas at hd; omega) x hx, by rw [stOf_setMas h.nodes.m2 hd]; exact i3 x hx⟩
theorem Good.ask {c : Clu} {E : Int} {g : Gh} (h : Good c E g) (d : Int) (e : Ent) (hd : c.isRep d) (he : e.ok = true) : Good (c.ask d e).1 E (g.addAsk e) ∧ (c.ask d e).2 = 0 := by
 unfold Clu.ask
 rw [if_neg (fun q => q hd), if_neg (by rw [he]; exact Bool.noConfusion)]
 refine ⟨?_, rfl⟩
 have hn : Nodes c E (g.addAsk e) := ⟨h.nodes.n1, h.nodes.n5, h.nodes.a3, h.nodes.m2, h.nodes.n, h.nodes.E0, h.nodes.R, h.nodes.A, h.nodes.S, h.nodes.budget, h.nodes.inv.ask e⟩
 obtain ⟨d0, d1, d2⟩ := rep_dst h.nodes hd
 refine hn.good ?_ ?_
 ·intro f hf
  obtain ⟨m, h1, h2⟩ := h.frames f hf
  exact ⟨m, ⟨h1.1, h1.2.addAsk e⟩, h2⟩
 ·intro x hx
  rw [List.mem_singleton] at hx
  subst hx
  have := ent_bounds he
  exact ⟨request_wf he h.nodes.E0 (by omega) ⟨d0, d1⟩, mk1 rfl ⟨e, rfl, .inr rfl⟩⟩
structure Wish where
 e : Ent
 floor : Int
 deriving DecidableEq
structure Fix where
 e : Ent
 epoch : Int
 deriving DecidableEq
def Fix.zero : Fix := ⟨Ent.zero, 0⟩
structure KStep where
 kind : Int
 N : Int
 I : Int
 A : Int
 B : Int
 L : List Int
structure Run where
 x : Clu
 n : Nat
 wishes : List Wish
 fixed : List Fix
 last : List Rep
 begun0 : Nat
 begun1 : Nat
 answers : Nat
 top : Int
 ok : Bool
 agreed : Bool
 lasts : Bool
 told : Bool
 sealed : Bool
def nodeOf (n : Nat) (c : Int) : Int :=
 if pickI c (n + 5) < n then pickI c (n + 5) else if pickI c (n + 5) < n + 3 then 100 + pickI c (n + 5) - n else 200 + pickI c (n + 5) - n - 3
def bitsOf (n : Nat) (a : Int) : Nat := if (pickI a (2 ^ n : Nat)).toNat = 0 then 1 else (pickI a (2 ^ n : Nat)).toNat
def chosenOf (n bits from_ : Nat) : List Int := ((List.range n).map (fun i => (from_ + i) % n)).filterMap (fun k => if bits.testBit k then some (k : Int) else none)
def membersOf (n : Nat) (a b : Int) : List Int :=
 if chosenOf n (bitsOf n a) (pickI b n).toNat = [] then [0] else chosenOf n (bitsOf n a) (pickI b n).toNat
def lastWish (client : Int) (ws : List Wish) : Ent := ws.foldl (fun e w => if w.e.client = client then w.e else e) ⟨client, -1, 0, 0, 0⟩
def nextEntry (client seq : Int) (L : List Int) : Ent :=
 if 0 < pickI (L.getD 1 0) 3 then ⟨client, seq, 1, pickI (L.getD 0 0) 3, pickI (L.getD 2 0) 1000⟩ else ⟨client, seq, 2, pickI (L.getD 0 0) 3, 0⟩
def Run.entry (r : Run) (o : KStep) : Ent :=
 if 0 ≤ (lastWish (pickI o.B 4) r.wishes).seq ∧ (o.A.tmod 2 ≠ 0 ∨ 900 ≤ (lastWish (pickI o.B 4) r.wishes).seq) then lastWish (pickI o.B 4) r.wishes
 else nextEntry (pickI o.B 4) ((lastWish (pickI o.B 4) r.wishes).seq + 1) o.L
def Run.ask (r : Run) (d : Int) (e : Ent) : Run :=
 {r with x := (r.x.ask d e).1, ok := r.ok && decide ((r.x.ask d e).2 = 0), wishes := if r.wishes.any (fun w => decide (w.e = e)) then r.wishes else r.wishes ++ [⟨e, r.top⟩] }
def Run.begun (r : Run) (m : Int) : Nat := if m = 0 then r.begun0 else r.begun1
def Run.change (r : Run) (m : Int) (l : List Int) : Run :=
 if 40 ≤ r.begun m then r
 else
  {r with
   x := (r.x.change (200 + m) l).1
   begun0 := if (r.x.change (200 + m) l).2 = 0 ∧ m = 0 then r.begun0 + 1 else r.begun0
   begun1 := if (r.x.change (200 + m) l).2 = 0 ∧ m ≠ 0 then r.begun1 + 1 else r.begun1
   ok := r.ok && (decide ((r.x.change (200 + m) l).2 = 0) || decide ((r.x.change (200 + m) l).2 = 5)) }
def Run.framed (r : Run) (o : KStep) : Run :=
 if r.x.bag.length = 0 ∨ o.kind < 4 ∨ 7 < o.kind then r
 else
  let i := pickI o.I r.x.bag.length
  if o.kind = 4 then { r with x := (r.x.deliver i).1, ok := r.ok && decide ((r.x.deliver i).2 = 0) }
  else if o.kind = 5 then { r with x := (r.x.drop i).1, ok := r.ok && decide ((r.x.drop i).2 = 0) }
  else if o.kind = 6 then { r with x := (r.x.double i).1, ok := r.ok && decide ((r.x.double i).2 = 0) }
  else { r with x := (r.x.spoil i o.L).1 }
def Run.plain (r : Run) (o : KStep) : Run :=
 if o.kind = 1 then r.ask (pickI o.N r.n) (r.entry o)
 else if o.kind = 2 then r.change (pickI o.N 2) (membersOf r.n o.A o.B)
 else if o.kind = 3 then { r with x := (r.x.tick (nodeOf r.n o.N)).1 }
 else if o.kind = 8 then { r with x := (r.x.crash (nodeOf r.n o.N)).1 }
 else if o.kind = 9 then { r with x := (r.x.restart (nodeOf r.n o.N)).1 }
 else if o.kind = 10 then { r with x := r.x.round }
 else r
def Run.step (r : Run) (o : KStep) : Run := (r.plain o).framed o
def commit1 (s : Rep) (st : List Fix × Bool) (p : Nat) : List Fix × Bool :=
 if p < st.1.length then
  (if s.epoch < (st.1.getD p Fix.zero).epoch then st.1.set p ⟨(st.1.getD p Fix.zero).e, s.epoch⟩ else st.1, st.2 && decide ((st.1.getD p Fix.zero).e = s.log.getD p Ent.zero))
 else (st.1 ++ [⟨s.log.getD p Ent.zero, s.epoch⟩], st.2 && !st.1.any (fun f => isReq (s.log.getD p Ent.zero) f.e))
def commitsOf (st : List Fix × Bool) (s : Rep) : List Fix × Bool := (List.range s.commit).foldl (commit1 s) st
def holdsAt (s : Rep) (fixed : List Fix) (p : Nat) : Bool :=
 !(decide ((fixed.getD p Fix.zero).epoch < s.epoch) && (decide (s.log.length ≤ p) || !decide (s.log.getD p Ent.zero = (fixed.getD p Fix.zero).e)))
def holdsOf (fixed : List Fix) (b : Bool) (s : Rep) : Bool := b && (List.range fixed.length).all (holdsAt s fixed)
def stillOf (b : Bool) (x y : Rep) : Bool :=
 let b1 := b && !(decide (y.epoch < x.epoch) || decide (y.lock < x.lock))
 if x.epoch ≠ y.epoch then b1
 else if x.mems ≠ y.mems ∨ y.log.length < x.log.length then false
 else b1 && decide (x.log = y.log.take x.log.length) && !(decide (x.epoch < x.lock) && (decide (x.log.length < y.log.length) || decide (x.commit < y.commit)))
def valueAt (fixed : List Fix) (p : Nat) : Int := answerAt (fixed.map Fix.e) p
def placeOf (fixed : List Fix) (c q : Int) : Int :=
 (List.range fixed.length).foldl (fun (at_ : Int) p => if (fixed.getD p Fix.zero).e.client = c ∧ (fixed.getD p Fix.zero).e.seq = q then (p : Int) else at_) (-1)
def floorOf (ws : List Wish) (e : Ent) : Int := ws.foldl (fun f w => if w.e = e then w.floor else f) (-2)
def hear1 (r : Run) (top : Int) (a : Ans) : Option Int :=
 let p := placeOf r.fixed a.client a.seq
 if p < 0 then none
 else if floorOf r.wishes (r.fixed.getD p.toNat Fix.zero).e = -2 ∨ p ≤ floorOf r.wishes (r.fixed.getD p.toNat Fix.zero).e ∨ a.value ≠ valueAt r.fixed p.toNat then none
 else some (if top < p then p else top)
def hearAll (r : Run) : Int → List Ans → Option Int
 | top, [] => some top
 | top, a :: l => match hear1 r top a with
  | none => none
  | some t => hearAll r t l
def Run.hears (r : Run) : Run :=
 if r.x.told.length < r.answers then { r with told := false }
 else match hearAll r r.top (r.x.told.drop r.answers) with
  | none => { r with told := false }
  | some t => { r with top := t, answers := r.x.told.length }
def Run.look (r : Run) : Run :=
 let st := r.x.reps.foldl commitsOf (r.fixed, r.agreed)
 let lasts := r.x.reps.foldl (holdsOf st.1) r.lasts
 let sealed := (r.last.zip r.x.reps).foldl (fun b p => stillOf b p.1 p.2) r.sealed
 {r with fixed := st.1, agreed := st.2, lasts := lasts, sealed := sealed, last := r.x.reps }.hears
def Run.drain : Nat → Run → Run
 | 0, r => r
 | k + 1, r => if r.x.bag.length = 0 ∨ r.ok = false then r else Run.drain k ({ r with x := (r.x.deliver 0).1, ok := r.ok && decide ((r.x.deliver 0).2 = 0) }.look)
def Run.first (n : Nat) : Run :=
 {x := Clu.first n, n := n, wishes := [], fixed := [], last := [], begun0 := 0, begun1 := 0, answers := 0, top := -1, ok := true, agreed := true, lasts := true, told := true, sealed := true }
def firstEntry : Ent := ⟨0, 0, 1, 0, 5⟩
def Run.begin (n : Nat) : Run := Run.drain 5000 (((Run.first n).look).ask 0 firstEntry)
end Go.Proofs.YtlminmokpmdgoabGreat
