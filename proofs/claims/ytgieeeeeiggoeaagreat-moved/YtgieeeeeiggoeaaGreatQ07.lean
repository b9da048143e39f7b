import Derived.Test.YtgieeeeeiggoeaaGreatQ06
import Derived.Test.YtgieeeeeiggoeaaGreatQ01
namespace Go.Proofs.YtgieeeeeiggoeaaGreat
def stOf (c : Clu) : St :=
 {R := fun i => if c.isRep i then c.rep i else Rep.first 0
  A := fun a => if isAcc a then c.acc a else Acc.first 0
  S := fun k => if isMas k then c.mas k else Mas.still true 0 }
theorem stOf_R {c : Clu} {i : Int} (h : c.isRep i) : (stOf c).R i = c.rep i := if_pos h
theorem stOf_A {c : Clu} {i : Int} (h : isAcc i) : (stOf c).A i = c.acc i := if_pos h
theorem stOf_S {c : Clu} {i : Int} (h : isMas i) : (stOf c).S i = c.mas i := if_pos h
theorem rep_setRep {c : Clu} {d j : Int} {r : Rep} (hd : c.isRep d) (hj : c.isRep j) : (c.setRep d r).rep j = if j = d then r else c.rep j := by
 unfold Clu.isRep at hd hj
 show (c.reps.set d.toNat r).getD j.toNat (Rep.first 0) = _
 by_cases h : j = d
 ·subst h
  rw [if_pos rfl,List.getD,List.getElem?_set_self (by omega)]
  rfl
 ·rw [if_neg h,List.getD,List.getElem?_set_ne (by omega)]
  rfl
theorem isRep_setRep {c : Clu} {d j : Int} {r : Rep} : (c.setRep d r).isRep j ↔ c.isRep j := by
 unfold Clu.isRep Clu.setRep
 simp
theorem stOf_setRep {c : Clu} {d : Int} {r : Rep} (hd : c.isRep d) : stOf (c.setRep d r) = (stOf c).setR d r := by
 unfold stOf St.setR
 congr 1
 funext j
 dsimp only
 by_cases hj : c.isRep j
 ·rw [if_pos (isRep_setRep.2 hj),rep_setRep hd hj,if_pos hj]
 ·rw [if_neg (fun q => hj (isRep_setRep.1 q)),if_neg hj,if_neg (fun (q : j = d) => hj (q ▸ hd))]
theorem acc_setAcc {c : Clu} {d j : Int} {r : Acc} (hl : c.accs.length = 3) (hd : isAcc d) (hj : isAcc j) : (c.setAcc d r).acc j = if j = d then r else c.acc j := by
 unfold isAcc at hd hj
 show (c.accs.set (d - 100).toNat r).getD (j - 100).toNat (Acc.first 0) = _
 by_cases h : j = d
 ·subst h
  rw [if_pos rfl,List.getD,List.getElem?_set_self (by omega)]
  rfl
 ·rw [if_neg h,List.getD,List.getElem?_set_ne (by omega)]
  rfl
theorem stOf_setAcc {c : Clu} {d : Int} {r : Acc} (hl : c.accs.length = 3) (hd : isAcc d) : stOf (c.setAcc d r) = (stOf c).setA d r := by
 unfold stOf St.setA
 congr 1
 funext j
 dsimp only
 by_cases hj : isAcc j
 ·rw [if_pos hj,acc_setAcc hl hd hj,if_pos hj]
 ·rw [if_neg hj,if_neg hj,if_neg (fun (q : j = d) => hj (q ▸ hd))]
theorem mas_setMas {c : Clu} {d j : Int} {r : Mas} (hl : c.mass.length = 2) (hd : isMas d) (hj : isMas j) : (c.setMas d r).mas j = if j = d then r else c.mas j := by
 unfold isMas at hd hj
 show (c.mass.set (d - 200).toNat r).getD (j - 200).toNat (Mas.still true 0) = _
 by_cases h : j = d
 ·subst h
  rw [if_pos rfl,List.getD,List.getElem?_set_self (by omega)]
  rfl
 ·rw [if_neg h,List.getD,List.getElem?_set_ne (by omega)]
  rfl
theorem stOf_setMas {c : Clu} {d : Int} {r : Mas} (hl : c.mass.length = 2) (hd : isMas d) : stOf (c.setMas d r) = (stOf c).setS d r := by
 unfold stOf St.setS
 congr 1
 funext j
 dsimp only
 by_cases hj : isMas j
 ·rw [if_pos hj,mas_setMas hl hd hj,if_pos hj]
 ·rw [if_neg hj,if_neg hj,if_neg (fun (q : j = d) => hj (q ▸ hd))]
structure Nodes (c : Clu) (E : Int) (g : Gh) : Prop where
 n1 : 1 ≤ c.reps.length
 n5 : c.reps.length ≤ 5
 a3 : c.accs.length = 3
 m2 : c.mass.length = 2
 n : g.n = c.reps.length
 E0 : 0 ≤ E
 R : ∀ i,c.isRep i → RepWF c.reps.length E (c.rep i)
 A : ∀ a,isAcc a → AccWF c.reps.length E (c.acc a)
 S : ∀ k,isMas k → MasWF c.reps.length E (c.mas k)
 budget : E + (c.mas 200).reads + (c.mas 201).reads ≤ (c.mas 200).begun + (c.mas 201).begun
 inv : Inv g (stOf c)
def Sent (c : Clu) (E : Int) (g : Gh) (m : Msg) : Prop := MsgWF c.reps.length E m ∧ MsgInv g (stOf c) m
def FrameOK (c : Clu) (E : Int) (g : Gh) (f : List UInt8 × Bool) : Prop :=
 ∃ m,Sent c E g m ∧ (f.1 = m.frame ∨ (f.2 = true ∧ msgOf f.1 = none ∧ f.1.length = m.frame.length))
structure Good (c : Clu) (E : Int) (g : Gh) : Prop where
 nodes : Nodes c E g
 bag : c.bag.length ≤ 200
 frames : ∀ f ∈ c.bag,FrameOK c E g f
theorem reads_range (s : Mas) : 0 ≤ s.reads ∧ s.reads ≤ 1 := by unfold Mas.reads; split <;> omega
theorem Nodes.E2000 {c : Clu} {E : Int} {g : Gh} (h : Nodes c E g) : E ≤ 2000 := by
 have h1 := (h.S 200 (by unfold isMas; omega)).begun
 have h2 := (h.S 201 (by unfold isMas; omega)).begun
 have := h.budget
 have := reads_range (c.mas 200)
 have := reads_range (c.mas 201)
 omega
theorem Nodes.frame {c : Clu} {E : Int} {g : Gh} (h : Nodes c E g) {m : Msg} (hm : Sent c E g m) : msgOf m.frame = some m := msgOf_frame m (hm.1.ok h.n5 h.E2000)
theorem Good.msg {c : Clu} {E : Int} {g : Gh} (h : Good c E g) {f : List UInt8 × Bool} (hf : f ∈ c.bag) {m : Msg} (hm : msgOf f.1 = some m) : Sent c E g m := by
 obtain ⟨m0,h1,h2⟩ := h.frames f hf
 rcases h2 with q | ⟨_,q,_⟩
 ·rw [q,h.nodes.frame h1] at hm
  injection hm with hm
  exact hm ▸ h1
 ·rw [q] at hm; cases hm
structure Later (c : Clu) (E : Int) (g : Gh) (c' : Clu) (E' : Int) (g' : Gh) : Prop where
 nodes : Nodes c' E' g'
 le : Le g (stOf c) g' (stOf c')
 E : E ≤ E'
 reps : c'.reps.length = c.reps.length
theorem Later.sent {c c' : Clu} {E E' : Int} {g g' : Gh} (h : Later c E g c' E' g') {m : Msg} (hm : Sent c E g m) : Sent c' E' g' m :=
 ⟨by rw [h.reps]; exact hm.1.mono h.E,hm.2.mono h.le⟩
theorem Later.frameOK {c c' : Clu} {E E' : Int} {g g' : Gh} (h : Later c E g c' E' g') {f : List UInt8 × Bool} (hf : FrameOK c E g f) : FrameOK c' E' g' f := by
 obtain ⟨m,h1,h2⟩ := hf
 exact ⟨m,h.sent h1,h2⟩
theorem Later.refl {c : Clu} {E : Int} {g : Gh} (h : Nodes c E g) : Later c E g c E g := ⟨h,Le.refl _ _,Int.le_refl _,rfl⟩
theorem Nodes.bag {c : Clu} {E : Int} {g : Gh} (h : Nodes c E g) (b : List (List UInt8 × Bool)) (t : List Ans) : Nodes { c with bag := b,told := t } E g :=
 ⟨h.n1,h.n5,h.a3,h.m2,h.n,h.E0,h.R,h.A,h.S,h.budget,h.inv⟩
theorem Nodes.laterRep {c : Clu} {E : Int} {g g' : Gh} (h : Nodes c E g) {d : Int} (hd : c.isRep d) {r : Rep} (hw : RepWF c.reps.length E r) (hi : Inv g' ((stOf c).setR d r)) (hl : Le g (stOf c) g' ((stOf c).setR d r)) :
  Later c E g (c.setRep d r) E g' := by
 have hlen : (c.setRep d r).reps.length = c.reps.length := by unfold Clu.setRep; simp
 refine ⟨?_,by rw [stOf_setRep hd]; exact hl,Int.le_refl _,hlen⟩
 exact
  {n1 := by rw [hlen]; exact h.n1
   n5 := by rw [hlen]; exact h.n5
   a3 := h.a3,m2 := h.m2
   n := by rw [hlen,hl.n]; exact h.n
   E0 := h.E0
   R := by
    intro i hi
    rw [hlen]
    rw [isRep_setRep] at hi
    rw [rep_setRep hd hi]
    split
    ·exact hw
    ·exact h.R i hi
   A := by rw [hlen]; exact h.A
   S := by rw [hlen]; exact h.S
   budget := h.budget
   inv := by rw [stOf_setRep hd]; exact hi }
theorem Nodes.laterAcc {c : Clu} {E : Int} {g g' : Gh} (h : Nodes c E g) {d : Int} (hd : isAcc d) {r : Acc} (hw : AccWF c.reps.length E r) (hi : Inv g' ((stOf c).setA d r)) (hl : Le g (stOf c) g' ((stOf c).setA d r)) :
  Later c E g (c.setAcc d r) E g' := by
 have hlen : (c.setAcc d r).accs.length = c.accs.length := by unfold Clu.setAcc; simp
 refine ⟨?_,by rw [stOf_setAcc h.a3 hd]; exact hl,Int.le_refl _,rfl⟩
 exact
  {n1 := h.n1,n5 := h.n5,m2 := h.m2,E0 := h.E0,R := h.R,S := h.S,budget := h.budget
   a3 := by rw [hlen]; exact h.a3
   n := by rw [hl.n]; exact h.n
   A := by
    intro i hi
    rw [acc_setAcc h.a3 hd hi]
    split
    ·exact hw
    ·exact h.A i hi
   inv := by rw [stOf_setAcc h.a3 hd]; exact hi }
theorem Nodes.laterMas {c : Clu} {E E' : Int} {g g' : Gh} (h : Nodes c E g) {d : Int} (hd : isMas d) {r : Mas} (hE : E ≤ E') (hw : MasWF c.reps.length E' r) (hb : E' + r.reads - r.begun ≤ E + (c.mas d).reads - (c.mas d).begun)
  (hi : Inv g' ((stOf c).setS d r)) (hl : Le g (stOf c) g' ((stOf c).setS d r)) : Later c E g (c.setMas d r) E' g' := by
 have hlen : (c.setMas d r).mass.length = c.mass.length := by unfold Clu.setMas; simp
 have h0 : isMas 200 := by unfold isMas; omega
 have h1 : isMas 201 := by unfold isMas; omega
 refine ⟨?_,by rw [stOf_setMas h.m2 hd]; exact hl,hE,rfl⟩
 exact
  {n1 := h.n1,n5 := h.n5,a3 := h.a3,E0 := Int.le_trans h.E0 hE
   m2 := by rw [hlen]; exact h.m2
   n := by rw [hl.n]; exact h.n
   R := fun i hi => (h.R i hi).mono hE
   A := fun i hi => (h.A i hi).mono hE
   S := by
    intro i hi
    rw [mas_setMas h.m2 hd hi]
    split
    ·exact hw
    ·exact (h.S i hi).mono hE
   budget := by
    rw [mas_setMas h.m2 hd h0,mas_setMas h.m2 hd h1]
    have := h.budget
    have hd' := hd
    unfold isMas at hd'
    by_cases q : d = 200
    ·subst q
     rw [if_pos rfl,if_neg (by decide)]
     omega
    ·have : d = 201 := by omega
     subst this
     rw [if_neg (by decide),if_pos rfl]
     omega
   inv := by rw [stOf_setMas h.m2 hd]; exact hi }
theorem rep_dst {c : Clu} {E : Int} {g : Gh} (h : Nodes c E g) {d : Int} (hd : c.isRep d) : 0 ≤ d ∧ d ≤ 303 ∧ d < g.n := by
 have := h.n5
 have := h.n
 unfold Clu.isRep at hd
 omega
theorem Nodes.takes {c : Clu} {E : Int} {g : Gh} (h : Nodes c E g) {m : Msg} (hm : Sent c E g m) : ∃ E' g',Later c E g (c.takes m).1 E' g' ∧ ∀ x ∈ (c.takes m).2,Sent (c.takes m).1 E' g' x := by
 unfold Clu.takes
 split
 ·split
  ·rename_i hd
   obtain ⟨d0,d1,d2⟩ := rep_dst h hd
   obtain ⟨w1,w2⟩ := repTake_wf (h.R _ hd) h.n5 h.E0 ⟨d0,d1⟩ hm.1
   obtain ⟨g',i1,i2,i3⟩ := h.inv.repTake (i := m.dst) d0 d2 m hm.2 rfl
   rw [stOf_R hd] at i1 i2 i3
   have hL := h.laterRep hd w1 i1 i2
   refine ⟨E,g',hL, ?_⟩
   intro x hx
   exact ⟨by rw [hL.reps]; exact w2 x hx,by rw [stOf_setRep hd]; exact i3 x hx⟩
  ·split
   ·rename_i hd
    obtain ⟨w1,w2⟩ := accTake_wf (h.A _ hd) hm.1
    obtain ⟨g',i1,i2,i3⟩ := h.inv.accTake hd m hm.2 rfl
    rw [stOf_A hd] at i1 i2 i3
    have hL := h.laterAcc hd w1 i1 i2
    refine ⟨E,g',hL, ?_⟩
    intro x hx
    exact ⟨w2 x hx,by rw [stOf_setAcc h.a3 hd]; exact i3 x hx⟩
   ·rename_i hup hr ha
    have hd : isMas m.dst := by
     unfold Clu.upOf at hup
     rw [if_neg hr,if_neg ha] at hup
     split at hup
     ·assumption
     ·cases hup
    obtain ⟨w1,w2,w3,w4⟩ := masTake_wf (h.S _ hd) h.n5 h.E0 hm.1
    obtain ⟨g',i1,i2,i3⟩ := h.inv.masTake hd m hm.2 rfl
    rw [stOf_S hd] at i1 i2 i3
    have hL := h.laterMas hd (E' := E + (c.mas m.dst).reads - ((c.mas m.dst).take m).1.reads) (by omega) w1 (by omega) i1 i2
    refine ⟨_,g',hL, ?_⟩
    intro x hx
    exact ⟨w4 x hx,by rw [stOf_setMas h.m2 hd]; exact i3 x hx⟩
 ·exact ⟨E,g,Later.refl h,fun x hx => by cases hx⟩
theorem Nodes.ticks {c : Clu} {E : Int} {g : Gh} (h : Nodes c E g) (d : Int) : ∀ x ∈ c.ticks d,Sent c E g x := by
 intro x hx
 unfold Clu.ticks at hx
 split at hx
 ·rename_i hd
  obtain ⟨d0,d1,d2⟩ := rep_dst h hd
  have := h.inv.tick_ok (i := d) d0 d2
  rw [stOf_R hd] at this
  exact ⟨repTick_wf (h.R _ hd) h.n5 ⟨d0,d1⟩ x hx,this x hx⟩
 ·split at hx
  ·rename_i hd
   have := (h.inv.mas hd).asks_ok
   rw [stOf_S hd] at this
   exact ⟨asks_wf (h.S _ hd) h.n5 h.E0 (by unfold isMas at hd; omega) x hx,this x hx⟩
  ·cases hx
theorem frames_take {c : Clu} {E : Int} {g : Gh} {b : List (List UInt8 × Bool)} {out : List Msg} (hb : ∀ f ∈ b,FrameOK c E g f) (ho : ∀ x ∈ out,Sent c E g x) : ∀ f ∈ (b ++ out.map (fun m => (m.frame,false))).take 200,FrameOK c E g f := by
 intro f hf
 rcases List.mem_append.1 (List.mem_of_mem_take hf) with q | q
 ·exact hb f q
 ·simp only [List.mem_map] at q
  obtain ⟨m,hm,rfl⟩ := q
  exact ⟨m,ho m hm, .inl rfl⟩
theorem Nodes.good {c : Clu} {E : Int} {g : Gh} (h : Nodes c E g) {out : List Msg} (hb : ∀ f ∈ c.bag,FrameOK c E g f) (ho : ∀ x ∈ out,Sent c E g x) : Good (c.send out) E g :=
 ⟨h.bag _ _,by unfold Clu.send; simp; omega,frames_take hb ho⟩
def StepOK (c : Clu) (E : Int) (g : Gh) (c' : Clu) : Prop := ∃ E' g',Good c' E' g' ∧ Le g (stOf c) g' (stOf c') ∧ E ≤ E' ∧ c'.reps.length = c.reps.length
theorem StepOK.same {c : Clu} {E : Int} {g : Gh} (h : Good c E g) : StepOK c E g c := ⟨E,g,h,Le.refl _ _,Int.le_refl _,rfl⟩
theorem Good.arrive {c : Clu} {E : Int} {g : Gh} (h : Good c E g) {m : Msg} (hm : Sent c E g m) : StepOK c E g (c.arrive m) := by
 have ht : Nodes (c.tell m) E g := by unfold Clu.tell; split; exact h.nodes.bag _ _; exact h.nodes
 have hst : stOf (c.tell m) = stOf c := by unfold Clu.tell; split <;> rfl
 have hrl : (c.tell m).reps = c.reps := by unfold Clu.tell; split <;> rfl
 have hbg : (c.tell m).bag = c.bag := by unfold Clu.tell; split <;> rfl
 have hm' : Sent (c.tell m) E g m := by unfold Sent; rw [hst,hrl]; exact hm
 obtain ⟨E',g',hL,ho⟩ := ht.takes hm'
 have hb' : ((c.tell m).takes m).1.bag = c.bag := by
  rw [← hbg]
  unfold Clu.takes
  split
  ·split
   ·rfl
   ·split <;> rfl
  ·rfl
 refine ⟨E',g',hL.nodes.good ?_ ho, ?_,hL.E, ?_⟩
 ·rw [hb']
  intro f hf
  obtain ⟨m0,h1,h2⟩ := h.frames f hf
  exact hL.frameOK ⟨m0,by unfold Sent; rw [hst,hrl]; exact h1,h2⟩
 ·have := hL.le
  rw [hst] at this
  exact this
 ·show ((c.tell m).takes m).1.reps.length = _
  rw [hL.reps,hrl]
theorem Good.gone {c : Clu} {E : Int} {g : Gh} (h : Good c E g) (i : Int) : Good (c.gone i) E g :=
 ⟨h.nodes.bag _ _,Nat.le_trans (by unfold Clu.gone; exact List.length_eraseIdx_le _ _) h.bag,fun f hf => h.frames f (List.mem_of_mem_eraseIdx hf)⟩
theorem frameAt_mem {c : Clu} {i : Int} (h : c.hasFrame i) : c.frameAt i ∈ c.bag := by
 unfold Clu.hasFrame at h
 unfold Clu.frameAt
 rw [List.getD,List.getElem?_eq_getElem (by omega)]
 exact List.getElem_mem _
theorem Good.deliver {c : Clu} {E : Int} {g : Gh} (h : Good c E g) (i : Int) : StepOK c E g (c.deliver i).1 := by
 unfold Clu.deliver
 split
 ·rename_i hi
  split
  ·exact ⟨E,g,h.gone i,Le.refl _ _,Int.le_refl _,rfl⟩
  ·rename_i m hm
   exact (h.gone i).arrive (h.msg (frameAt_mem hi) hm)
 ·exact StepOK.same h
theorem Later.step {c c' : Clu} {E E' : Int} {g g' : Gh} (hL : Later c E g c' E' g') (h : Good c E g) (hb : c'.bag = c.bag) {out : List Msg} (ho : ∀ x ∈ out,Sent c' E' g' x) : StepOK c E g (c'.send out) :=
 ⟨E',g',hL.nodes.good (by rw [hb]; exact fun f hf => hL.frameOK (h.frames f hf)) ho,hL.le,hL.E,hL.reps⟩
theorem Good.change {c : Clu} {E : Int} {g : Gh} (h : Good c E g) (d : Int) (l : List Int) : StepOK c E g (c.change d l).1 := by
 unfold Clu.change
 split
 ·exact StepOK.same h
 ·rename_i hd
  have hd : isMas d := Decidable.not_not.1 hd
  split
  ·exact StepOK.same h
  ·rename_i hb
   split
   ·exact StepOK.same h
   ·rename_i hl
    have hl : memsOk l c.reps.length = true := by simpa using hl
    obtain ⟨i1,i2,i3⟩ := h.nodes.inv.masBegin hd l (by rw [h.nodes.n]; exact hl)
    rw [stOf_S hd] at i1 i2 i3
    have hwf := masBegin_wf (n := c.reps.length) (E := E) (own := d) (s := c.mas d) (l := l) (by omega) h.nodes.E0 hd hl
    have e0 : ((c.mas d).begin d l).reads = 1 := rfl
    have e1 : ((c.mas d).begin d l).begun = (c.mas d).begun + 1 := rfl
    have hrd := reads_range (c.mas d)
    have hL := h.nodes.laterMas hd (Int.le_refl _) hwf (by rw [e0,e1]; omega) i1 i2
    refine hL.step h rfl ?_
    intro x hx
    exact ⟨asks_wf hwf h.nodes.n5 h.nodes.E0 (by unfold isMas at hd; omega) x hx,by rw [stOf_setMas h.nodes.m2 hd]; exact i3 x hx⟩
theorem Good.ask {c : Clu} {E : Int} {g : Gh} (h : Good c E g) (d : Int) (e : Ent) (hd : c.isRep d) (he : e.ok = true) : Good (c.ask d e).1 E (g.addAsk e) ∧ (c.ask d e).2 = 0 := by
 unfold Clu.ask
 rw [if_neg (fun q => q hd),if_neg (by rw [he]; exact Bool.noConfusion)]
 refine ⟨?_,rfl⟩
 have hn : Nodes c E (g.addAsk e) := ⟨h.nodes.n1,h.nodes.n5,h.nodes.a3,h.nodes.m2,h.nodes.n,h.nodes.E0,h.nodes.R,h.nodes.A,h.nodes.S,h.nodes.budget,h.nodes.inv.ask e⟩
 obtain ⟨d0,d1,d2⟩ := rep_dst h.nodes hd
 refine hn.good ?_ ?_
 ·intro f hf
  obtain ⟨m,h1,h2⟩ := h.frames f hf
  exact ⟨m,⟨h1.1,h1.2.addAsk e⟩,h2⟩
 ·intro x hx
  rw [List.mem_singleton] at hx
  subst hx
  have := ent_bounds he
  exact ⟨request_wf he h.nodes.E0 (by omega) ⟨d0,d1⟩,mk1 rfl ⟨e,rfl, .inr rfl⟩⟩
structure Wish where
 e : Ent
 floor : Int
 deriving DecidableEq
structure Fix where
 e : Ent
 epoch : Int
 deriving DecidableEq
def Fix.zero : Fix := ⟨Ent.zero,0⟩
structure KStep where
 kind : Int
 N : Int
 I : Int
 A : Int
 B : Int
 L : List Int
structure Run where
 x : Clu
 n : Nat
 wishes : List Wish
 fixed : List Fix
 last : List Rep
 begun0 : Nat
 begun1 : Nat
 answers : Nat
 top : Int
 ok : Bool
 agreed : Bool
 lasts : Bool
 told : Bool
 sealed : Bool
def bitsOf (n : Nat) (a : Int) : Nat := if (pickI a (2 ^ n : Nat)).toNat = 0 then 1 else (pickI a (2 ^ n : Nat)).toNat
def chosenOf (n bits from_ : Nat) : List Int := ((List.range n).map (fun i => (from_ + i) % n)).filterMap (fun k => if bits.testBit k then some (k : Int) else none)
def membersOf (n : Nat) (a b : Int) : List Int :=
 if chosenOf n (bitsOf n a) (pickI b n).toNat = [] then [0] else chosenOf n (bitsOf n a) (pickI b n).toNat
def lastWish (client : Int) (ws : List Wish) : Ent := ws.foldl (fun e w => if w.e.client = client then w.e else e) ⟨client, -1,0,0,0⟩
def nextEntry (client seq : Int) (L : List Int) : Ent :=
 if 0 < pickI (L.getD 1 0) 3 then ⟨client,seq,1,pickI (L.getD 0 0) 3,pickI (L.getD 2 0) 1000⟩ else ⟨client,seq,2,pickI (L.getD 0 0) 3,0⟩
def Run.entry (r : Run) (o : KStep) : Ent :=
 if 0 ≤ (lastWish (pickI o.B 4) r.wishes).seq ∧ (o.A.tmod 2 ≠ 0 ∨ 900 ≤ (lastWish (pickI o.B 4) r.wishes).seq) then lastWish (pickI o.B 4) r.wishes
 else nextEntry (pickI o.B 4) ((lastWish (pickI o.B 4) r.wishes).seq + 1) o.L
def Run.ask (r : Run) (d : Int) (e : Ent) : Run :=
 {r with x := (r.x.ask d e).1,ok := r.ok && decide ((r.x.ask d e).2 = 0),wishes := if r.wishes.any (fun w => decide (w.e = e)) then r.wishes else r.wishes ++ [⟨e,r.top⟩] }
def commit1 (s : Rep) (st : List Fix × Bool) (p : Nat) : List Fix × Bool :=
 if p < st.1.length then
  (if s.epoch < (st.1.getD p Fix.zero).epoch then st.1.set p ⟨(st.1.getD p Fix.zero).e,s.epoch⟩ else st.1,st.2 && decide ((st.1.getD p Fix.zero).e = s.log.getD p Ent.zero))
 else (st.1 ++ [⟨s.log.getD p Ent.zero,s.epoch⟩],st.2 && !st.1.any (fun f => isReq (s.log.getD p Ent.zero) f.e))
def commitsOf (st : List Fix × Bool) (s : Rep) : List Fix × Bool := (List.range s.commit).foldl (commit1 s) st
def holdsAt (s : Rep) (fixed : List Fix) (p : Nat) : Bool :=
 !(decide ((fixed.getD p Fix.zero).epoch < s.epoch) && (decide (s.log.length ≤ p) || !decide (s.log.getD p Ent.zero = (fixed.getD p Fix.zero).e)))
def holdsOf (fixed : List Fix) (b : Bool) (s : Rep) : Bool := b && (List.range fixed.length).all (holdsAt s fixed)
def stillOf (b : Bool) (x y : Rep) : Bool :=
 let b1 := b && !(decide (y.epoch < x.epoch) || decide (y.lock < x.lock))
 if x.epoch ≠ y.epoch then b1
 else if x.mems ≠ y.mems ∨ y.log.length < x.log.length then false
 else b1 && decide (x.log = y.log.take x.log.length) && !(decide (x.epoch < x.lock) && (decide (x.log.length < y.log.length) || decide (x.commit < y.commit)))
def valueAt (fixed : List Fix) (p : Nat) : Int := answerAt (fixed.map Fix.e) p
def placeOf (fixed : List Fix) (c q : Int) : Int :=
 (List.range fixed.length).foldl (fun (at_ : Int) p => if (fixed.getD p Fix.zero).e.client = c ∧ (fixed.getD p Fix.zero).e.seq = q then (p : Int) else at_) (-1)
def floorOf (ws : List Wish) (e : Ent) : Int := ws.foldl (fun f w => if w.e = e then w.floor else f) (-2)
def hear1 (r : Run) (top : Int) (a : Ans) : Option Int :=
 let p := placeOf r.fixed a.client a.seq
 if p < 0 then none
 else if floorOf r.wishes (r.fixed.getD p.toNat Fix.zero).e = -2 ∨ p ≤ floorOf r.wishes (r.fixed.getD p.toNat Fix.zero).e ∨ a.value ≠ valueAt r.fixed p.toNat then none
 else some (if top < p then p else top)
def hearAll (r : Run) : Int → List Ans → Option Int
 | top, [] => some top
 | top,a :: l => match hear1 r top a with
  | none => none
  | some t => hearAll r t l
def Run.hears (r : Run) : Run :=
 if r.x.told.length < r.answers then { r with told := false }
 else match hearAll r r.top (r.x.told.drop r.answers) with
  | none => { r with told := false }
  | some t => { r with top := t,answers := r.x.told.length }
def Run.look (r : Run) : Run :=
 let st := r.x.reps.foldl commitsOf (r.fixed,r.agreed)
 let lasts := r.x.reps.foldl (holdsOf st.1) r.lasts
 let sealed := (r.last.zip r.x.reps).foldl (fun b p => stillOf b p.1 p.2) r.sealed
 {r with fixed := st.1,agreed := st.2,lasts := lasts,sealed := sealed,last := r.x.reps }.hears
def Run.drain : Nat → Run → Run
 | 0,r => r
 | k + 1,r => if r.x.bag.length = 0 ∨ r.ok = false then r else Run.drain k ({ r with x := (r.x.deliver 0).1,ok := r.ok && decide ((r.x.deliver 0).2 = 0) }.look)
def Run.first (n : Nat) : Run :=
 {x := Clu.first n,n := n,wishes := [],fixed := [],last := [],begun0 := 0,begun1 := 0,answers := 0,top := -1,ok := true,agreed := true,lasts := true,told := true,sealed := true }
def firstEntry : Ent := ⟨0,0,1,0,5⟩
def Run.begin (n : Nat) : Run := Run.drain 5000 (((Run.first n).look).ask 0 firstEntry)
structure RepRel (x y : Rep) : Prop where
 epoch : x.epoch ≤ y.epoch
 lock : x.lock ≤ y.lock
 same : x.epoch = y.epoch → x.mems = y.mems ∧ x.log <+: y.log ∧ (x.epoch < x.lock → x.log = y.log ∧ y.commit ≤ x.commit)
theorem RepRel.refl (x : Rep) : RepRel x x := ⟨Int.le_refl _,Int.le_refl _,fun _ => ⟨rfl,List.prefix_refl _,fun _ => ⟨rfl,Nat.le_refl _⟩⟩⟩
theorem rel_put (r : Rep) (own : Int) (e : Ent) (hl : r.lock ≤ r.epoch) : RepRel r (r.put own e).1 := by
 unfold Rep.put
 split
 ·exact ⟨Int.le_refl _,Int.le_refl _,fun _ => ⟨rfl,List.prefix_append _ _,fun q => by omega⟩⟩
 ·exact ⟨Int.le_refl _,Int.le_refl _,fun _ => ⟨rfl,List.prefix_append _ _,fun q => by omega⟩⟩
theorem rel_take (r : Rep) (own : Int) (m : Msg) (hl : r.lock ≤ r.epoch + 1) : RepRel r (r.take own m).1 := by
 unfold Rep.take
 split
 ·split
  ·rename_i hc
   have hlv := ((live_iff _ _).1 hc.2).2
   unfold Rep.asked
   split
   ·exact RepRel.refl _
   ·split
    ·split <;> exact RepRel.refl _
    ·split
     ·exact RepRel.refl _
     ·exact rel_put _ _ _ hlv
  ·exact RepRel.refl _
 ·split
  ·unfold Rep.takeForward
   split
   ·rename_i hc
    have hlv := ((live_iff _ _).1 hc.1).2
    split
    ·exact rel_put _ _ _ hlv
    ·split <;> exact RepRel.refl _
   ·exact RepRel.refl _
  ·split
   ·unfold Rep.takeAck
    split
    ·rename_i hc
     have hlv := ((live_iff _ _).1 hc.1).2
     exact ⟨Int.le_refl _,Int.le_refl _,fun _ => ⟨rfl,List.prefix_refl _,fun q => by omega⟩⟩
    ·exact RepRel.refl _
   ·split
    ·unfold Rep.takeSeal
     split
     ·exact RepRel.refl _
     ·refine ⟨Int.le_refl _, ?_,fun _ => ⟨rfl,List.prefix_refl _,fun _ => ⟨rfl,Nat.le_refl _⟩⟩⟩
      show r.lock ≤ if _ then _ else _
      split <;> omega
    ·split
     ·unfold Rep.takeInstall
      by_cases hlt : r.epoch < m.epoch
      ·rw [if_pos hlt]
       exact ⟨Int.le_of_lt hlt,Int.le_refl _,fun q => by have q' : r.epoch = m.epoch := q; omega⟩
      ·rw [if_neg hlt]
       exact RepRel.refl _
     ·exact RepRel.refl _
theorem still_of_rel {x y : Rep} (h : RepRel x y) : stillOf true x y = true := by
 unfold stillOf
 have h1 := h.epoch
 have h2 := h.lock
 have e1 : decide (y.epoch < x.epoch) = false := decide_eq_false (by omega)
 have e2 : decide (y.lock < x.lock) = false := decide_eq_false (by omega)
 simp only [e1,e2,Bool.or_self,Bool.not_false,Bool.and_self]
 by_cases he : x.epoch = y.epoch
 ·obtain ⟨a1,a2,a3⟩ := h.same he
  have hle := a2.length_le
  rw [if_neg (by simpa using he),if_neg (by rintro (q | q); exact q a1; omega)]
  have e3 : decide (x.log = y.log.take x.log.length) = true := decide_eq_true (by obtain ⟨t,ht⟩ := a2; rw [← ht,List.take_left])
  rw [e3]
  by_cases hs : x.epoch < x.lock
  ·obtain ⟨b1,b2⟩ := a3 hs
   have e4 : decide (x.log.length < y.log.length) = false := decide_eq_false (by rw [b1]; omega)
   have e5 : decide (x.commit < y.commit) = false := decide_eq_false (by omega)
   simp [e4,e5]
  ·have e6 : decide (x.epoch < x.lock) = false := decide_eq_false hs
   simp [e6]
 ·rw [if_pos (by simpa using he)]
def Fixes (g : Gh) (fixed : List Fix) : Prop := ∀ (p : Nat) (f : Fix),fixed[p]? = some f → ∃ c,g.com f.epoch c ∧ c[p]? = some f.e
theorem Inv.com_same {g : Gh} {s : St} (h : Inv g s) {e e' : Int} {c c' : List Ent} (h1 : g.com e c) (h2 : g.com e' c') {p : Nat} {x y : Ent} (hx : c[p]? = some x) (hy : c'[p]? = some y) : x = y := by
 by_cases hle : e ≤ e'
 ·have := prefix_get (h.com_le h1 h2 hle) hx
  rw [this] at hy; injection hy
 ·have := prefix_get (h.com_le h2 h1 (by omega)) hy
  rw [this] at hx; injection hx with hx; exact hx.symm
theorem Inv.com_log {g : Gh} {s : St} (h : Inv g s) {e : Int} {c : List Ent} (hc : g.com e c) : onceL c ∧ ∀ x ∈ c,g.asked x := by
 obtain ⟨mems,l0,hcf,rfl⟩ := hc
 unfold Gh.H
 cases hh : g.hist (mems.getLastD 0) e with
 | none => exact ⟨(h.cfg_log hcf).1,(h.cfg_log hcf).2.1⟩
 | some l =>
  obtain ⟨_,_,_,_,q1,q2,_⟩ := h.hist hh
  exact ⟨q1,q2⟩
theorem Fixes.both {g : Gh} {s : St} (h : Inv g s) {fixed : List Fix} (hf : Fixes g fixed) {p q : Nat} {a b : Fix} (ha : fixed[p]? = some a) (hb : fixed[q]? = some b) (hpq : p ≤ q) : ∃ e c,g.com e c ∧ c[p]? = some a.e ∧ c[q]? = some b.e := by
 obtain ⟨c1,h1,h2⟩ := hf p a ha
 obtain ⟨c2,h3,h4⟩ := hf q b hb
 refine ⟨b.epoch,c2,h3, ?_,h4⟩
 have hlt := (List.getElem?_eq_some_iff.1 h4).1
 have hx : c2[p]? = some c2[p] := List.getElem?_eq_getElem (by omega)
 rw [hx,h.com_same h1 h3 h2 hx]
theorem once_at {l : List Ent} (h : onceL l) {p q : Nat} {x y : Ent} (hx : l[p]? = some x) (hy : l[q]? = some y) (hc : x.client = y.client) (hs : x.seq = y.seq) : p = q := by
 obtain ⟨a1,a2⟩ := List.getElem?_eq_some_iff.1 hx
 obtain ⟨b1,b2⟩ := List.getElem?_eq_some_iff.1 hy
 have hp := List.pairwise_iff_getElem.1 h
 rcases Nat.lt_trichotomy p q with r | r | r
 ·have := hp p q a1 b1 r
  rw [a2,b2] at this
  exact absurd ⟨hc,hs⟩ this
 ·exact r
 ·have := hp q p b1 a1 r
  rw [a2,b2] at this
  exact absurd ⟨hc.symm,hs.symm⟩ this
theorem Fixes.once {g : Gh} {s : St} (h : Inv g s) {fixed : List Fix} (hf : Fixes g fixed) {p q : Nat} {a b : Fix} (ha : fixed[p]? = some a) (hb : fixed[q]? = some b) (hc : a.e.client = b.e.client) (hs : a.e.seq = b.e.seq) : p = q := by
 by_cases hpq : p ≤ q
 ·obtain ⟨e,c,h1,h2,h3⟩ := hf.both h ha hb hpq
  exact once_at (h.com_log h1).1 h2 h3 hc hs
 ·obtain ⟨e,c,h1,h2,h3⟩ := hf.both h hb ha (by omega)
  exact (once_at (h.com_log h1).1 h2 h3 hc.symm hs.symm).symm
theorem getD_at {α : Type} {l : List α} {p : Nat} {x d : α} (h : l[p]? = some x) : l.getD p d = x := by rw [List.getD,h]; rfl
theorem commits_ok {g : Gh} {s : St} (h : Inv g s) {i : Int} (hi0 : 0 ≤ i) (hi1 : i < g.n) (fixed : List Fix) (hf : Fixes g fixed) : ∀ k,k ≤ (s.R i).commit →
  Fixes g ((List.range k).foldl (commit1 (s.R i)) (fixed,true)).1 ∧ ((List.range k).foldl (commit1 (s.R i)) (fixed,true)).2 = true ∧
  ((List.range k).foldl (commit1 (s.R i)) (fixed,true)).1.length = max fixed.length k ∧ fixed.map Fix.e <+: ((List.range k).foldl (commit1 (s.R i)) (fixed,true)).1.map Fix.e := by
 obtain ⟨c,hcom,hcm,hpre⟩ := h.rep_com hi0 hi1
 intro k
 induction k with
 | zero => intro _; exact ⟨hf,rfl,by simp,List.prefix_refl _⟩
 | succ k ih =>
  intro hk
  obtain ⟨q1,q2,q3,q4⟩ := ih (by omega)
  rw [List.range_succ,List.foldl_append,List.foldl_cons,List.foldl_nil]
  generalize (List.range k).foldl (commit1 (s.R i)) (fixed,true) = st at *
  obtain ⟨F,ag⟩ := st
  simp only [] at q1 q2 q3 q4
  subst q2
  have hck : c[k]? = some c[k] := List.getElem?_eq_getElem (by omega)
  have hlk : (s.R i).log[k]? = some c[k] := prefix_get hpre hck
  have hl : (s.R i).log.getD k Ent.zero = c[k] := getD_at hlk
  unfold commit1
  by_cases hlt : k < F.length
  ·rw [if_pos hlt]
   have hF : F[k]? = some F[k] := List.getElem?_eq_getElem hlt
   have hg : F.getD k Fix.zero = F[k] := getD_at hF
   obtain ⟨c',h1,h2⟩ := q1 k _ hF
   have he : F[k].e = c[k] := h.com_same h1 hcom h2 hck
   rw [hg,hl]
   refine ⟨?_, ?_, ?_, ?_⟩
   ·show Fixes g (if _ then _ else _)
    split
    ·intro p f hp
     by_cases hpk : k = p
     ·subst hpk
      rw [List.getElem?_set_self hlt] at hp
      injection hp with hp
      subst hp
      exact ⟨c,hcom,by rw [he]; exact hck⟩
     ·rw [List.getElem?_set_ne hpk] at hp
      exact q1 p f hp
    ·exact q1
   ·simp [he]
   ·show (if _ then _ else _ : List Fix).length = _
    split
    ·rw [List.length_set]; omega
    ·omega
   ·show _ <+: (if _ then _ else _ : List Fix).map Fix.e
    split
    ·rw [List.map_set]
     have : (F.map Fix.e).set k F[k].e = F.map Fix.e := by
      apply List.ext_getElem
      ·simp
      ·intro j h1 h2
       rw [List.getElem_set]
       split
       ·rename_i q; subst q; simp
       ·rfl
     rw [this]; exact q4
    ·exact q4
  ·rw [if_neg hlt]
   have hkF : k = F.length := by omega
   rw [hl]
   refine ⟨?_, ?_, ?_, ?_⟩
   ·intro p f hp
    by_cases hpk : p < F.length
    ·exact q1 p f (by rw [List.getElem?_append_left hpk] at hp; exact hp)
    ·have hlt2 := (List.getElem?_eq_some_iff.1 hp).1
     rw [List.length_append,List.length_singleton] at hlt2
     have : p = k := by omega
     subst this
     rw [List.getElem?_append_right (by omega)] at hp
     have hz : p - F.length = 0 := by omega
     have hp' : [(⟨c[p],(s.R i).epoch⟩ : Fix)][p - F.length]? = some f := hp
     rw [hz] at hp'
     injection hp' with hp'
     subst hp'
     exact ⟨c,hcom,hck⟩
   ·show (true && !F.any _) = true
    have : F.any (fun f => isReq c[k] f.e) = false := by
     rw [List.any_eq_false]
     intro f hf' hq
     obtain ⟨j,hj,hje⟩ := List.getElem_of_mem hf'
     have hFj : F[j]? = some f := by rw [List.getElem?_eq_getElem hj,hje]
     obtain ⟨c',h1,h2⟩ := q1 j f hFj
     have hcj : c[j]? = some c[j] := List.getElem?_eq_getElem (by omega)
     have he := h.com_same h1 hcom h2 hcj
     unfold isReq at hq
     simp only [Bool.and_eq_true,decide_eq_true_eq] at hq
     have := once_at (h.com_log hcom).1 hcj hck (by rw [← he]; exact hq.1) (by rw [← he]; exact hq.2)
     omega
    rw [this]; rfl
   ·rw [List.length_append,List.length_singleton]; omega
   ·rw [List.map_append]
    exact q4.trans (List.prefix_append _ _)
theorem commitsOf_ok {g : Gh} {s : St} (h : Inv g s) {i : Int} (hi0 : 0 ≤ i) (hi1 : i < g.n) (fixed : List Fix) (hf : Fixes g fixed) :
  Fixes g (commitsOf (fixed,true) (s.R i)).1 ∧ (commitsOf (fixed,true) (s.R i)).2 = true ∧ (commitsOf (fixed,true) (s.R i)).1.length = max fixed.length (s.R i).commit ∧ fixed.map Fix.e <+: (commitsOf (fixed,true) (s.R i)).1.map Fix.e :=
 commits_ok h hi0 hi1 fixed hf _ (Nat.le_refl _)
theorem holdsOf_ok {g : Gh} {s : St} (h : Inv g s) {i : Int} (hi0 : 0 ≤ i) (hi1 : i < g.n) (fixed : List Fix) (hf : Fixes g fixed) : holdsOf fixed true (s.R i) = true := by
 obtain ⟨c,hcom,hcm,hpre⟩ := h.rep_com hi0 hi1
 unfold holdsOf
 rw [Bool.true_and,List.all_eq_true]
 intro p hp
 rw [List.mem_range] at hp
 have hF : fixed[p]? = some fixed[p] := List.getElem?_eq_getElem hp
 unfold holdsAt
 rw [getD_at hF]
 by_cases he : fixed[p].epoch < (s.R i).epoch
 ·obtain ⟨c',h1,h2⟩ := hf p _ hF
  have hl := prefix_get ((h.com_le h1 hcom (by omega)).trans hpre) h2
  have hlt := (List.getElem?_eq_some_iff.1 hl).1
  rw [getD_at hl]
  simp only [decide_true,Bool.not_true,Bool.or_false]
  have : decide ((s.R i).log.length ≤ p) = false := decide_eq_false (by omega)
  rw [this]; simp
 ·rw [decide_eq_false he]; rfl
end Go.Proofs.YtgieeeeeiggoeaaGreat
