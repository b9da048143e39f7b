import Derived.Test.YtgieeeeeiggoeaaGreatQ10
namespace Go.Proofs.YtgieeeeeiggoeaaGreat
structure PS (n : Nat) (E : Int) (c : Clu) (R : Nat → Rep) (A : Nat → Acc) (mi : Nat) (s : Mas) (ms : List Msg) (t : List Ans) : Prop where
 n5 : n ≤ 5
 mi2 : mi < 2
 E0 : 0 ≤ E ∧ E ≤ 2000
 reps : c.reps = (List.range n).map R
 accs : c.accs = (List.range 3).map A
 mass : c.mass = (List.range 2).map (fun i => if i = mi then s else Mas.still true 0)
 bag : c.bag = framesOf ms
 told : c.told = t
 wfR : ∀ i,i < n → RepWF n E (R i)
 wfA : ∀ i,i < 3 → AccWF n E (A i)
 wfS : MasWF n E s
 wfm : ∀ m ∈ ms,MsgWF n E m
 few : ms.length ≤ 100
theorem PS.first {n : Nat} {E : Int} {c : Clu} {R : Nat → Rep} {A : Nat → Acc} {mi : Nat} {s : Mas} {m : Msg} {ms : List Msg} {t : List Ans} (h : PS n E c R A mi s (m :: ms) t) : (c.deliver 0).1 = ({ c with bag := framesOf ms }).arrive m := by
 have hb := h.bag
 have hb2 : framesOf (m :: ms) = (m.frame,false) :: framesOf ms := rfl
 rw [hb2] at hb
 have hf : c.hasFrame 0 := by unfold Clu.hasFrame; rw [hb]; simp only [List.length_cons]; omega
 have hfa : c.frameAt 0 = (m.frame,false) := by unfold Clu.frameAt; rw [hb]; rfl
 have hg : c.gone 0 = { c with bag := framesOf ms } := by unfold Clu.gone; rw [hb]; rfl
 unfold Clu.deliver
 rw [if_pos hf,hfa]
 simp only []
 rw [msgOf_frame m ((h.wfm m List.mem_cons_self).ok h.n5 h.E0.2)]
 simp only []
 rw [hg]
theorem map_set {α : Type} (f : Nat → α) (n i : Nat) (x : α) : ((List.range n).map f).set i x = (List.range n).map (fun j => if j = i then x else f j) := by
 apply List.ext_getElem?
 intro j
 by_cases hj : j < n
 ·by_cases hij : i = j
  ·subst hij
   rw [List.getElem?_set_self (by simpa using hj),List.getElem?_map,List.getElem?_range hj]
   simp
  ·rw [List.getElem?_set_ne hij,List.getElem?_map,List.getElem?_map,List.getElem?_range hj]
   simp [Ne.symm hij]
 ·rw [List.getElem?_eq_none (by simp; omega),List.getElem?_eq_none (by simp; omega)]
theorem map_get {α : Type} (f : Nat → α) (n i : Nat) (d : α) (h : i < n) : ((List.range n).map f).getD i d = f i := by
 rw [List.getD,List.getElem?_map,List.getElem?_range h]; rfl
theorem frames_two (ms out : List Msg) (h : ms.length + out.length ≤ 200) : (framesOf ms ++ framesOf out).take 200 = framesOf (ms ++ out) := by
 unfold framesOf
 rw [← List.map_append,List.take_of_length_le]
 rw [List.length_map,List.length_append]; exact h
theorem PS.tell {n : Nat} {E : Int} {c : Clu} {R : Nat → Rep} {A : Nat → Acc} {mi : Nat} {s : Mas} {m : Msg} {ms : List Msg} {t : List Ans} (_h : PS n E c R A mi s (m :: ms) t) (hd : m.dst < 300) : ({ c with bag := framesOf ms } : Clu).tell m = { c with bag := framesOf ms } := by
 unfold Clu.tell
 rw [if_neg (by omega)]
theorem PS.toRep {n : Nat} {E : Int} {c : Clu} {R : Nat → Rep} {A : Nat → Acc} {mi : Nat} {s : Mas} {m : Msg} {ms : List Msg} {t : List Ans} (h : PS n E c R A mi s (m :: ms) t) {i : Nat} (hi : i < n) (hd : m.dst = (i : Int)) (hup : (R i).up = true) {r' : Rep} {out : List Msg}
  (ht : (R i).take (i : Int) m = (r',out)) (hl : ms.length + out.length ≤ 100) : PS n E (c.deliver 0).1 (fun j => if j = i then r' else R j) A mi s (ms ++ out) t := by
 have h5 := h.n5
 have hw := repTake_wf (own := (i : Int)) (h.wfR i hi) h5 h.E0.1 ⟨by omega,by omega⟩ (h.wfm m List.mem_cons_self)
 rw [ht] at hw
 rw [h.first]
 unfold Clu.arrive
 rw [h.tell (by omega)]
 have hi2 : ({ c with bag := framesOf ms } : Clu).isRep (i : Int) := by
  show 0 ≤ (i : Int) ∧ (i : Int) < c.reps.length
  rw [h.reps]; simp; omega
 have hr : ({ c with bag := framesOf ms } : Clu).rep (i : Int) = R i := by
  show c.reps.getD (i : Int).toNat _ = _
  rw [h.reps,Int.toNat_natCast,map_get _ _ _ _ hi]
 have hupO : ({ c with bag := framesOf ms } : Clu).upOf m.dst = some true := by
  unfold Clu.upOf
  rw [hd,if_pos hi2,hr,hup]
 unfold Clu.takes
 rw [if_pos hupO,hd,if_pos hi2,hr,ht]
 exact
  {n5 := h5,mi2 := h.mi2,E0 := h.E0
   reps := by show c.reps.set (i : Int).toNat r' = _; rw [h.reps,Int.toNat_natCast,map_set]
   accs := h.accs,mass := h.mass,told := h.told
   bag := frames_two ms out (by omega)
   wfR := by
    intro j hj
    split
    ·exact hw.1
    ·exact h.wfR j hj
   wfA := h.wfA,wfS := h.wfS
   wfm := by
    intro x hx
    rcases List.mem_append.1 hx with q | q
    ·exact h.wfm x (List.mem_cons_of_mem _ q)
    ·exact hw.2 x q
   few := by rw [List.length_append]; exact hl }
theorem PS.toAcc {n : Nat} {E : Int} {c : Clu} {R : Nat → Rep} {A : Nat → Acc} {mi : Nat} {s : Mas} {m : Msg} {ms : List Msg} {t : List Ans} (h : PS n E c R A mi s (m :: ms) t) {i : Nat} (hi : i < 3) (hd : m.dst = 100 + (i : Int)) (hup : (A i).up = true) {a' : Acc} {out : List Msg}
  (ht : (A i).take m = (a',out)) (hl : ms.length + out.length ≤ 100) : PS n E (c.deliver 0).1 R (fun j => if j = i then a' else A j) mi s (ms ++ out) t := by
 have h5 := h.n5
 have hw := accTake_wf (h.wfA i hi) (h.wfm m List.mem_cons_self)
 rw [ht] at hw
 rw [h.first]
 unfold Clu.arrive
 rw [h.tell (by omega)]
 have hi2 : ¬ ({ c with bag := framesOf ms } : Clu).isRep m.dst := by
  show ¬ (0 ≤ m.dst ∧ m.dst < c.reps.length)
  rw [h.reps]; simp; omega
 have hia : isAcc m.dst := by unfold isAcc; omega
 have hr : ({ c with bag := framesOf ms } : Clu).acc m.dst = A i := by
  show c.accs.getD (m.dst - 100).toNat _ = _
  rw [h.accs,show (m.dst - 100).toNat = i by omega,map_get _ _ _ _ hi]
 have hupO : ({ c with bag := framesOf ms } : Clu).upOf m.dst = some true := by
  unfold Clu.upOf
  rw [if_neg hi2,if_pos hia,hr,hup]
 unfold Clu.takes
 rw [if_pos hupO,if_neg hi2,if_pos hia,hr,ht]
 exact
  {n5 := h5,mi2 := h.mi2,E0 := h.E0
   reps := h.reps,mass := h.mass,told := h.told
   accs := by show c.accs.set (m.dst - 100).toNat a' = _; rw [h.accs,show (m.dst - 100).toNat = i by omega,map_set]
   bag := frames_two ms out (by omega)
   wfR := h.wfR,wfS := h.wfS
   wfA := by
    intro j hj
    split
    ·exact hw.1
    ·exact h.wfA j hj
   wfm := by
    intro x hx
    rcases List.mem_append.1 hx with q | q
    ·exact h.wfm x (List.mem_cons_of_mem _ q)
    ·exact hw.2 x q
   few := by rw [List.length_append]; exact hl }
theorem PS.toMas {n : Nat} {E : Int} {c : Clu} {R : Nat → Rep} {A : Nat → Acc} {mi : Nat} {s : Mas} {m : Msg} {ms : List Msg} {t : List Ans} (h : PS n E c R A mi s (m :: ms) t) (hd : m.dst = 200 + (mi : Int)) (hup : s.up = true) {s' : Mas} {out : List Msg}
  (ht : s.take m = (s',out)) (hl : ms.length + out.length ≤ 100) (hE : E + s.reads ≤ 2000) : PS n (E + s.reads - s'.reads) (c.deliver 0).1 R A mi s' (ms ++ out) t := by
 have h5 := h.n5
 have hm2 := h.mi2
 have hw := masTake_wf h.wfS h5 h.E0.1 (h.wfm m List.mem_cons_self)
 rw [ht] at hw
 obtain ⟨w1,w2,w3,w4⟩ := hw
 dsimp only at w1 w2 w3 w4
 have hr1 := reads_range s'
 have h0 := h.E0
 rw [h.first]
 unfold Clu.arrive
 rw [h.tell (by omega)]
 have hi2 : ¬ ({ c with bag := framesOf ms } : Clu).isRep m.dst := by
  show ¬ (0 ≤ m.dst ∧ m.dst < c.reps.length)
  rw [h.reps]; simp; omega
 have hia : ¬ isAcc m.dst := by unfold isAcc; omega
 have him : isMas m.dst := by unfold isMas; omega
 have hr : ({ c with bag := framesOf ms } : Clu).mas m.dst = s := by
  show c.mass.getD (m.dst - 200).toNat _ = _
  rw [h.mass,show (m.dst - 200).toNat = mi by omega,map_get _ _ _ _ hm2,if_pos rfl]
 have hupO : ({ c with bag := framesOf ms } : Clu).upOf m.dst = some true := by
  unfold Clu.upOf
  rw [if_neg hi2,if_neg hia,if_pos him,hr,hup]
 unfold Clu.takes
 rw [if_pos hupO,if_neg hi2,if_neg hia,hr,ht]
 exact
  {n5 := h5,mi2 := hm2,E0 := ⟨by omega,by omega⟩
   reps := h.reps,accs := h.accs,told := h.told
   mass := by
    show c.mass.set (m.dst - 200).toNat s' = _
    rw [h.mass,show (m.dst - 200).toNat = mi by omega,map_set]
    apply List.map_congr_left
    intro j _
    split <;> rfl
   bag := frames_two ms out (by omega)
   wfR := fun i hi => (h.wfR i hi).mono (by omega)
   wfA := fun i hi => (h.wfA i hi).mono (by omega)
   wfS := w1
   wfm := by
    intro x hx
    rcases List.mem_append.1 hx with q | q
    ·exact (h.wfm x (List.mem_cons_of_mem _ q)).mono (by omega)
    ·exact w4 x q
   few := by rw [List.length_append]; exact hl }
def Goes (C : Nat) (c c' : Clu) (k : Nat) : Prop := delivers k c = c' ∧ (∀ j,j < k → (delivers j c).bag.length ≠ 0) ∧ ∀ j,j ≤ k → ∀ x ∈ (delivers j c).reps,x.commit ≤ C
theorem Goes.refl {C : Nat} {c : Clu} (hc : ∀ x ∈ c.reps,x.commit ≤ C) : Goes C c c 0 :=
 ⟨rfl,fun j hj => (by omega),fun j hj => by
  have : j = 0 := by omega
  subst this
  exact hc⟩
theorem Goes.step {C : Nat} {c c' : Clu} {k : Nat} (hb : c.bag.length ≠ 0) (hc : ∀ x ∈ c.reps,x.commit ≤ C) (h : Goes C (c.deliver 0).1 c' k) : Goes C c c' (k + 1) := by
 refine ⟨h.1, ?_, ?_⟩
 ·intro j hj
  cases j with
  | zero => exact hb
  | succ j => exact h.2.1 j (by omega)
 ·intro j hj
  cases j with
  | zero => exact hc
  | succ j => exact h.2.2 j (by omega)
theorem Goes.trans {C : Nat} {c c1 c2 : Clu} {k1 : Nat} : ∀ {k : Nat},Goes C c c1 k → Goes C c1 c2 k1 → Goes C c c2 (k + k1) := by
 intro k h1 h2
 obtain ⟨a1,a2,a3⟩ := h1
 obtain ⟨b1,b2,b3⟩ := h2
 have key : ∀ j,delivers (k + j) c = delivers j c1 := by intro j; rw [delivers_add,a1]
 refine ⟨by rw [key,b1], ?_, ?_⟩
 ·intro j hj
  by_cases q : j < k
  ·exact a2 j q
  ·have := b2 (j - k) (by omega)
   rw [← key,show k + (j - k) = j by omega] at this
   exact this
 ·intro j hj
  by_cases q : j < k
  ·exact a3 j (by omega)
  ·have := b3 (j - k) (by omega)
   rw [← key,show k + (j - k) = j by omega] at this
   exact this
theorem PS.ne {n : Nat} {E : Int} {c : Clu} {R : Nat → Rep} {A : Nat → Acc} {mi : Nat} {s : Mas} {m : Msg} {ms : List Msg} {t : List Ans} (h : PS n E c R A mi s (m :: ms) t) : c.bag.length ≠ 0 := by
 rw [h.bag]; unfold framesOf; simp
theorem PS.cap {n : Nat} {E : Int} {c : Clu} {R : Nat → Rep} {A : Nat → Acc} {mi : Nat} {s : Mas} {ms : List Msg} {t : List Ans} (h : PS n E c R A mi s ms t) {C : Nat} (hC : ∀ i,i < n → (R i).commit ≤ C) : ∀ x ∈ c.reps,x.commit ≤ C := by
 intro x hx
 rw [h.reps] at hx
 simp only [List.mem_map,List.mem_range] at hx
 obtain ⟨i,hi,rfl⟩ := hx
 exact hC i hi
theorem PS.acc3 {n : Nat} {E : Int} {c : Clu} {R : Nat → Rep} {A A' : Nat → Acc} {mi : Nat} {s : Mas} {M O : Nat → Msg} {rest : List Msg} {t : List Ans} {C : Nat} (h : PS n E c R A mi s ([M 0,M 1,M 2] ++ rest) t) (hd : ∀ i,i < 3 → (M i).dst = 100 + (i : Int)) (hup : ∀ i,i < 3 → (A i).up = true)
  (ht : ∀ i,i < 3 → (A i).take (M i) = (A' i, [O i])) (hl : rest.length ≤ 90) (hC : ∀ i,i < n → (R i).commit ≤ C) : ∃ c',Goes C c c' 3 ∧ PS n E c' R A' mi s (rest ++ [O 0,O 1,O 2]) t := by
 have h1 := h.toAcc (i := 0) (by omega) (hd 0 (by omega)) (hup 0 (by omega)) (ht 0 (by omega)) (by simp; omega)
 have h2 := PS.toAcc (m := M 1) (ms := M 2 :: rest ++ [O 0]) (by simpa using h1) (i := 1) (by omega) (hd 1 (by omega)) (by simpa using hup 1 (by omega)) (by simpa using ht 1 (by omega)) (by simp; omega)
 have h3 := PS.toAcc (m := M 2) (ms := rest ++ [O 0] ++ [O 1]) (by simpa using h2) (i := 2) (by omega) (hd 2 (by omega)) (by simpa using hup 2 (by omega)) (by simpa using ht 2 (by omega)) (by simp; omega)
 refine ⟨_,((Goes.step h.ne (h.cap hC) (Goes.step (PS.ne (m := M 1) (ms := M 2 :: rest ++ [O 0]) (by simpa using h1)) (h1.cap hC) (Goes.step (PS.ne (m := M 2) (ms := rest ++ [O 0] ++ [O 1]) (by simpa using h2)) (h2.cap hC) (Goes.refl (h3.cap hC)))))), ?_⟩
 have e : (fun j => if j = 2 then A' 2 else if j = 1 then A' 1 else if j = 0 then A' 0 else A j) = fun j => if j < 3 then A' j else A j := by
  funext j
  by_cases h2 : j = 2
  ·subst h2; simp
  ·by_cases h1 : j = 1
   ·subst h1; simp
   ·by_cases h0 : j = 0
    ·subst h0; simp
    ·rw [if_neg h2,if_neg h1,if_neg h0,if_neg (by omega)]
 rw [e] at h3
 exact { h3 with
  accs := by
   rw [h3.accs]
   apply List.map_congr_left
   intro j hj
   rw [List.mem_range] at hj
   rw [if_pos hj]
  bag := by rw [h3.bag]; simp
  wfA := by
   intro i hi
   have := h3.wfA i hi
   rw [if_pos hi] at this
   exact this
  wfm := by
   have := h3.wfm
   simpa using this
  few := by simp; omega }
theorem PS.mas3 {n : Nat} {E E' : Int} {c : Clu} {R : Nat → Rep} {A : Nat → Acc} {mi : Nat} {s s1 s2 : Mas} {M : Nat → Msg} {rest out : List Msg} {t : List Ans} {C : Nat} (h : PS n E c R A mi s ([M 0,M 1,M 2] ++ rest) t) (hd : ∀ i,i < 3 → (M i).dst = 200 + (mi : Int))
  (u0 : s.up = true) (u1 : s1.up = true) (u2 : s2.up = true) (t0 : s.take (M 0) = (s1, [])) (t1 : s1.take (M 1) = (s2,out)) (t2 : s2.take (M 2) = (s2, [])) (r1 : s1.reads = s.reads) (r2 : s2.reads = 0) (hE : E' = E + s.reads) (hE2 : E + s.reads ≤ 2000)
  (hl : rest.length + out.length ≤ 90) (hC : ∀ i,i < n → (R i).commit ≤ C) : ∃ c',Goes C c c' 3 ∧ PS n E' c' R A mi s2 (rest ++ out) t := by
 have h1 := h.toMas (hd 0 (by omega)) u0 t0 (by simp; omega) hE2
 rw [r1,show E + s.reads - s.reads = E by omega] at h1
 have h2 := PS.toMas (m := M 1) (ms := M 2 :: rest) (by simpa using h1) (hd 1 (by omega)) u1 t1 (by simp; omega) (by omega)
 rw [r1,r2,show E + s.reads - 0 = E + s.reads by omega] at h2
 have h3 := PS.toMas (m := M 2) (ms := rest ++ out) (by simpa using h2) (hd 2 (by omega)) u2 t2 (by simp; omega) (by rw [r2]; omega)
 rw [r2,show E + s.reads + 0 - 0 = E' by omega] at h3
 exact ⟨_,Goes.step h.ne (h.cap hC) (Goes.step (PS.ne (m := M 1) (ms := M 2 :: rest) (by simpa using h1)) (h1.cap hC) (Goes.step (PS.ne (m := M 2) (ms := rest ++ out) (by simpa using h2)) (h2.cap hC) (Goes.refl (h3.cap hC)))),by simpa using h3⟩
theorem PS.masNone {n : Nat} {E : Int} {R : Nat → Rep} {A : Nat → Acc} {mi : Nat} {s : Mas} {t : List Ans} {C : Nat} (u : s.up = true) (hr : s.reads = 0) (hC : ∀ i,i < n → (R i).commit ≤ C) : ∀ (ms rest : List Msg) {c : Clu},PS n E c R A mi s (ms ++ rest) t → (∀ m ∈ ms,m.dst = 200 + (mi : Int) ∧ s.take m = (s, [])) → ms.length + rest.length ≤ 90 →
  ∃ c',Goes C c c' ms.length ∧ PS n E c' R A mi s rest t := by
 intro ms
 induction ms with
 | nil => intro rest c h _ _; exact ⟨c,Goes.refl (h.cap hC),h⟩
 | cons m ms ih =>
  intro rest c h hm hl
  obtain ⟨d1,d2⟩ := hm m List.mem_cons_self
  have hl' : ms.length + 1 + rest.length ≤ 90 := by simpa using hl
  have h1 := PS.toMas (m := m) (ms := ms ++ rest) h d1 u d2 (by simp; omega) (by rw [hr]; have := h.E0; omega)
  rw [hr,show E + 0 - 0 = E by omega,List.append_nil] at h1
  obtain ⟨c',g1,g2⟩ := ih rest h1 (fun x hx => hm x (List.mem_cons_of_mem _ hx)) (by omega)
  exact ⟨c',Goes.step (PS.ne (m := m) (ms := ms ++ rest) h) (h.cap hC) g1,g2⟩
theorem PS.repsN {n : Nat} {E : Int} {A : Nat → Acc} {mi : Nat} {s : Mas} {t : List Ans} {C : Nat} (M O : Nat → Msg) (R' : Nat → Rep) (hd : ∀ i,(M i).dst = (i : Int)) (hC' : ∀ i,i < n → (R' i).commit ≤ C) : ∀ (xs : List Nat) (R : Nat → Rep) (rest : List Msg) {c : Clu},xs.Nodup → (∀ i ∈ xs,i < n) → PS n E c R A mi s (xs.map M ++ rest) t →
  (∀ i ∈ xs,(R i).up = true ∧ (R i).take (i : Int) (M i) = (R' i, [O i])) → (∀ i,i < n → (R i).commit ≤ C) → xs.length + rest.length ≤ 90 →
  ∃ c',Goes C c c' xs.length ∧ PS n E c' (fun j => if j ∈ xs then R' j else R j) A mi s (rest ++ xs.map O) t := by
 intro xs
 induction xs with
 | nil =>
  intro R rest c _ _ h _ hC _
  refine ⟨c,Goes.refl (h.cap hC), ?_⟩
  simpa using h
 | cons i xs ih =>
  intro R rest c hnd hn h ht hC hl
  rw [List.nodup_cons] at hnd
  obtain ⟨u,t1⟩ := ht i List.mem_cons_self
  have hin := hn i List.mem_cons_self
  have hl' : xs.length + 1 + rest.length ≤ 90 := by simpa using hl
  have h1 := PS.toRep (m := M i) (ms := xs.map M ++ rest) (by simpa using h) hin (hd i) u t1 (by simp; omega)
  have hC2 : ∀ j,j < n → ((fun j => if j = i then R' i else R j) j).commit ≤ C := by
   intro j hj
   show (if j = i then R' i else R j).commit ≤ C
   split
   ·exact hC' i hin
   ·exact hC j hj
  obtain ⟨c',g1,g2⟩ := ih (fun j => if j = i then R' i else R j) (rest ++ [O i]) hnd.2 (fun j hj => hn j (List.mem_cons_of_mem _ hj)) (by simpa using h1) (by
   intro j hj
   have hji : j ≠ i := fun e => hnd.1 (e ▸ hj)
   show (if j = i then R' i else R j).up = true ∧ (if j = i then R' i else R j).take (j : Int) (M j) = _
   rw [if_neg hji]
   exact ht j (List.mem_cons_of_mem _ hj)) hC2 (by simp; omega)
  refine ⟨c',Goes.step (PS.ne (m := M i) (ms := xs.map M ++ rest) (by simpa using h)) (h.cap hC) g1, ?_⟩
  have e : (fun j => if j ∈ xs then R' j else (fun j => if j = i then R' i else R j) j) = fun j => if j ∈ i :: xs then R' j else R j := by
   funext j
   by_cases hx : j ∈ xs
   ·rw [if_pos hx,if_pos (List.mem_cons_of_mem _ hx)]
   ·rw [if_neg hx]
    show (if j = i then R' i else R j) = _
    by_cases hj : j = i
    ·subst hj; rw [if_pos rfl,if_pos List.mem_cons_self]
    ·rw [if_neg hj,if_neg (by rw [List.mem_cons]; rintro (q | q); exact hj q; exact hx q)]
  rw [e] at g2
  simpa using g2
structure MP where
 n : Nat
 mi : Nat
 L : List Ent
 l : List Int
def MP.m (p : MP) : Int := 200 + (p.mi : Int)
def MP.b (p : MP) : Int := 2 + (p.mi : Int)
def MP.rd (p : MP) (i : Nat) : Msg := { kind := 5,src := p.m,dst := 100 + (i : Int),ballot := p.b }
def MP.rg (p : MP) (i : Nat) : Msg := { kind := 6,src := 100 + (i : Int),dst := p.m,epoch := 0,ballot := p.b,mems := firstInts p.n }
def MP.sl (p : MP) (i : Nat) : Msg := { kind := 7,src := p.m,dst := (i : Int),epoch := 1,ballot := p.b }
def MP.sd (p : MP) (i : Nat) : Msg := { kind := 8,src := (i : Int),dst := p.m,epoch := 1,ballot := p.b,log := p.L }
def MP.pp (p : MP) (i : Nat) : Msg := { kind := 9,src := p.m,dst := 100 + (i : Int),epoch := 1,ballot := p.b }
def MP.pm (p : MP) (i : Nat) : Msg := { kind := 10,src := 100 + (i : Int),dst := p.m,epoch := 1,ballot := p.b,vote := -1 }
def MP.ac (p : MP) (i : Nat) : Msg := { kind := 11,src := p.m,dst := 100 + (i : Int),epoch := 1,ballot := p.b,mems := p.l,log := p.L }
def MP.ad (p : MP) (i : Nat) : Msg := { kind := 12,src := 100 + (i : Int),dst := p.m,epoch := 1,ballot := p.b }
def MP.il (p : MP) (i : Nat) : Msg := { kind := 13,src := p.m,dst := (i : Int),epoch := 1,mems := p.l,log := p.L }
def MP.id (p : MP) (i : Nat) : Msg := { kind := 14,src := (i : Int),dst := p.m,epoch := 1 }
def MP.wr (p : MP) (i : Nat) : Msg := { kind := 15,src := p.m,dst := 100 + (i : Int),epoch := 1,mems := p.l }
def MP.wn (p : MP) (i : Nat) : Msg := { kind := 16,src := 100 + (i : Int),dst := p.m,epoch := 1 }
def MP.s (p : MP) (does : Nat) (epoch : Int) (old mems : List Int) (log : List Ent) (came : List Msg) : Mas :=
 {up := true,begun := 1,does := does,epoch := epoch,ballot := p.b,want := p.l,old := old,mems := mems,log := log,came := came }
def MP.calm (p : MP) : Rep := ⟨true,0,0,firstInts p.n,p.L,0,p.L.length⟩
def MP.shut (p : MP) : Rep := ⟨true,0,1,firstInts p.n,p.L,0,p.L.length⟩
def MP.anew (p : MP) : Rep := ⟨true,1,1,p.l,p.L,p.L.length,p.L.length⟩
def MP.a0 (p : MP) : Acc := Acc.first p.n
def MP.a1 (p : MP) : Acc := { p.a0 with votes := upd (fun _ => AVote.none) 1 ⟨p.b, -1, [], []⟩ }
def MP.a2 (p : MP) : Acc := { p.a0 with votes := upd p.a1.votes 1 ⟨p.b,p.b,p.l,p.L⟩ }
def MP.a3 (p : MP) : Acc := { p.a2 with epoch := 1,mems := p.l }
theorem MP.rd_take (p : MP) (i : Nat) : p.a0.take (p.rd i) = (p.a0, [p.rg i]) := rfl
theorem MP.pp_take (p : MP) (i : Nat) : p.a0.take (p.pp i) = (p.a1, [p.pm i]) := by
 unfold Acc.take
 rw [if_neg (by show ¬ (9 : Int) = 5; decide),if_pos (show (p.pp i).kind = 9 from rfl),if_neg (by show ¬ p.b < -1; unfold MP.b; omega)]
 rfl
theorem MP.ac_take (p : MP) (i : Nat) : p.a1.take (p.ac i) = (p.a2, [p.ad i]) := by
 unfold Acc.take
 rw [if_neg (by show ¬ (11 : Int) = 5; decide),if_neg (by show ¬ (11 : Int) = 9; decide),if_pos (show (p.ac i).kind = 11 from rfl),if_neg (by show ¬ p.b < p.b; omega)]
 rfl
theorem MP.wr_take (p : MP) (i : Nat) : p.a2.take (p.wr i) = (p.a3, [p.wn i]) := by
 unfold Acc.take
 rw [if_neg (by show ¬ (15 : Int) = 5; decide),if_neg (by show ¬ (15 : Int) = 9; decide),if_neg (by show ¬ (15 : Int) = 11; decide),if_pos (show (p.wr i).kind = 15 from rfl),if_pos (by show (0 : Int) < 1; decide)]
 rfl
theorem MP.sl_take (p : MP) (i : Nat) : p.calm.take (i : Int) (p.sl i) = (p.shut, [p.sd i]) := by
 unfold Rep.take
 rw [if_neg (by show ¬ (7 : Int) = 1; decide),if_neg (by show ¬ (7 : Int) = 2; decide),if_neg (by show ¬ (7 : Int) = 3; decide),if_pos (show (p.sl i).kind = 7 from rfl)]
 unfold Rep.takeSeal
 rw [if_neg (by show ¬ (0 : Int) + 1 < 1; decide),if_pos (by show (1 : Int) = 0 + 1; decide)]
 rfl
theorem MP.il_take (p : MP) (i : Nat) : p.shut.take (i : Int) (p.il i) = (p.anew, [p.id i]) := by
 unfold Rep.take
 rw [if_neg (by show ¬ (13 : Int) = 1; decide),if_neg (by show ¬ (13 : Int) = 2; decide),if_neg (by show ¬ (13 : Int) = 3; decide),if_neg (by show ¬ (13 : Int) = 7; decide),if_pos (show (p.il i).kind = 13 from rfl)]
 unfold Rep.takeInstall
 rw [if_pos (by show (0 : Int) < 1; decide)]
 rfl
theorem fits_mk {s : Mas} {m : Msg} (h1 : s.does ≠ 0) (h2 : m.kind = 4 + 2 * (s.does : Int)) (h3 : s.does = 1 ∨ m.epoch = s.epoch) (h4 : 5 ≤ s.does ∨ m.ballot = s.ballot) (h5 : m.src ∈ s.all) (h6 : ∀ x ∈ s.came,x.src ≠ m.src) : s.fits m = true := by
 unfold Mas.fits Mas.cameFrom
 simp only [Bool.and_eq_true,Bool.or_eq_true,decide_eq_true_eq,Bool.not_eq_true',List.any_eq_false]
 exact ⟨⟨⟨⟨⟨h1,h2⟩,h3⟩,h4⟩,h5⟩,fun x hx => h6 x hx⟩
theorem no_fit {s : Mas} {m : Msg} (h : m.kind ≠ 4 + 2 * (s.does : Int) ∨ s.does = 0) : s.take m = (s, []) := by
 unfold Mas.take
 rw [if_neg]
 intro q
 obtain ⟨q1,q2,_⟩ := fits_iff q
 rcases h with h | h
 ·exact h q2
 ·exact q1 h
theorem MP.t1 (p : MP) : (p.s 1 0 [] [] [] []).take (p.rg 0) = (p.s 1 0 [] [] [] [p.rg 0], []) := by
 unfold Mas.take
 rw [if_pos (fits_mk (by show 1 ≠ 0; decide) rfl (.inl rfl) (.inr rfl) (by show (100 : Int) + (0 : Nat) ∈ [(100 : Int),101,102]; decide) (fun x hx => by cases hx))]
 rfl
theorem MP.t2 (p : MP) : (p.s 1 0 [] [] [] [p.rg 0]).take (p.rg 1) = (p.s 2 1 (firstInts p.n) [] [] [],(List.range p.n).map p.sl) := by
 unfold Mas.take
 rw [if_pos (fits_mk (by show 1 ≠ 0; decide) rfl (.inl rfl) (.inr rfl) (by show (100 : Int) + (1 : Nat) ∈ [(100 : Int),101,102]; decide) (fun x hx => by
  rw [List.mem_singleton.1 hx]; show ¬ (100 : Int) + (0 : Nat) = 100 + (1 : Nat); decide))]
 show Mas.onward { p.s 1 0 [] [] [] [p.rg 0] with epoch := 1,old := firstInts p.n } p.m = _
 unfold Mas.onward
 refine Prod.ext rfl ?_
 show Mas.asks (p.s 2 1 (firstInts p.n) [] [] []) p.m = _
 unfold Mas.asks
 have : (p.s 2 1 (firstInts p.n) [] [] []).all.filter (fun x => !(p.s 2 1 (firstInts p.n) [] [] []).cameFrom x) = firstInts p.n := by
  show (firstInts p.n).filter (fun x => !(p.s 2 1 (firstInts p.n) [] [] []).cameFrom x) = firstInts p.n
  rw [List.filter_eq_self]
  intro x _
  rfl
 rw [this]
 unfold firstInts
 rw [List.map_map]
 rfl
theorem MP.t3 (p : MP) (h : 1 ≤ p.n) : (p.s 2 1 (firstInts p.n) [] [] []).take (p.sd 0) = (p.s 3 1 (firstInts p.n) [] p.L [], [p.pp 0,p.pp 1,p.pp 2]) := by
 unfold Mas.take
 rw [if_pos (fits_mk (by show 2 ≠ 0; decide) rfl (.inr rfl) (.inr rfl) (by show ((0 : Nat) : Int) ∈ firstInts p.n; exact mem_firstInts (by omega) (by omega)) (fun x hx => by cases hx))]
 rfl
theorem MP.t4 (p : MP) : (p.s 3 1 (firstInts p.n) [] p.L []).take (p.pm 0) = (p.s 3 1 (firstInts p.n) [] p.L [p.pm 0], []) := by
 unfold Mas.take
 rw [if_pos (fits_mk (by show 3 ≠ 0; decide) rfl (.inr rfl) (.inr rfl) (by show (100 : Int) + (0 : Nat) ∈ [(100 : Int),101,102]; decide) (fun x hx => by cases hx))]
 rfl
theorem MP.t5 (p : MP) : (p.s 3 1 (firstInts p.n) [] p.L [p.pm 0]).take (p.pm 1) = (p.s 4 1 (firstInts p.n) p.l p.L [], [p.ac 0,p.ac 1,p.ac 2]) := by
 unfold Mas.take
 rw [if_pos (fits_mk (by show 3 ≠ 0; decide) rfl (.inr rfl) (.inr rfl) (by show (100 : Int) + (1 : Nat) ∈ [(100 : Int),101,102]; decide) (fun x hx => by
  rw [List.mem_singleton.1 hx]; show ¬ (100 : Int) + (0 : Nat) = 100 + (1 : Nat); decide))]
 rfl
theorem MP.t6 (p : MP) : (p.s 4 1 (firstInts p.n) p.l p.L []).take (p.ad 0) = (p.s 4 1 (firstInts p.n) p.l p.L [p.ad 0], []) := by
 unfold Mas.take
 rw [if_pos (fits_mk (by show 4 ≠ 0; decide) rfl (.inr rfl) (.inr rfl) (by show (100 : Int) + (0 : Nat) ∈ [(100 : Int),101,102]; decide) (fun x hx => by cases hx))]
 rfl
def MP.xs (p : MP) : List Nat := p.l.map Int.toNat
theorem MP.xs_l (p : MP) (h : memsOk p.l p.n = true) : p.xs.map (fun i : Nat => (i : Int)) = p.l := by
 unfold MP.xs
 rw [List.map_map]
 have h1 := ((memsOk_iff _ _).1 h).1
 conv => rhs; rw [← List.map_id p.l]
 apply List.map_congr_left
 intro x hx
 have := h1 x hx
 show ((x.toNat : Nat) : Int) = x
 omega
theorem MP.t7 (p : MP) (h : memsOk p.l p.n = true) : (p.s 4 1 (firstInts p.n) p.l p.L [p.ad 0]).take (p.ad 1) = (p.s 5 1 (firstInts p.n) p.l p.L [],p.xs.map p.il) := by
 unfold Mas.take
 rw [if_pos (fits_mk (by show 4 ≠ 0; decide) rfl (.inr rfl) (.inr rfl) (by show (100 : Int) + (1 : Nat) ∈ [(100 : Int),101,102]; decide) (fun x hx => by
  rw [List.mem_singleton.1 hx]; show ¬ (100 : Int) + (0 : Nat) = 100 + (1 : Nat); decide))]
 show Mas.onward (p.s 4 1 (firstInts p.n) p.l p.L [p.ad 0]) p.m = _
 unfold Mas.onward
 refine Prod.ext rfl ?_
 show Mas.asks (p.s 5 1 (firstInts p.n) p.l p.L []) p.m = _
 unfold Mas.asks
 have : (p.s 5 1 (firstInts p.n) p.l p.L []).all.filter (fun x => !(p.s 5 1 (firstInts p.n) p.l p.L []).cameFrom x) = p.l := by
  show p.l.filter (fun x => !(p.s 5 1 (firstInts p.n) p.l p.L []).cameFrom x) = p.l
  rw [List.filter_eq_self]
  intro x _
  rfl
 rw [this]
 generalize hf : (p.s 5 1 (firstInts p.n) p.l p.L []).ask p.m = f
 have h2 : p.l.map f = (p.xs.map (fun i : Nat => (i : Int))).map f := by rw [p.xs_l h]
 rw [h2,List.map_map, ← hf]
 rfl
theorem MP.xs_nodup (p : MP) (h : memsOk p.l p.n = true) : p.xs.Nodup := by
 have h1 := ((memsOk_iff _ _).1 h)
 unfold MP.xs
 unfold List.Nodup
 rw [List.pairwise_map]
 refine List.Pairwise.imp_of_mem ?_ h1.2.1
 intro a b ha hb hab e
 have := h1.1 a ha
 have := h1.1 b hb
 exact hab (by omega)
theorem MP.xs_lt (p : MP) (h : memsOk p.l p.n = true) : ∀ i ∈ p.xs,i < p.n := by
 intro i hi
 unfold MP.xs at hi
 simp only [List.mem_map] at hi
 obtain ⟨x,hx,rfl⟩ := hi
 have := ((memsOk_iff _ _).1 h).1 x hx
 omega
theorem MP.xs_mem (p : MP) (h : memsOk p.l p.n = true) {i : Nat} (hi : i ∈ p.xs) : (i : Int) ∈ p.l := by
 unfold MP.xs at hi
 simp only [List.mem_map] at hi
 obtain ⟨x,hx,rfl⟩ := hi
 have := ((memsOk_iff _ _).1 h).1 x hx
 rw [show ((x.toNat : Nat) : Int) = x by omega]
 exact hx
theorem MP.t8 (p : MP) (h : memsOk p.l p.n = true) (pre : List Nat) (i : Nat) (post : List Nat) (hx : p.xs = pre ++ i :: post) :
  (p.s 5 1 (firstInts p.n) p.l p.L (pre.map p.id)).take (p.id i) = if post = [] then (p.s 6 1 (firstInts p.n) p.l p.L [], [p.wr 0,p.wr 1,p.wr 2]) else (p.s 5 1 (firstInts p.n) p.l p.L ((pre ++ [i]).map p.id), []) := by
 have hnd := p.xs_nodup h
 rw [hx] at hnd
 have hni : i ∉ pre := by
  intro q
  unfold List.Nodup at hnd
  rw [List.pairwise_append] at hnd
  exact hnd.2.2 i q i List.mem_cons_self rfl
 have hlen : p.l.length = pre.length + 1 + post.length := by
  have : p.xs.length = p.l.length := by unfold MP.xs; simp
  rw [hx] at this
  simp at this
  omega
 unfold Mas.take
 rw [if_pos (fits_mk (by show 5 ≠ 0; decide) rfl (.inr rfl) (.inl (by show 5 ≤ 5; decide)) (by
  show (i : Int) ∈ p.l
  exact p.xs_mem h (by rw [hx]; simp)) (fun x hxm => by
   have hxm' : x ∈ pre.map p.id := hxm
   simp only [List.mem_map] at hxm'
   obtain ⟨j,hj,rfl⟩ := hxm'
   show ¬ (j : Int) = (i : Int)
   intro e
   have : j = i := by omega
   exact hni (this ▸ hj)))]
 show (if (pre.map p.id).length + 1 < p.l.length then _ else _) = _
 rw [List.length_map]
 by_cases hp : post = []
 ·rw [if_pos hp,if_neg (by rw [hlen,hp]; simp)]
  rfl
 ·have : 0 < post.length := List.length_pos_iff.2 hp
  rw [if_neg hp,if_pos (by omega),List.map_append]
  rfl
theorem MP.t9 (p : MP) : (p.s 6 1 (firstInts p.n) p.l p.L []).take (p.wn 0) = (p.s 6 1 (firstInts p.n) p.l p.L [p.wn 0], []) := by
 unfold Mas.take
 rw [if_pos (fits_mk (by show 6 ≠ 0; decide) rfl (.inr rfl) (.inl (by show 5 ≤ 6; decide)) (by show (100 : Int) + (0 : Nat) ∈ [(100 : Int),101,102]; decide) (fun x hx => by cases hx))]
 rfl
theorem MP.t10 (p : MP) : (p.s 6 1 (firstInts p.n) p.l p.L [p.wn 0]).take (p.wn 1) = (p.s 0 1 (firstInts p.n) p.l p.L [], []) := by
 unfold Mas.take
 rw [if_pos (fits_mk (by show 6 ≠ 0; decide) rfl (.inr rfl) (.inl (by show 5 ≤ 6; decide)) (by show (100 : Int) + (1 : Nat) ∈ [(100 : Int),101,102]; decide) (fun x hx => by
  rw [List.mem_singleton.1 hx]; show ¬ (100 : Int) + (0 : Nat) = 100 + (1 : Nat); decide))]
 rfl
end Go.Proofs.YtgieeeeeiggoeaaGreat
