import Derived.Test.YtgieeeeeiggoeaaGreatQ13
import Derived.Test.YtgieeeeeiggoeaaGreatQ07
import Derived.Test.YtgieeeeeiggoeaaGreatQ12
namespace Go.Proofs.YtgieeeeeiggoeaaGreat
inductive Nod where
 | rep (r : Rep)
 | acc (a : Acc)
 | mas (s : Mas)
def numOf (n j : Nat) : Int := if j < n then (j : Int) else if j < n + 3 then 100 + ((j : Int) - n) else 200 + ((j : Int) - n - 3)
def nodPlace (n : Nat) (d : Int) : Option Nat :=
 if 0 ≤ d ∧ d < n then some d.toNat else if 100 ≤ d ∧ d < 103 then some (n + (d - 100).toNat) else if 200 ≤ d ∧ d < 202 then some (n + 3 + (d - 200).toNat) else none
def Clu.nod (c : Clu) (j : Nat) : Nod :=
 if j < c.reps.length then .rep (c.rep (numOf c.reps.length j)) else if j < c.reps.length + 3 then .acc (c.acc (numOf c.reps.length j)) else .mas (c.mas (numOf c.reps.length j))
def Nod.up : Nod → Bool
 | .rep r => r.up
 | .acc a => a.up
 | .mas s => s.up
def Nod.take (x : Nod) (own : Int) (m : Msg) : Nod × List Msg :=
 match x with
 | .rep r => (.rep (r.take own m).1,(r.take own m).2)
 | .acc a => (.acc (a.take m).1,(a.take m).2)
 | .mas s => (.mas (s.take m).1,(s.take m).2)
def Nod.tick (x : Nod) (own : Int) : List Msg :=
 match x with
 | .rep r => r.tick own
 | .acc _ => []
 | .mas s => s.asks own
def Nod.crash (x : Nod) : Nod :=
 match x with
 | .rep r => .rep r.crash
 | .acc a => .acc { a with up := false }
 | .mas s => .mas (Mas.still false s.begun)
def Nod.restart (x : Nod) (own : Int) : Nod :=
 match x with
 | .rep r => .rep (r.restart own)
 | .acc a => .acc { a with up := true }
 | .mas s => .mas (Mas.still true s.begun)
def Nod.kin : Nod → Nod → Prop
 | .rep _, .rep _ => True
 | .acc _, .acc _ => True
 | .mas _, .mas _ => True
 | _,_ => False
def Clu.setNod (c : Clu) (j : Nat) (x : Nod) : Clu :=
 match x with
 | .rep r => c.setRep (numOf c.reps.length j) r
 | .acc a => c.setAcc (numOf c.reps.length j) a
 | .mas s => c.setMas (numOf c.reps.length j) s
theorem nodPlace_lt {n j : Nat} {d : Int} (h : nodPlace n d = some j) : j < n + 5 := by
 unfold nodPlace at h
 split at h
 ·cases h; omega
 ·split at h
  ·cases h; omega
  ·split at h
   ·cases h; omega
   ·cases h
theorem nodPlace_num {n j : Nat} {d : Int} (h : nodPlace n d = some j) : numOf n j = d := by
 unfold nodPlace at h
 unfold numOf
 split at h
 ·cases h
  rw [if_pos (by omega)]
  omega
 ·split at h
  ·cases h
   rw [if_neg (by omega),if_pos (by omega)]
   omega
  ·split at h
   ·cases h
    rw [if_neg (by omega),if_neg (by omega)]
    omega
   ·cases h
theorem num_nodPlace {n j : Nat} (hn : n ≤ 5) (hj : j < n + 5) : nodPlace n (numOf n j) = some j := by
 unfold nodPlace numOf
 by_cases h1 : j < n
 ·rw [if_pos h1,if_pos (by omega)]; simp
 ·by_cases h2 : j < n + 3
  ·rw [if_neg h1,if_pos h2,if_neg (by omega),if_pos (by omega)]
   congr 1
   omega
  ·rw [if_neg h1,if_neg h2,if_neg (by omega),if_neg (by omega),if_pos (by omega)]
   congr 1
   omega
theorem nodPlace_eq (c : Clu) (d : Int) : nodPlace c.reps.length d = if c.isRep d then some d.toNat else if isAcc d then some (c.reps.length + (d - 100).toNat) else if isMas d then some (c.reps.length + 3 + (d - 200).toNat) else none := rfl
theorem upOf_nod (c : Clu) (d : Int) : c.upOf d = (nodPlace c.reps.length d).map (fun j => (c.nod j).up) := by
 have key : ∀ j,nodPlace c.reps.length d = some j → numOf c.reps.length j = d := fun j h => nodPlace_num h
 unfold Clu.upOf
 by_cases h1 : c.isRep d
 ·rw [if_pos h1]
  have hp : nodPlace c.reps.length d = some d.toNat := by rw [nodPlace_eq,if_pos h1]
  have := key _ hp
  rw [hp]
  have h2 : d.toNat < c.reps.length := by have := h1.1; have := h1.2; omega
  simp [Clu.nod,h2,this,Nod.up]
 ·rw [if_neg h1]
  by_cases h2 : isAcc d
  ·rw [if_pos h2]
   have hp : nodPlace c.reps.length d = some (c.reps.length + (d - 100).toNat) := by rw [nodPlace_eq,if_neg h1,if_pos h2]
   have e := key _ hp
   rw [hp]
   have h3 : c.reps.length + (d - 100).toNat < c.reps.length + 3 := by have := h2.1; have := h2.2; omega
   simp only [Option.map_some,Clu.nod]
   rw [if_neg (by omega),if_pos h3,e]
   rfl
  ·rw [if_neg h2]
   by_cases h3 : isMas d
   ·rw [if_pos h3]
    have hp : nodPlace c.reps.length d = some (c.reps.length + 3 + (d - 200).toNat) := by rw [nodPlace_eq,if_neg h1,if_neg h2,if_pos h3]
    have e := key _ hp
    rw [hp]
    simp only [Option.map_some,Clu.nod]
    rw [if_neg (by omega),if_neg (by omega),e]
    rfl
   ·rw [if_neg h3]
    have hp : nodPlace c.reps.length d = none := by rw [nodPlace_eq,if_neg h1,if_neg h2,if_neg h3]
    rw [hp]
    rfl
theorem nodPlace_cases {c : Clu} {d : Int} {j : Nat} (h : nodPlace c.reps.length d = some j) :
  (c.isRep d ∧ j = d.toNat ∧ j < c.reps.length) ∨ (¬ c.isRep d ∧ isAcc d ∧ j = c.reps.length + (d - 100).toNat ∧ ¬ j < c.reps.length ∧ j < c.reps.length + 3) ∨ (¬ c.isRep d ∧ ¬ isAcc d ∧ isMas d ∧ j = c.reps.length + 3 + (d - 200).toNat ∧ ¬ j < c.reps.length ∧ ¬ j < c.reps.length + 3) := by
 rw [nodPlace_eq] at h
 by_cases h1 : c.isRep d
 ·rw [if_pos h1] at h
  cases h
  exact .inl ⟨h1,rfl,by have := h1.1; have := h1.2; omega⟩
 ·rw [if_neg h1] at h
  by_cases h2 : isAcc d
  ·rw [if_pos h2] at h
   cases h
   exact .inr (.inl ⟨h1,h2,rfl,by omega,by have := h2.1; have := h2.2; omega⟩)
  ·rw [if_neg h2] at h
   by_cases h3 : isMas d
   ·rw [if_pos h3] at h
    cases h
    exact .inr (.inr ⟨h1,h2,h3,rfl,by omega,by omega⟩)
   ·rw [if_neg h3] at h
    cases h
theorem nod_at {c : Clu} {d : Int} {j : Nat} (h : nodPlace c.reps.length d = some j) :
  (c.isRep d ∧ c.nod j = .rep (c.rep d) ∧ ∀ r,c.setNod j (.rep r) = c.setRep d r) ∨ (¬ c.isRep d ∧ isAcc d ∧ c.nod j = .acc (c.acc d) ∧ ∀ r,c.setNod j (.acc r) = c.setAcc d r) ∨ (¬ c.isRep d ∧ ¬ isAcc d ∧ isMas d ∧ c.nod j = .mas (c.mas d) ∧ ∀ r,c.setNod j (.mas r) = c.setMas d r) := by
 have e := nodPlace_num h
 rcases nodPlace_cases h with ⟨h1,_,h2⟩ | ⟨h1,h2,_,h3,h4⟩ | ⟨h1,h2,h3,_,h4,h5⟩
 ·exact .inl ⟨h1,by unfold Clu.nod; rw [if_pos h2,e],fun r => by unfold Clu.setNod; simp only; rw [e]⟩
 ·exact .inr (.inl ⟨h1,h2,by unfold Clu.nod; rw [if_neg h3,if_pos h4,e],fun r => by unfold Clu.setNod; simp only; rw [e]⟩)
 ·exact .inr (.inr ⟨h1,h2,h3,by unfold Clu.nod; rw [if_neg h4,if_neg h5,e],fun r => by unfold Clu.setNod; simp only; rw [e]⟩)
theorem takes_nod {c : Clu} {m : Msg} {j : Nat} (h : nodPlace c.reps.length m.dst = some j) (hu : (c.nod j).up = true) : c.takes m = (c.setNod j ((c.nod j).take m.dst m).1,((c.nod j).take m.dst m).2) := by
 unfold Clu.takes
 rw [if_pos (by rw [upOf_nod c,h]; simp [hu])]
 rcases nod_at h with ⟨h1,h2,h3⟩ | ⟨h1,h2,h3,h4⟩ | ⟨h1,h2,_,h4,h5⟩
 ·rw [if_pos h1,h2]
  simp only [Nod.take]
  rw [h3]
 ·rw [if_neg h1,if_pos h2,h3]
  simp only [Nod.take]
  rw [h4]
 ·rw [if_neg h1,if_neg h2,h4]
  simp only [Nod.take]
  rw [h5]
theorem takes_none {c : Clu} {m : Msg} (h : c.upOf m.dst ≠ some true) : c.takes m = (c, []) := by
 unfold Clu.takes
 rw [if_neg h]
theorem ticks_nod {c : Clu} {d : Int} {j : Nat} (h : nodPlace c.reps.length d = some j) : c.ticks d = (c.nod j).tick d := by
 unfold Clu.ticks
 rcases nod_at h with ⟨h1,h2,_⟩ | ⟨h1,h2,h3,_⟩ | ⟨h1,h2,h3,h4,_⟩
 ·rw [if_pos h1,h2]; rfl
 ·rw [if_neg h1,if_neg (by unfold isMas; unfold isAcc at h2; omega),h3]; rfl
 ·rw [if_neg h1,if_pos h3,h4]; rfl
theorem crash_nod {c : Clu} {d : Int} {j : Nat} (h : nodPlace c.reps.length d = some j) (hu : (c.nod j).up = true) : c.crash d = (c.setNod j (c.nod j).crash,0) := by
 unfold Clu.crash
 rw [upOf_nod c,h]
 simp only [Option.map_some,hu]
 rcases nod_at h with ⟨h1,h2,h3⟩ | ⟨h1,h2,h3,h4⟩ | ⟨h1,h2,_,h4,h5⟩
 ·rw [if_pos h1,h2]; simp only [Nod.crash]; rw [h3]
 ·rw [if_neg h1,if_pos h2,h3]; simp only [Nod.crash]; rw [h4]
 ·rw [if_neg h1,if_neg h2,h4]; simp only [Nod.crash]; rw [h5]
theorem restart_nod {c : Clu} {d : Int} {j : Nat} (h : nodPlace c.reps.length d = some j) (hu : (c.nod j).up = false) : c.restart d = (c.setNod j ((c.nod j).restart d),0) := by
 unfold Clu.restart
 rw [upOf_nod c,h]
 simp only [Option.map_some,hu]
 rcases nod_at h with ⟨h1,h2,h3⟩ | ⟨h1,h2,h3,h4⟩ | ⟨h1,h2,_,h4,h5⟩
 ·rw [if_pos h1,h2]; simp only [Nod.restart]; rw [h3]
 ·rw [if_neg h1,if_pos h2,h3]; simp only [Nod.restart]; rw [h4]
 ·rw [if_neg h1,if_neg h2,h4]; simp only [Nod.restart]; rw [h5]
theorem setNod_reps (c : Clu) (j : Nat) (x : Nod) : (c.setNod j x).reps.length = c.reps.length := by
 unfold Clu.setNod Clu.setRep Clu.setAcc Clu.setMas
 cases x <;> simp
theorem setNod_rest (c : Clu) (j : Nat) (x : Nod) : (c.setNod j x).bag = c.bag ∧ (c.setNod j x).told = c.told ∧ (c.setNod j x).accs.length = c.accs.length ∧ (c.setNod j x).mass.length = c.mass.length := by
 unfold Clu.setNod Clu.setRep Clu.setAcc Clu.setMas
 cases x <;> simp
theorem getD_set_same {α : Type} (l : List α) (i : Nat) (x d : α) (h : i < l.length) : (l.set i x).getD i d = x := by
 rw [List.getD_eq_getElem?_getD,List.getElem?_set_self h]
 rfl
theorem getD_set_other {α : Type} (l : List α) (i k : Nat) (x d : α) (h : i ≠ k) : (l.set i x).getD k d = l.getD k d := by
 rw [List.getD_eq_getElem?_getD,List.getElem?_set_ne h,List.getD_eq_getElem?_getD]
theorem nod_setNod {c : Clu} {j : Nat} {x : Nod} (ha : c.accs.length = 3) (hm : c.mass.length = 2) (hj : j < c.reps.length + 5) (hk : (c.nod j).kin x) (k : Nat) (hk5 : k < c.reps.length + 5) : (c.setNod j x).nod k = if k = j then x else c.nod k := by
 have hr := setNod_reps c j x
 unfold Clu.nod at hk ⊢
 rw [hr]
 by_cases h1 : j < c.reps.length
 ·rw [if_pos h1] at hk
  cases x with
  | acc a => cases hk
  | mas a => cases hk
  | rep r =>
   have hnj : (numOf c.reps.length j).toNat = j := by unfold numOf; rw [if_pos h1]; simp
   by_cases hkj : k = j
   ·subst hkj
    rw [if_pos h1,if_pos rfl]
    unfold Clu.rep Clu.setNod Clu.setRep
    simp only
    rw [hnj,getD_set_same _ _ _ _ h1]
   ·rw [if_neg hkj]
    by_cases h2 : k < c.reps.length
    ·have hnk : (numOf c.reps.length k).toNat = k := by unfold numOf; rw [if_pos h2]; simp
     rw [if_pos h2,if_pos h2]
     unfold Clu.rep Clu.setNod Clu.setRep
     simp only
     rw [hnj,hnk,getD_set_other _ _ _ _ _ (Ne.symm hkj)]
    ·rw [if_neg h2,if_neg h2]
     rfl
 ·rw [if_neg h1] at hk
  by_cases h2 : j < c.reps.length + 3
  ·rw [if_pos h2] at hk
   cases x with
   | rep a => cases hk
   | mas a => cases hk
   | acc r =>
    have hnj : (numOf c.reps.length j - 100).toNat = j - c.reps.length := by unfold numOf; rw [if_neg h1,if_pos h2]; omega
    by_cases hkj : k = j
    ·subst hkj
     rw [if_neg h1,if_pos h2,if_pos rfl]
     unfold Clu.acc Clu.setNod Clu.setAcc
     simp only
     rw [hnj,getD_set_same _ _ _ _ (by omega)]
    ·rw [if_neg hkj]
     by_cases h3 : k < c.reps.length
     ·rw [if_pos h3,if_pos h3]; rfl
     ·rw [if_neg h3,if_neg h3]
      by_cases h4 : k < c.reps.length + 3
      ·have hnk : (numOf c.reps.length k - 100).toNat = k - c.reps.length := by unfold numOf; rw [if_neg h3,if_pos h4]; omega
       rw [if_pos h4,if_pos h4]
       unfold Clu.acc Clu.setNod Clu.setAcc
       simp only
       rw [hnj,hnk,getD_set_other _ _ _ _ _ (by omega)]
      ·rw [if_neg h4,if_neg h4]; rfl
  ·rw [if_neg h2] at hk
   cases x with
   | rep a => cases hk
   | acc a => cases hk
   | mas r =>
    have hnj : (numOf c.reps.length j - 200).toNat = j - c.reps.length - 3 := by unfold numOf; rw [if_neg h1,if_neg h2]; omega
    by_cases hkj : k = j
    ·subst hkj
     rw [if_neg h1,if_neg h2,if_pos rfl]
     unfold Clu.mas Clu.setNod Clu.setMas
     simp only
     rw [hnj,getD_set_same _ _ _ _ (by omega)]
    ·rw [if_neg hkj]
     by_cases h3 : k < c.reps.length
     ·rw [if_pos h3,if_pos h3]; rfl
     ·rw [if_neg h3,if_neg h3]
      by_cases h4 : k < c.reps.length + 3
      ·rw [if_pos h4,if_pos h4]; rfl
      ·have hnk : (numOf c.reps.length k - 200).toNat = k - c.reps.length - 3 := by unfold numOf; rw [if_neg h3,if_neg h4]; omega
       rw [if_neg h4,if_neg h4]
       unfold Clu.mas Clu.setNod Clu.setMas
       simp only
       rw [hnj,hnk,getD_set_other _ _ _ _ _ (by omega)]
theorem kin_take (x : Nod) (own : Int) (m : Msg) : x.kin (x.take own m).1 := by cases x <;> trivial
theorem kin_crash (x : Nod) : x.kin x.crash := by cases x <;> trivial
theorem kin_restart (x : Nod) (own : Int) : x.kin (x.restart own) := by cases x <;> trivial
theorem nod_first (n j : Nat) (hj : j < n + 5) : (Clu.first n).nod j = if j < n then .rep (Rep.first n) else if j < n + 3 then .acc (Acc.first n) else .mas (Mas.still true 0) := by
 have hl : (Clu.first n).reps.length = n := by simp [Clu.first]
 unfold Clu.nod
 rw [hl]
 by_cases h1 : j < n
 ·rw [if_pos h1,if_pos h1]
  have hnj : (numOf n j).toNat = j := by unfold numOf; rw [if_pos h1]; simp
  unfold Clu.rep
  rw [hnj]
  simp [Clu.first,List.getD_eq_getElem?_getD,h1]
 ·rw [if_neg h1,if_neg h1]
  by_cases h2 : j < n + 3
  ·rw [if_pos h2,if_pos h2]
   have hnj : (numOf n j - 100).toNat = j - n := by unfold numOf; rw [if_neg h1,if_pos h2]; omega
   unfold Clu.acc
   rw [hnj]
   rcases (by omega : j - n = 0 ∨ j - n = 1 ∨ j - n = 2) with e | e | e <;> rw [e] <;> rfl
  ·rw [if_neg h2,if_neg h2]
   have hnj : (numOf n j - 200).toNat = j - n - 3 := by unfold numOf; rw [if_neg h1,if_neg h2]; omega
   unfold Clu.mas
   rw [hnj]
   rcases (by omega : j - n - 3 = 0 ∨ j - n - 3 = 1) with e | e <;> rw [e] <;> rfl
def fixK (r : Run) (k : Nat) : List Fix := ((r.x.reps.take k).foldl commitsOf (r.fixed,true)).1
theorem commit1_false (s : Rep) (st : List Fix × Bool) (p : Nat) (h : st.2 = false) : (commit1 s st p).2 = false := by
 unfold commit1
 split <;> simp [h]
theorem commit1_fold_false (s : Rep) (l : List Nat) (st : List Fix × Bool) (h : st.2 = false) : (l.foldl (commit1 s) st).2 = false := by
 induction l generalizing st with
 | nil => exact h
 | cons a t ih => exact ih _ (commit1_false s st a h)
theorem commits_prefix (s : Rep) (F : List Fix) (h : (commitsOf (F,true) s).2 = true) : ∀ k,k ≤ s.commit → ((List.range k).foldl (commit1 s) (F,true)).2 = true := by
 intro k hk
 cases hc : ((List.range k).foldl (commit1 s) (F,true)).2 with
 | true => rfl
 | false =>
  exfalso
  unfold commitsOf at h
  have e : List.range s.commit = List.range k ++ (List.range (s.commit - k)).map (k + ·) := by
   have := List.range_add (n := k) (m := s.commit - k)
   rw [show k + (s.commit - k) = s.commit by omega] at this
   exact this
  rw [e,List.foldl_append,commit1_fold_false s _ _ hc] at h
  cases h
structure LookF (r : Run) (F : List Fix) (t : Int) : Prop where
 full : F = fixK r r.x.reps.length
 two : ∀ k,k ≤ r.x.reps.length → ((r.x.reps.take k).foldl commitsOf (r.fixed,true)).2 = true
 holds : ∀ (i : Nat) (s : Rep),r.x.reps[i]? = some s → ∀ q,q < F.length → holdsAt s F q = true
 hear : hearAll { r with fixed := F,last := r.x.reps } r.top (r.x.told.drop r.answers) = some t
 look : r.look = { r with fixed := F,last := r.x.reps,top := t,answers := r.x.told.length }
theorem hear_same (r r' : Run) (h1 : r'.fixed = r.fixed) (h2 : r'.wishes = r.wishes) (l : List Ans) : ∀ t,hearAll r' t l = hearAll r t l := by
 induction l with
 | nil => intro t; rfl
 | cons a l ih =>
  intro t
  unfold hearAll hear1
  rw [h1,h2]
  split
  ·rfl
  ·exact ih _
theorem look_facts {r : Run} {E : Int} {g : Gh} (h : Mid r E g) : ∃ F t,LookF r F t := by
 obtain ⟨f1,f2,f3,f4,f5⟩ := h.flags
 have hN := h.good.nodes
 obtain ⟨c1,c2,c3,c4,c5,c6⟩ := commitsAll_ok hN r.fixed h.fix r.x.reps.length (Nat.le_refl _)
 rw [List.take_length] at c1 c2 c3 c4 c5 c6
 have hlk := h.look
 have hhold := holdsAll_ok hN (r.x.reps.foldl commitsOf (r.fixed,true)).1 c1
 have hholdi : ∀ (i : Nat) (s : Rep),r.x.reps[i]? = some s → ∀ q,q < (r.x.reps.foldl commitsOf (r.fixed,true)).1.length → holdsAt s (r.x.reps.foldl commitsOf (r.fixed,true)).1 q = true := by
  intro i s hs q hq
  have := hhold [s] (fun x hx => by rw [List.mem_singleton] at hx; rw [hx]; exact List.mem_of_getElem? hs)
  rw [List.foldl_cons,List.foldl_nil] at this
  unfold holdsOf at this
  rw [Bool.true_and,List.all_eq_true] at this
  exact this q (List.mem_range.2 hq)
 have hF : (r.x.reps.foldl commitsOf (r.fixed,true)).1 = fixK r r.x.reps.length := by unfold fixK; rw [List.take_length]
 have hlook : r.look = { r with fixed := (r.x.reps.foldl commitsOf (r.fixed,true)).1,agreed := true,lasts := true,sealed := true,last := r.x.reps }.hears := by
  unfold Run.look
  rw [f2,f3,f5,stillAll_ok _ h.rel]
  simp only
  rw [c2,holdsAll_ok hN _ c1 r.x.reps (fun _ hx => hx)]
 generalize hFe : (r.x.reps.foldl commitsOf (r.fixed,true)).1 = F at *
 have hal := h.ans.1
 cases hh : hearAll { r with fixed := F,last := r.x.reps } r.top (r.x.told.drop r.answers) with
 | none =>
  exfalso
  have h2 := hlk.1.mid.flags.2.2.2.1
  rw [hlook] at h2
  unfold Run.hears at h2
  simp only at h2
  rw [if_neg (by omega),hear_same { r with fixed := F,last := r.x.reps } { r with fixed := F,agreed := true,lasts := true,sealed := true,last := r.x.reps } rfl rfl,hh] at h2
  cases h2
 | some t =>
  refine ⟨F,t,hF,fun k hk => (commitsAll_ok hN r.fixed h.fix k hk).2.1,hholdi,hh, ?_⟩
  rw [hlook]
  unfold Run.hears
  simp only
  rw [if_neg (by omega),hear_same { r with fixed := F,last := r.x.reps } { r with fixed := F,agreed := true,lasts := true,sealed := true,last := r.x.reps } rfl rfl,hh]
  simp only
  rw [f2,f3,f5]
theorem fixK_succ (r : Run) (k : Nat) (s : Rep) (hs : r.x.reps[k]? = some s) (h2 : ((r.x.reps.take k).foldl commitsOf (r.fixed,true)).2 = true) : fixK r (k + 1) = (commitsOf (fixK r k,true) s).1 := by
 have hk := (List.getElem?_eq_some_iff.1 hs).1
 have htk : r.x.reps.take (k + 1) = r.x.reps.take k ++ [s] := by
  rw [List.take_succ_eq_append_getElem hk]
  congr 2
  exact (List.getElem?_eq_some_iff.1 hs).2
 unfold fixK
 rw [htk,List.foldl_append,List.foldl_cons,List.foldl_nil]
 congr 2
 exact Prod.ext rfl h2
theorem fixK_two (r : Run) (k : Nat) (s : Rep) (hs : r.x.reps[k]? = some s) (h2 : ((r.x.reps.take k).foldl commitsOf (r.fixed,true)).2 = true) (h3 : ((r.x.reps.take (k + 1)).foldl commitsOf (r.fixed,true)).2 = true) : (commitsOf (fixK r k,true) s).2 = true := by
 have hk := (List.getElem?_eq_some_iff.1 hs).1
 have htk : r.x.reps.take (k + 1) = r.x.reps.take k ++ [s] := by
  rw [List.take_succ_eq_append_getElem hk]
  congr 2
  exact (List.getElem?_eq_some_iff.1 hs).2
 rw [htk,List.foldl_append,List.foldl_cons,List.foldl_nil] at h3
 have e : (fixK r k,true) = (r.x.reps.take k).foldl commitsOf (r.fixed,true) := Prod.ext rfl h2.symm
 rw [e]
 exact h3
theorem tell_len (c : Clu) (m : Msg) : (c.tell m).told.length ≤ c.told.length + 1 := by
 unfold Clu.tell
 split <;> simp
theorem takes_told (c : Clu) (m : Msg) : (c.takes m).1.told = c.told := by
 unfold Clu.takes
 split
 ·split
  ·rfl
  ·split <;> rfl
 ·rfl
theorem deliver_told (c : Clu) (i : Int) : (c.deliver i).1.told.length ≤ c.told.length + 1 := by
 unfold Clu.deliver
 split
 ·split
  ·show (c.gone i).told.length ≤ _
   show c.told.length ≤ _
   omega
  ·rename_i m _
   show (((c.gone i).tell m).takes m).1.told.length ≤ _
   rw [takes_told]
   have := tell_len (c.gone i) m
   exact this
 ·show c.told.length ≤ _
  omega
theorem drain_step {r : Run} {E : Int} {g : Gh} (h : RI r E g) (hb : r.x.bag.length ≠ 0) :
  (r.x.deliver 0).2 = 0 ∧ (∃ E' g',Mid { r with x := (r.x.deliver 0).1 } E' g') ∧ ∀ k,Run.drain (k + 1) r = Run.drain k ({ r with x := (r.x.deliver 0).1 }.look) := by
 have hok := h.mid.flags.1
 have h0 : (r.x.deliver 0).2 = 0 := by
  unfold Clu.deliver
  rw [if_pos (by unfold Clu.hasFrame; omega)]
  split <;> rfl
 refine ⟨h0, ?_,fun k => ?_⟩
 ·obtain ⟨E',g',hm⟩ := h.step (h.mid.good.deliver 0) (rel_deliver h.mid.good 0) r.begun0 r.begun1
  exact ⟨E',g',hm⟩
 ·show (if r.x.bag.length = 0 ∨ r.ok = false then r else _) = _
  rw [if_neg (by rw [hok]; simp; exact fun e => hb (by rw [e]; rfl))]
  rw [h0,hok]
  rfl
theorem drain_stop {r : Run} (hb : r.x.bag.length = 0) : ∀ k,Run.drain k r = r := by
 intro k
 cases k with
 | zero => rfl
 | succ k =>
  show (if r.x.bag.length = 0 ∨ r.ok = false then r else _) = r
  rw [if_pos (.inl hb)]
theorem look_small {r : Run} {E : Int} {g : Gh} (h : Mid r E g) (hf : r.fixed.length ≤ 24) : r.look.fixed.length ≤ 24 := by
 refine h.look.2.2.2.2.2.2.2.2.1 24 hf fun i hi => ?_
 have hw := h.good.nodes.R (i : Int) (isRep_nat hi)
 have := hw.commit
 have := hw.log.1
 omega
theorem ask_told (c : Clu) (d : Int) (e : Ent) : (c.ask d e).1.told = c.told := by
 unfold Clu.ask
 split
 ·rfl
 ·split <;> rfl
theorem change_told (c : Clu) (d : Int) (l : List Int) : (c.change d l).1.told = c.told := by
 unfold Clu.change
 split
 ·rfl
 ·split
  ·rfl
  ·split <;> rfl
theorem drain_wishes : ∀ (k : Nat) {r : Run} {E : Int} {g : Gh},RI r E g → (Run.drain k r).wishes = r.wishes := by
 intro k
 induction k with
 | zero => intro r E g _; rfl
 | succ k ih =>
  intro r E g h
  by_cases hb : r.x.bag.length = 0
  ·rw [drain_stop hb]
  ·obtain ⟨_,⟨E',g',hm⟩,hk⟩ := drain_step h hb
   rw [hk,ih hm.look.1,hm.look.2.2.2.1]
end Go.Proofs.YtgieeeeeiggoeaaGreat
