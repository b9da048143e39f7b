import Derived.Test.YtgieeeeeiggoeaaP01
namespace Go.Proofs.Ytgieeeeeiggoeaa
def entsOk (l : List Ent) : Prop := l.length ≤ 24 ∧ ∀ x ∈ l, x.ok = true
def memsOr (l : List Int) (n : Nat) : Prop := l = [] ∨ memsOk l n = true
structure MsgWF (n : Nat) (E : Int) (m : Msg) : Prop where
 kind : 1 ≤ m.kind ∧ m.kind ≤ 16
 src : 0 ≤ m.src ∧ m.src ≤ 303
 dst : 0 ≤ m.dst ∧ m.dst ≤ 303
 epoch : 0 ≤ m.epoch ∧ m.epoch ≤ E
 ballot : 0 ≤ m.ballot ∧ m.ballot ≤ 2001
 vote : -1 ≤ m.vote ∧ m.vote ≤ 2001
 pos : 0 ≤ m.pos ∧ m.pos ≤ 999
 value : -1 ≤ m.value ∧ m.value ≤ 999
 mems : memsOr m.mems n
 log : entsOk m.log
 has : m.kind = 6 ∨ m.kind = 11 ∨ m.kind = 13 ∨ m.kind = 15 ∨ (m.kind = 10 ∧ 0 ≤ m.vote) → memsOk m.mems n = true
 one : m.kind = 1 ∨ m.kind = 2 → m.log.length = 1
structure RepWF (n : Nat) (E : Int) (r : Rep) : Prop where
 epoch : 0 ≤ r.epoch ∧ r.epoch ≤ E
 lock : 0 ≤ r.lock ∧ r.lock ≤ E
 mems : memsOk r.mems n = true
 log : entsOk r.log
 base : r.base ≤ r.log.length
 commit : r.commit ≤ r.log.length
 bc : r.base ≤ r.commit
structure VoteWF (n : Nat) (v : AVote) : Prop where
 promise : -1 ≤ v.promise ∧ v.promise ≤ 2001
 ballot : -1 ≤ v.ballot ∧ v.ballot ≤ 2001
 mems : memsOr v.mems n
 has : 0 ≤ v.ballot → memsOk v.mems n = true
 log : entsOk v.log
structure AccWF (n : Nat) (E : Int) (a : Acc) : Prop where
 epoch : 0 ≤ a.epoch ∧ a.epoch ≤ E
 mems : memsOk a.mems n = true
 votes : ∀ e, VoteWF n (a.votes e)
structure MasWF (n : Nat) (E : Int) (s : Mas) : Prop where
 begun : s.begun ≤ 1000
 does : s.does ≤ 6
 epoch : 0 ≤ s.epoch ∧ s.epoch ≤ E
 ballot : 0 ≤ s.ballot ∧ s.ballot ≤ 2001
 want : s.does ≠ 0 → memsOk s.want n = true
 old : 2 ≤ s.does → memsOk s.old n = true
 mems : 4 ≤ s.does → memsOk s.mems n = true
 memsO : memsOr s.mems n
 log : entsOk s.log
 came : ∀ m ∈ s.came, MsgWF n E m ∧ m.kind = 4 + 2 * (s.does : Int) ∧ m.src ∈ s.all
 nodup : (s.came.map Msg.src).Nodup
 few : (s.does ≠ 5 → s.came.length ≤ 1) ∧ (s.does = 5 → s.came.length < s.mems.length) ∧ (s.does = 0 ∨ s.does = 2 → s.came = [])
theorem memsOk_length {l : List Int} {n : Nat} (h : memsOk l n = true) : l.length ≤ n := by
 obtain ⟨h1, h2, _⟩ := (memsOk_iff _ _).1 h
 have hsub : l ⊆ firstInts n := by
  intro x hx
  obtain ⟨a, b⟩ := h1 x hx
  simp only [firstInts, List.mem_map, List.mem_range]
  exact ⟨x.toNat, by omega, by show Int.ofNat _ = _; simp; omega⟩
 have := h2.length_le_of_subset hsub
 simpa [firstInts] using this
theorem entsOk_nil : entsOk [] := ⟨Nat.zero_le _, fun x hx => by cases hx⟩
section
variable {n : Nat} {E : Int} {own : Int}
end
end Go.Proofs.Ytgieeeeeiggoeaa
namespace Go.Proofs.Ytgieeeeeiggoeaa
section
variable {n : Nat} {E : Int} {own : Int}
def Mas.reads (s : Mas) : Int := if s.does = 1 then 1 else 0
theorem masStill_wf (up : Bool) {b : Nat} (hb : b ≤ 1000) (hE : 0 ≤ E) : MasWF n E (Mas.still up b) :=
 {begun := hb, does := Nat.zero_le _, epoch := ⟨Int.le_refl _, hE⟩, ballot := ⟨Int.le_refl _, by show (0 : Int) ≤ 2001; omega⟩, want := fun q => absurd rfl q, old := fun q => absurd q (by show ¬ 2 ≤ 0; decide), mems := fun q => absurd q (by show ¬ 4 ≤ 0; decide)
  memsO := .inl rfl, log := entsOk_nil, came := fun x hx => (by cases hx), nodup := List.Pairwise.nil, few := ⟨fun _ => Nat.zero_le _, fun q => absurd q (by show ¬ 0 = 5; decide), fun _ => rfl⟩ }
end
end Go.Proofs.Ytgieeeeeiggoeaa
namespace Go.Proofs.Ytgieeeeeiggoeaa
structure PMas where
 begun : Nat
 doing : Int
 waits : List Int
 epoch : Int
 old : List Int
 vote : Int
 mems : List Int
 log : List Ent
def PMas.ballot (p : PMas) (own : Int) : Int := 2 * (p.begun : Int) + own - 200
structure MRel (own : Int) (s : Mas) (p : PMas) : Prop where
 begun : p.begun = s.begun
 doing : p.doing = (s.does : Int)
 ballot : s.does ≠ 0 → p.ballot own = s.ballot
 waits : p.waits = s.all.filter (fun x => !s.cameFrom x)
 count : p.waits.length + s.came.length = s.all.length
 one : s.does = 1 → (s.came = [] → p.epoch = 0 ∧ p.old = []) ∧ ∀ m r, s.came = m :: r → p.epoch = m.epoch + 1 ∧ p.old = m.mems
 epoch : 2 ≤ s.does → p.epoch = s.epoch
 vote : s.does = 1 ∨ s.does = 2 → p.vote = -1 ∧ p.mems = s.want
 three : s.does = 3 → ((s.came = [] ∨ ∃ m r, s.came = m :: r ∧ m.vote ≤ -1) → p.vote = -1 ∧ p.mems = s.want ∧ p.log = s.log) ∧ ∀ m r, s.came = m :: r → -1 < m.vote → p.vote = m.vote ∧ p.mems = m.mems ∧ p.log = m.log
 last : 4 ≤ s.does → p.mems = s.mems ∧ p.log = s.log
 old5 : p.old.length ≤ 5
 mems5 : p.mems.length ≤ 5
 log24 : p.log.length ≤ 24
def stOf (c : Clu) : St :=
 {R := fun i => if c.isRep i then c.rep i else Rep.first 0
  A := fun a => if isAcc a then c.acc a else Acc.first 0
  S := fun k => if isMas k then c.mas k else Mas.still true 0 }
theorem stOf_R {c : Clu} {i : Int} (h : c.isRep i) : (stOf c).R i = c.rep i := if_pos h
theorem stOf_A {c : Clu} {i : Int} (h : isAcc i) : (stOf c).A i = c.acc i := if_pos h
theorem stOf_S {c : Clu} {i : Int} (h : isMas i) : (stOf c).S i = c.mas i := if_pos h
structure Nodes (c : Clu) (E : Int) (g : Gh) : Prop where
 n1 : 1 ≤ c.reps.length
 n5 : c.reps.length ≤ 5
 a3 : c.accs.length = 3
 m2 : c.mass.length = 2
 n : g.n = c.reps.length
 E0 : 0 ≤ E
 R : ∀ i, c.isRep i → RepWF c.reps.length E (c.rep i)
 A : ∀ a, isAcc a → AccWF c.reps.length E (c.acc a)
 S : ∀ k, isMas k → MasWF c.reps.length E (c.mas k)
 budget : E + (c.mas 200).reads + (c.mas 201).reads ≤ (c.mas 200).begun + (c.mas 201).begun
 inv : Inv g (stOf c)
def Sent (c : Clu) (E : Int) (g : Gh) (m : Msg) : Prop := MsgWF c.reps.length E m ∧ MsgInv g (stOf c) m
def FrameOK (c : Clu) (E : Int) (g : Gh) (f : List UInt8 × Bool) : Prop :=
 ∃ m, Sent c E g m ∧ (f.1 = m.frame ∨ (f.2 = true ∧ msgOf f.1 = none ∧ f.1.length = m.frame.length))
structure Good (c : Clu) (E : Int) (g : Gh) : Prop where
 nodes : Nodes c E g
 bag : c.bag.length ≤ 200
 frames : ∀ f ∈ c.bag, FrameOK c E g f
inductive Nod where
 | rep (r : Rep)
 | acc (a : Acc)
 | mas (s : Mas)
def numOf (n j : Nat) : Int := if j < n then (j : Int) else if j < n + 3 then 100 + ((j : Int) - n) else 200 + ((j : Int) - n - 3)
def nodPlace (n : Nat) (d : Int) : Option Nat :=
 if 0 ≤ d ∧ d < n then some d.toNat else if 100 ≤ d ∧ d < 103 then some (n + (d - 100).toNat) else if 200 ≤ d ∧ d < 202 then some (n + 3 + (d - 200).toNat) else none
def Clu.nod (c : Clu) (j : Nat) : Nod :=
 if j < c.reps.length then .rep (c.rep (numOf c.reps.length j)) else if j < c.reps.length + 3 then .acc (c.acc (numOf c.reps.length j)) else .mas (c.mas (numOf c.reps.length j))
def Nod.up : Nod → Bool
 | .rep r => r.up
 | .acc a => a.up
 | .mas s => s.up
def Clu.setNod (c : Clu) (j : Nat) (x : Nod) : Clu :=
 match x with
 | .rep r => c.setRep (numOf c.reps.length j) r
 | .acc a => c.setAcc (numOf c.reps.length j) a
 | .mas s => c.setMas (numOf c.reps.length j) s
theorem nodPlace_lt {n j : Nat} {d : Int} (h : nodPlace n d = some j) : j < n + 5 := by
 unfold nodPlace at h
 split at h
 ·cases h; omega
 ·split at h
  ·cases h; omega
  ·split at h
   ·cases h; omega
   ·cases h
theorem nodPlace_num {n j : Nat} {d : Int} (h : nodPlace n d = some j) : numOf n j = d := by
 unfold nodPlace at h
 unfold numOf
 split at h
 ·cases h
  rw [if_pos (by omega)]
  omega
 ·split at h
  ·cases h
   rw [if_neg (by omega), if_pos (by omega)]
   omega
  ·split at h
   ·cases h
    rw [if_neg (by omega), if_neg (by omega)]
    omega
   ·cases h
theorem num_nodPlace {n j : Nat} (hn : n ≤ 5) (hj : j < n + 5) : nodPlace n (numOf n j) = some j := by
 unfold nodPlace numOf
 by_cases h1 : j < n
 ·rw [if_pos h1, if_pos (by omega)]; simp
 ·by_cases h2 : j < n + 3
  ·rw [if_neg h1, if_pos h2, if_neg (by omega), if_pos (by omega)]
   congr 1
   omega
  ·rw [if_neg h1, if_neg h2, if_neg (by omega), if_neg (by omega), if_pos (by omega)]
   congr 1
   omega
theorem nodPlace_eq (c : Clu) (d : Int) : nodPlace c.reps.length d = if c.isRep d then some d.toNat else if isAcc d then some (c.reps.length + (d - 100).toNat) else if isMas d then some (c.reps.length + 3 + (d - 200).toNat) else none := rfl
theorem upOf_nod (c : Clu) (d : Int) : c.upOf d = (nodPlace c.reps.length d).map (fun j => (c.nod j).up) := by
 have key : ∀ j, nodPlace c.reps.length d = some j → numOf c.reps.length j = d := fun j h => nodPlace_num h
 unfold Clu.upOf
 by_cases h1 : c.isRep d
 ·rw [if_pos h1]
  have hp : nodPlace c.reps.length d = some d.toNat := by rw [nodPlace_eq, if_pos h1]
  have := key _ hp
  rw [hp]
  have h2 : d.toNat < c.reps.length := by have := h1.1; have := h1.2; omega
  simp [Clu.nod, h2, this, Nod.up]
 ·rw [if_neg h1]
  by_cases h2 : isAcc d
  ·rw [if_pos h2]
   have hp : nodPlace c.reps.length d = some (c.reps.length + (d - 100).toNat) := by rw [nodPlace_eq, if_neg h1, if_pos h2]
   have e := key _ hp
   rw [hp]
   have h3 : c.reps.length + (d - 100).toNat < c.reps.length + 3 := by have := h2.1; have := h2.2; omega
   simp only [Option.map_some, Clu.nod]
   rw [if_neg (by omega), if_pos h3, e]
   rfl
  ·rw [if_neg h2]
   by_cases h3 : isMas d
   ·rw [if_pos h3]
    have hp : nodPlace c.reps.length d = some (c.reps.length + 3 + (d - 200).toNat) := by rw [nodPlace_eq, if_neg h1, if_neg h2, if_pos h3]
    have e := key _ hp
    rw [hp]
    simp only [Option.map_some, Clu.nod]
    rw [if_neg (by omega), if_neg (by omega), e]
    rfl
   ·rw [if_neg h3]
    have hp : nodPlace c.reps.length d = none := by rw [nodPlace_eq, if_neg h1, if_neg h2, if_neg h3]
    rw [hp]
    rfl
theorem nodPlace_cases {c : Clu} {d : Int} {j : Nat} (h : nodPlace c.reps.length d = some j) :
  (c.isRep d ∧ j = d.toNat ∧ j < c.reps.length) ∨ (¬ c.isRep d ∧ isAcc d ∧ j = c.reps.length + (d - 100).toNat ∧ ¬ j < c.reps.length ∧ j < c.reps.length + 3) ∨ (¬ c.isRep d ∧ ¬ isAcc d ∧ isMas d ∧ j = c.reps.length + 3 + (d - 200).toNat ∧ ¬ j < c.reps.length ∧ ¬ j < c.reps.length + 3) := by
 rw [nodPlace_eq] at h
 by_cases h1 : c.isRep d
 ·rw [if_pos h1] at h
  cases h
  exact .inl ⟨h1, rfl, by have := h1.1; have := h1.2; omega⟩
 ·rw [if_neg h1] at h
  by_cases h2 : isAcc d
  ·rw [if_pos h2] at h
   cases h
   exact .inr (.inl ⟨h1, h2, rfl, by omega, by have := h2.1; have := h2.2; omega⟩)
  ·rw [if_neg h2] at h
   by_cases h3 : isMas d
   ·rw [if_pos h3] at h
    cases h
    exact .inr (.inr ⟨h1, h2, h3, rfl, by omega, by omega⟩)
   ·rw [if_neg h3] at h
    cases h
theorem nod_at {c : Clu} {d : Int} {j : Nat} (h : nodPlace c.reps.length d = some j) :
  (c.isRep d ∧ c.nod j = .rep (c.rep d) ∧ ∀ r, c.setNod j (.rep r) = c.setRep d r) ∨ (¬ c.isRep d ∧ isAcc d ∧ c.nod j = .acc (c.acc d) ∧ ∀ r, c.setNod j (.acc r) = c.setAcc d r) ∨ (¬ c.isRep d ∧ ¬ isAcc d ∧ isMas d ∧ c.nod j = .mas (c.mas d) ∧ ∀ r, c.setNod j (.mas r) = c.setMas d r) := by
 have e := nodPlace_num h
 rcases nodPlace_cases h with ⟨h1, _, h2⟩ | ⟨h1, h2, _, h3, h4⟩ | ⟨h1, h2, h3, _, h4, h5⟩
 ·exact .inl ⟨h1, by unfold Clu.nod; rw [if_pos h2, e], fun r => by unfold Clu.setNod; simp only; rw [e]⟩
 ·exact .inr (.inl ⟨h1, h2, by unfold Clu.nod; rw [if_neg h3, if_pos h4, e], fun r => by unfold Clu.setNod; simp only; rw [e]⟩)
 ·exact .inr (.inr ⟨h1, h2, h3, by unfold Clu.nod; rw [if_neg h4, if_neg h5, e], fun r => by unfold Clu.setNod; simp only; rw [e]⟩)
theorem nod_first (n j : Nat) (hj : j < n + 5) : (Clu.first n).nod j = if j < n then .rep (Rep.first n) else if j < n + 3 then .acc (Acc.first n) else .mas (Mas.still true 0) := by
 have hl : (Clu.first n).reps.length = n := by simp [Clu.first]
 unfold Clu.nod
 rw [hl]
 by_cases h1 : j < n
 ·rw [if_pos h1, if_pos h1]
  have hnj : (numOf n j).toNat = j := by unfold numOf; rw [if_pos h1]; simp
  unfold Clu.rep
  rw [hnj]
  simp [Clu.first, List.getD_eq_getElem?_getD, h1]
 ·rw [if_neg h1, if_neg h1]
  by_cases h2 : j < n + 3
  ·rw [if_pos h2, if_pos h2]
   have hnj : (numOf n j - 100).toNat = j - n := by unfold numOf; rw [if_neg h1, if_pos h2]; omega
   unfold Clu.acc
   rw [hnj]
   rcases (by omega : j - n = 0 ∨ j - n = 1 ∨ j - n = 2) with e | e | e <;> rw [e] <;> rfl
  ·rw [if_neg h2, if_neg h2]
   have hnj : (numOf n j - 200).toNat = j - n - 3 := by unfold numOf; rw [if_neg h1, if_neg h2]; omega
   unfold Clu.mas
   rw [hnj]
   rcases (by omega : j - n - 3 = 0 ∨ j - n - 3 = 1) with e | e <;> rw [e] <;> rfl
end Go.Proofs.Ytgieeeeeiggoeaa
