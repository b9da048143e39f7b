import Derived.Test.YtgieeeeeiggoeaaGreatQ05
namespace Go.Proofs.YtgieeeeeiggoeaaGreat
def entsOk (l : List Ent) : Prop := l.length ≤ 24 ∧ ∀ x ∈ l,x.ok = true
def memsOr (l : List Int) (n : Nat) : Prop := l = [] ∨ memsOk l n = true
structure MsgWF (n : Nat) (E : Int) (m : Msg) : Prop where
 kind : 1 ≤ m.kind ∧ m.kind ≤ 16
 src : 0 ≤ m.src ∧ m.src ≤ 303
 dst : 0 ≤ m.dst ∧ m.dst ≤ 303
 epoch : 0 ≤ m.epoch ∧ m.epoch ≤ E
 ballot : 0 ≤ m.ballot ∧ m.ballot ≤ 2001
 vote : -1 ≤ m.vote ∧ m.vote ≤ 2001
 pos : 0 ≤ m.pos ∧ m.pos ≤ 999
 value : -1 ≤ m.value ∧ m.value ≤ 999
 mems : memsOr m.mems n
 log : entsOk m.log
 has : m.kind = 6 ∨ m.kind = 11 ∨ m.kind = 13 ∨ m.kind = 15 ∨ (m.kind = 10 ∧ 0 ≤ m.vote) → memsOk m.mems n = true
 one : m.kind = 1 ∨ m.kind = 2 → m.log.length = 1
structure RepWF (n : Nat) (E : Int) (r : Rep) : Prop where
 epoch : 0 ≤ r.epoch ∧ r.epoch ≤ E
 lock : 0 ≤ r.lock ∧ r.lock ≤ E
 mems : memsOk r.mems n = true
 log : entsOk r.log
 base : r.base ≤ r.log.length
 commit : r.commit ≤ r.log.length
 bc : r.base ≤ r.commit
structure VoteWF (n : Nat) (v : AVote) : Prop where
 promise : -1 ≤ v.promise ∧ v.promise ≤ 2001
 ballot : -1 ≤ v.ballot ∧ v.ballot ≤ 2001
 mems : memsOr v.mems n
 has : 0 ≤ v.ballot → memsOk v.mems n = true
 log : entsOk v.log
structure AccWF (n : Nat) (E : Int) (a : Acc) : Prop where
 epoch : 0 ≤ a.epoch ∧ a.epoch ≤ E
 mems : memsOk a.mems n = true
 votes : ∀ e,VoteWF n (a.votes e)
structure MasWF (n : Nat) (E : Int) (s : Mas) : Prop where
 begun : s.begun ≤ 1000
 does : s.does ≤ 6
 epoch : 0 ≤ s.epoch ∧ s.epoch ≤ E
 ballot : 0 ≤ s.ballot ∧ s.ballot ≤ 2001
 want : s.does ≠ 0 → memsOk s.want n = true
 old : 2 ≤ s.does → memsOk s.old n = true
 mems : 4 ≤ s.does → memsOk s.mems n = true
 memsO : memsOr s.mems n
 log : entsOk s.log
 came : ∀ m ∈ s.came,MsgWF n E m ∧ m.kind = 4 + 2 * (s.does : Int) ∧ m.src ∈ s.all
 nodup : (s.came.map Msg.src).Nodup
 few : (s.does ≠ 5 → s.came.length ≤ 1) ∧ (s.does = 5 → s.came.length < s.mems.length) ∧ (s.does = 0 ∨ s.does = 2 → s.came = [])
theorem MsgWF.mono {n : Nat} {E E' : Int} {m : Msg} (h : MsgWF n E m) (hE : E ≤ E') : MsgWF n E' m := { h with epoch := ⟨h.epoch.1,Int.le_trans h.epoch.2 hE⟩ }
theorem RepWF.mono {n : Nat} {E E' : Int} {r : Rep} (h : RepWF n E r) (hE : E ≤ E') : RepWF n E' r :=
 {h with epoch := ⟨h.epoch.1,Int.le_trans h.epoch.2 hE⟩,lock := ⟨h.lock.1,Int.le_trans h.lock.2 hE⟩ }
theorem AccWF.mono {n : Nat} {E E' : Int} {r : Acc} (h : AccWF n E r) (hE : E ≤ E') : AccWF n E' r := { h with epoch := ⟨h.epoch.1,Int.le_trans h.epoch.2 hE⟩ }
theorem MasWF.mono {n : Nat} {E E' : Int} {r : Mas} (h : MasWF n E r) (hE : E ≤ E') : MasWF n E' r :=
 {h with epoch := ⟨h.epoch.1,Int.le_trans h.epoch.2 hE⟩,came := fun m hm => ⟨(h.came m hm).1.mono hE,(h.came m hm).2⟩ }
theorem memsOk_length {l : List Int} {n : Nat} (h : memsOk l n = true) : l.length ≤ n := by
 obtain ⟨h1,h2,_⟩ := (memsOk_iff _ _).1 h
 have hsub : l ⊆ firstInts n := by
  intro x hx
  obtain ⟨a,b⟩ := h1 x hx
  simp only [firstInts,List.mem_map,List.mem_range]
  exact ⟨x.toNat,by omega,by show Int.ofNat _ = _; simp; omega⟩
 have := h2.length_le_of_subset hsub
 simpa [firstInts] using this
theorem ent_nums_ok {x : Ent} (h : x.ok = true) : ∀ v ∈ x.nums,numOk v = true := by
 unfold Ent.ok at h
 simp only [Bool.and_eq_true,Bool.or_eq_true,decide_eq_true_eq] at h
 intro v hv
 simp only [Ent.nums,List.mem_cons,List.not_mem_nil,or_false] at hv
 rw [numOk_iff]
 rcases hv with rfl | rfl | rfl | rfl | rfl <;> omega
theorem MsgWF.ok {n : Nat} {E : Int} {m : Msg} (h : MsgWF n E m) (hn : n ≤ 5) (hE : E ≤ 2000) : m.ok = true := by
 unfold Msg.ok
 rw [msgOk_iff]
 have hml : m.mems.length ≤ 5 := by
  rcases h.mems with q | q
  ·rw [q]; exact Nat.zero_le _
  ·have := memsOk_length q; omega
 refine ⟨⟨h.kind.1,h.kind.2,hml,h.log.1⟩, ?_, ?_, ?_⟩
 ·rw [List.all_eq_true]
  intro x hx
  have h1 := h.src; have h2 := h.dst; have h3 := h.epoch; have h4 := h.ballot; have h5 := h.vote; have h6 := h.pos; have h7 := h.value
  simp only [Msg.head,List.mem_cons,List.not_mem_nil,or_false] at hx
  rw [numOk_iff]
  rcases hx with rfl | rfl | rfl | rfl | rfl | rfl | rfl <;> omega
 ·rw [List.all_eq_true]
  intro x hx
  rcases h.mems with q | q
  ·rw [q] at hx; cases hx
  ·have := ((memsOk_iff _ _).1 q).1 x hx
   rw [numOk_iff]; omega
 ·rw [List.all_eq_true]
  intro x hx
  simp only [entsNums,List.mem_flatMap] at hx
  obtain ⟨e,he,hx⟩ := hx
  exact ent_nums_ok (h.log.2 e he) x hx
theorem entsOk_nil : entsOk [] := ⟨Nat.zero_le _,fun x hx => by cases hx⟩
theorem entsOk_one {e : Ent} (h : e.ok = true) : entsOk [e] := ⟨by simp,fun x hx => by rw [List.mem_singleton] at hx; subst hx; exact h⟩
theorem getD_ok {l : List Ent} (h : entsOk l) {p : Nat} (hp : p < l.length) : (l.getD p Ent.zero).ok = true := by
 rw [List.getD,List.getElem?_eq_getElem hp]
 exact h.2 _ (List.getElem_mem hp)
theorem lastPut_le (key : Int) (l : List Ent) (h : ∀ x ∈ l,x.ok = true) (v : Int) (hv : -1 ≤ v ∧ v ≤ 999) : -1 ≤ l.foldl (fun v e => if e.kind = 1 ∧ e.key = key then e.value else v) v ∧ l.foldl (fun v e => if e.kind = 1 ∧ e.key = key then e.value else v) v ≤ 999 := by
 induction l generalizing v with
 | nil => exact hv
 | cons a t ih =>
  rw [List.foldl_cons]
  refine ih (fun x hx => h x (List.mem_cons_of_mem _ hx)) _ ?_
  split
  ·have := h a List.mem_cons_self
   unfold Ent.ok at this
   simp only [Bool.and_eq_true,Bool.or_eq_true,decide_eq_true_eq] at this
   omega
  ·exact hv
theorem answerAt_le {l : List Ent} (h : entsOk l) (p : Nat) : -1 ≤ answerAt l p ∧ answerAt l p ≤ 999 :=
 lastPut_le _ _ (fun x hx => h.2 x (List.mem_of_mem_take hx)) _ ⟨by decide,by decide⟩
section
variable {n : Nat} {E : Int} {own : Int}
theorem next_mem {l : List Int} {x y : Int} (h : nextOf l x = some y) : y ∈ l := by
 obtain ⟨a,_,h2⟩ := next_at h
 exact List.mem_of_getElem? h2
theorem prev_mem {l : List Int} {x y : Int} (h : prevOf l x = some y) : y ∈ l := by
 obtain ⟨a,h2,_⟩ := prev_at h
 exact List.mem_of_getElem? h2
theorem memsOk_mem {l : List Int} (h : memsOk l n = true) (hn : n ≤ 5) {x : Int} (hx : x ∈ l) : 0 ≤ x ∧ x ≤ 303 := by
 have := ((memsOk_iff _ _).1 h).1 x hx
 omega
theorem acks_wf {r : Rep} (h : RepWF n E r) (hn : n ≤ 5) (ho : 0 ≤ own ∧ own ≤ 303) : ∀ x ∈ r.acks own,MsgWF n E x := by
 intro x hx
 unfold Rep.acks at hx
 split at hx
 ·cases hx
 ·rename_i a ha
  rw [List.mem_singleton] at hx
  subst hx
  have h1 := memsOk_mem h.mems hn (prev_mem ha)
  have h2 := h.commit
  have h3 := h.log.1
  exact ⟨by show (1 : Int) ≤ 3 ∧ (3 : Int) ≤ 16; omega,ho,h1,h.epoch,by show (0 : Int) ≤ 0 ∧ (0 : Int) ≤ 2001; omega,by show (-1 : Int) ≤ 0 ∧ (0 : Int) ≤ 2001; omega,
   by show (0 : Int) ≤ (r.commit : Int) ∧ (r.commit : Int) ≤ 999; omega,by show (-1 : Int) ≤ 0 ∧ (0 : Int) ≤ 999; omega, .inl rfl,entsOk_nil,
   by intro q; exact absurd q (by show ¬ ((3 : Int) = 6 ∨ (3 : Int) = 11 ∨ (3 : Int) = 13 ∨ (3 : Int) = 15 ∨ ((3 : Int) = 10 ∧ _)); omega),by intro q; exact absurd q (by show ¬ ((3 : Int) = 1 ∨ (3 : Int) = 2); omega)⟩
theorem forward_wf {r : Rep} (h : RepWF n E r) (hn : n ≤ 5) (ho : 0 ≤ own ∧ own ≤ 303) {nx : Int} (hx : nx ∈ r.mems) {p : Nat} (hp : p < r.log.length) : MsgWF n E (r.forward own nx p) := by
 have h1 := memsOk_mem h.mems hn hx
 have h3 := h.log.1
 exact ⟨by show (1 : Int) ≤ 2 ∧ (2 : Int) ≤ 16; omega,ho,h1,h.epoch,by show (0 : Int) ≤ 0 ∧ (0 : Int) ≤ 2001; omega,by show (-1 : Int) ≤ 0 ∧ (0 : Int) ≤ 2001; omega,
   by show (0 : Int) ≤ (p : Int) ∧ (p : Int) ≤ 999; omega,by show (-1 : Int) ≤ 0 ∧ (0 : Int) ≤ 999; omega, .inl rfl,entsOk_one (getD_ok h.log hp),
   by intro q; exact absurd q (by show ¬ ((2 : Int) = 6 ∨ (2 : Int) = 11 ∨ (2 : Int) = 13 ∨ (2 : Int) = 15 ∨ ((2 : Int) = 10 ∧ _)); omega),fun _ => rfl⟩
theorem ent_bounds {x : Ent} (h : x.ok = true) : 0 ≤ x.client ∧ x.client ≤ 3 ∧ 0 ≤ x.seq ∧ x.seq ≤ 999 ∧ 0 ≤ x.key ∧ x.key ≤ 15 ∧ 0 ≤ x.value ∧ x.value ≤ 999 ∧ (x.kind = 1 ∨ (x.kind = 2 ∧ x.value = 0)) := by
 unfold Ent.ok at h
 simp only [Bool.and_eq_true,Bool.or_eq_true,decide_eq_true_eq] at h
 omega
theorem reply_wf {r : Rep} (h : RepWF n E r) (hE : 0 ≤ E) (ho : 0 ≤ own ∧ own ≤ 303) {p : Nat} (hp : p < r.log.length) : MsgWF n E (r.reply own p) := by
 have h1 := ent_bounds (getD_ok h.log hp)
 have h2 := answerAt_le h.log p
 exact ⟨by show (1 : Int) ≤ 4 ∧ (4 : Int) ≤ 16; omega,ho,by show (0 : Int) ≤ 300 + (r.log.getD p Ent.zero).client ∧ 300 + (r.log.getD p Ent.zero).client ≤ 303; omega,by show (0 : Int) ≤ 0 ∧ (0 : Int) ≤ E; omega,by show (0 : Int) ≤ 0 ∧ (0 : Int) ≤ 2001; omega,by show (-1 : Int) ≤ 0 ∧ (0 : Int) ≤ 2001; omega,
   by show (0 : Int) ≤ (r.log.getD p Ent.zero).seq ∧ (r.log.getD p Ent.zero).seq ≤ 999; omega,h2, .inl rfl,entsOk_nil,
   by intro q; exact absurd q (by show ¬ ((4 : Int) = 6 ∨ (4 : Int) = 11 ∨ (4 : Int) = 13 ∨ (4 : Int) = 15 ∨ ((4 : Int) = 10 ∧ _)); omega),by intro q; exact absurd q (by show ¬ ((4 : Int) = 1 ∨ (4 : Int) = 2); omega)⟩
theorem request_wf {e : Ent} {d o : Int} (h : e.ok = true) (hE : 0 ≤ E) (ho : 0 ≤ o ∧ o ≤ 303) (hd : 0 ≤ d ∧ d ≤ 303) : MsgWF n E { kind := 1,src := o,dst := d,log := [e] } :=
 ⟨by show (1 : Int) ≤ 1 ∧ (1 : Int) ≤ 16; omega,ho,hd,by show (0 : Int) ≤ 0 ∧ (0 : Int) ≤ E; omega,by show (0 : Int) ≤ 0 ∧ (0 : Int) ≤ 2001; omega,by show (-1 : Int) ≤ 0 ∧ (0 : Int) ≤ 2001; omega,
   by show (0 : Int) ≤ 0 ∧ (0 : Int) ≤ 999; omega,by show (-1 : Int) ≤ 0 ∧ (0 : Int) ≤ 999; omega, .inl rfl,entsOk_one h,
   by intro q; exact absurd q (by show ¬ ((1 : Int) = 6 ∨ (1 : Int) = 11 ∨ (1 : Int) = 13 ∨ (1 : Int) = 15 ∨ ((1 : Int) = 10 ∧ _)); omega),fun _ => rfl⟩
theorem put_wf {r : Rep} (h : RepWF n E r) (hn : n ≤ 5) (hE : 0 ≤ E) (ho : 0 ≤ own ∧ own ≤ 303) {e : Ent} (he : e.ok = true) (hl : r.log.length < 24) : RepWF n E (r.put own e).1 ∧ ∀ x ∈ (r.put own e).2,MsgWF n E x := by
 have hlog : entsOk (r.log ++ [e]) := by
  refine ⟨by simp; omega, ?_⟩
  intro x hx
  rcases List.mem_append.1 hx with q | q
  ·exact h.log.2 x q
  ·rw [List.mem_singleton] at q; subst q; exact he
 have h1 : RepWF n E { r with log := r.log ++ [e] } := { h with log := hlog,base := (by show r.base ≤ (r.log ++ [e]).length; have := h.base; simp; omega),commit := (by show r.commit ≤ (r.log ++ [e]).length; have := h.commit; simp; omega) }
 unfold Rep.put
 split
 ·rename_i nx hnx
  refine ⟨h1, ?_⟩
  intro x hx
  rw [List.mem_singleton] at hx
  subst hx
  exact forward_wf h1 hn ho (next_mem hnx) (by simp)
 ·have h2 : RepWF n E { r with log := r.log ++ [e],commit := (r.log ++ [e]).length } := { h1 with commit := Nat.le_refl _,bc := h1.base }
  refine ⟨h2, ?_⟩
  intro x hx
  unfold Rep.commitAll at hx
  rcases List.mem_append.1 hx with q | q
  ·simp only [List.mem_map] at q
   obtain ⟨p,hp,rfl⟩ := q
   exact reply_wf h1 hE ho (mem_places hp).2
  ·exact acks_wf h2 hn ho x q
theorem headD_mems {l : List Int} (h : memsOk l n = true) : l.headD 0 ∈ l := by
 have := ((memsOk_iff _ _).1 h).2.2
 cases l with
 | nil => exact absurd rfl this
 | cons a t => exact List.mem_cons_self
theorem asked_wf {r : Rep} (h : RepWF n E r) (hn : n ≤ 5) (hE : 0 ≤ E) (ho : 0 ≤ own ∧ own ≤ 303) {e : Ent} (he : e.ok = true) : RepWF n E (r.asked own e).1 ∧ ∀ x ∈ (r.asked own e).2,MsgWF n E x := by
 unfold Rep.asked
 split
 ·refine ⟨h, ?_⟩
  intro x hx
  rw [List.mem_singleton] at hx
  subst hx
  exact request_wf he hE ho (memsOk_mem h.mems hn (headD_mems h.mems))
 ·split
  ·split
   ·rename_i hp
    refine ⟨h, ?_⟩
    intro x hx
    rw [List.mem_singleton] at hx
    subst hx
    exact reply_wf h hE ho (by have := h.commit; omega)
   ·exact ⟨h,fun x hx => by cases hx⟩
  ·split
   ·exact ⟨h,fun x hx => by cases hx⟩
   ·exact put_wf h hn hE ho he (by omega)
theorem headD_ent {l : List Ent} (h : entsOk l) (h1 : l.length = 1) : (l.headD Ent.zero).ok = true := by
 cases l with
 | nil => simp at h1
 | cons a t => exact h.2 a List.mem_cons_self
theorem repTake_wf {r : Rep} (h : RepWF n E r) (hn : n ≤ 5) (hE : 0 ≤ E) (ho : 0 ≤ own ∧ own ≤ 303) {m : Msg} (hm : MsgWF n E m) : RepWF n E (r.take own m).1 ∧ ∀ x ∈ (r.take own m).2,MsgWF n E x := by
 unfold Rep.take
 split
 ·split
  ·rename_i hc
   exact asked_wf h hn hE ho (headD_ent hm.log hc.1)
  ·exact ⟨h,fun x hx => by cases hx⟩
 ·split
  ·unfold Rep.takeForward
   split
   ·rename_i hc
    split
    ·rename_i hp
     exact put_wf h hn hE ho (headD_ent hm.log hc.2.2.1) hp.2
    ·split
     ·exact ⟨h,acks_wf h hn ho⟩
     ·exact ⟨h,fun x hx => by cases hx⟩
   ·exact ⟨h,fun x hx => by cases hx⟩
  ·split
   ·unfold Rep.takeAck
    split
    ·rename_i hc
     have h1 : RepWF n E { r with commit := m.pos.toNat } := { h with commit := (by show m.pos.toNat ≤ r.log.length; omega),bc := (by show r.base ≤ m.pos.toNat; have := h.bc; omega) }
     exact ⟨h1,acks_wf h1 hn ho⟩
    ·exact ⟨h,fun x hx => by cases hx⟩
   ·split
    ·unfold Rep.takeSeal
     split
     ·exact ⟨h,fun x hx => by cases hx⟩
     ·have he := hm.epoch
      have hb := hm.ballot
      have hk := h.lock
      refine ⟨{ h with lock := by show (0 : Int) ≤ (if _ then _ else _) ∧ (if _ then _ else _) ≤ E; split <;> omega }, ?_⟩
      intro x hx
      rw [List.mem_singleton] at hx
      subst hx
      exact ⟨by show (1 : Int) ≤ 8 ∧ (8 : Int) ≤ 16; omega,ho,hm.src,he,hb,by show (-1 : Int) ≤ 0 ∧ (0 : Int) ≤ 2001; omega,by show (0 : Int) ≤ 0 ∧ (0 : Int) ≤ 999; omega,by show (-1 : Int) ≤ 0 ∧ (0 : Int) ≤ 999; omega, .inl rfl,h.log,
       by intro q; exact absurd q (by show ¬ ((8 : Int) = 6 ∨ (8 : Int) = 11 ∨ (8 : Int) = 13 ∨ (8 : Int) = 15 ∨ ((8 : Int) = 10 ∧ _)); omega),by intro q; exact absurd q (by show ¬ ((8 : Int) = 1 ∨ (8 : Int) = 2); omega)⟩
    ·split
     ·rename_i hk
      unfold Rep.takeInstall
      have he := hm.epoch
      refine ⟨?_, ?_⟩
      ·split
       ·exact ⟨he,h.lock,hm.has (.inr (.inr (.inl hk))),hm.log,Nat.le_refl _,Nat.le_refl _,Nat.le_refl _⟩
       ·exact h
      ·intro x hx
       rw [List.mem_singleton] at hx
       subst hx
       exact ⟨by show (1 : Int) ≤ 14 ∧ (14 : Int) ≤ 16; omega,ho,hm.src,he,by show (0 : Int) ≤ 0 ∧ (0 : Int) ≤ 2001; omega,by show (-1 : Int) ≤ 0 ∧ (0 : Int) ≤ 2001; omega,by show (0 : Int) ≤ 0 ∧ (0 : Int) ≤ 999; omega,by show (-1 : Int) ≤ 0 ∧ (0 : Int) ≤ 999; omega, .inl rfl,entsOk_nil,
        by intro q; exact absurd q (by show ¬ ((14 : Int) = 6 ∨ (14 : Int) = 11 ∨ (14 : Int) = 13 ∨ (14 : Int) = 15 ∨ ((14 : Int) = 10 ∧ _)); omega),by intro q; exact absurd q (by show ¬ ((14 : Int) = 1 ∨ (14 : Int) = 2); omega)⟩
     ·exact ⟨h,fun x hx => by cases hx⟩
theorem repTick_wf {r : Rep} (h : RepWF n E r) (hn : n ≤ 5) (ho : 0 ≤ own ∧ own ≤ 303) : ∀ x ∈ r.tick own,MsgWF n E x := by
 intro x hx
 unfold Rep.tick at hx
 split at hx
 ·split at hx
  ·exact acks_wf h hn ho x hx
  ·rename_i nx hnx
   simp only [List.mem_map] at hx
   obtain ⟨p,hp,rfl⟩ := hx
   exact forward_wf h hn ho (next_mem hnx) (mem_places hp).2
 ·cases hx
theorem accTake_wf {a : Acc} (h : AccWF n E a) {m : Msg} (hm : MsgWF n E m) : AccWF n E (a.take m).1 ∧ ∀ x ∈ (a.take m).2,MsgWF n E x := by
 have he := hm.epoch
 have hb := hm.ballot
 have hv := h.votes m.epoch
 unfold Acc.take
 split
 ·refine ⟨h, ?_⟩
  intro x hx
  rw [List.mem_singleton] at hx
  subst hx
  exact ⟨by show (1 : Int) ≤ 6 ∧ (6 : Int) ≤ 16; omega,hm.dst,hm.src,h.epoch,hb,by show (-1 : Int) ≤ 0 ∧ (0 : Int) ≤ 2001; omega,by show (0 : Int) ≤ 0 ∧ (0 : Int) ≤ 999; omega,by show (-1 : Int) ≤ 0 ∧ (0 : Int) ≤ 999; omega, .inr h.mems,entsOk_nil,
   fun _ => h.mems,by intro q; exact absurd q (by show ¬ ((6 : Int) = 1 ∨ (6 : Int) = 2); omega)⟩
 ·split
  ·split
   ·exact ⟨h,fun x hx => by cases hx⟩
   ·refine ⟨{ h with votes := ?_ }, ?_⟩
    ·intro e
     show VoteWF n (upd a.votes m.epoch _ e)
     unfold upd
     split
     ·exact { hv with promise := ⟨by show -1 ≤ m.ballot; omega,hb.2⟩ }
     ·exact h.votes e
    ·intro x hx
     rw [List.mem_singleton] at hx
     subst hx
     exact ⟨by show (1 : Int) ≤ 10 ∧ (10 : Int) ≤ 16; omega,hm.dst,hm.src,he,hb,hv.ballot,by show (0 : Int) ≤ 0 ∧ (0 : Int) ≤ 999; omega,by show (-1 : Int) ≤ 0 ∧ (0 : Int) ≤ 999; omega,hv.mems,hv.log,
      by
       intro q
       refine hv.has ?_
       rcases q with q | q | q | q | q
       ·exact absurd q (by show ¬ (10 : Int) = 6; omega)
       ·exact absurd q (by show ¬ (10 : Int) = 11; omega)
       ·exact absurd q (by show ¬ (10 : Int) = 13; omega)
       ·exact absurd q (by show ¬ (10 : Int) = 15; omega)
       ·exact q.2,by intro q; exact absurd q (by show ¬ ((10 : Int) = 1 ∨ (10 : Int) = 2); omega)⟩
  ·split
   ·rename_i hk
    split
    ·exact ⟨h,fun x hx => by cases hx⟩
    ·refine ⟨{ h with votes := ?_ }, ?_⟩
     ·intro e
      show VoteWF n (upd a.votes m.epoch _ e)
      unfold upd
      split
      ·exact ⟨⟨by show -1 ≤ m.ballot; omega,hb.2⟩,⟨by show -1 ≤ m.ballot; omega,hb.2⟩,hm.mems,fun _ => hm.has (.inr (.inl hk)),hm.log⟩
      ·exact h.votes e
     ·intro x hx
      rw [List.mem_singleton] at hx
      subst hx
      exact ⟨by show (1 : Int) ≤ 12 ∧ (12 : Int) ≤ 16; omega,hm.dst,hm.src,he,hb,by show (-1 : Int) ≤ 0 ∧ (0 : Int) ≤ 2001; omega,by show (0 : Int) ≤ 0 ∧ (0 : Int) ≤ 999; omega,by show (-1 : Int) ≤ 0 ∧ (0 : Int) ≤ 999; omega, .inl rfl,entsOk_nil,
       by intro q; exact absurd q (by show ¬ ((12 : Int) = 6 ∨ (12 : Int) = 11 ∨ (12 : Int) = 13 ∨ (12 : Int) = 15 ∨ ((12 : Int) = 10 ∧ _)); omega),by intro q; exact absurd q (by show ¬ ((12 : Int) = 1 ∨ (12 : Int) = 2); omega)⟩
   ·split
    ·rename_i hk
     refine ⟨?_, ?_⟩
     ·split
      ·exact ⟨he,hm.has (.inr (.inr (.inr (.inl hk)))),h.votes⟩
      ·exact h
     ·intro x hx
      rw [List.mem_singleton] at hx
      subst hx
      exact ⟨by show (1 : Int) ≤ 16 ∧ (16 : Int) ≤ 16; omega,hm.dst,hm.src,he,by show (0 : Int) ≤ 0 ∧ (0 : Int) ≤ 2001; omega,by show (-1 : Int) ≤ 0 ∧ (0 : Int) ≤ 2001; omega,by show (0 : Int) ≤ 0 ∧ (0 : Int) ≤ 999; omega,by show (-1 : Int) ≤ 0 ∧ (0 : Int) ≤ 999; omega, .inl rfl,entsOk_nil,
       by intro q; exact absurd q (by show ¬ ((16 : Int) = 6 ∨ (16 : Int) = 11 ∨ (16 : Int) = 13 ∨ (16 : Int) = 15 ∨ ((16 : Int) = 10 ∧ _)); omega),by intro q; exact absurd q (by show ¬ ((16 : Int) = 1 ∨ (16 : Int) = 2); omega)⟩
    ·exact ⟨h,fun x hx => by cases hx⟩
end
end Go.Proofs.YtgieeeeeiggoeaaGreat
namespace Go.Proofs.YtgieeeeeiggoeaaGreat
section
variable {n : Nat} {E : Int} {own : Int}
theorem all_bounds {s : Mas} (h : MasWF n E s) (hn : n ≤ 5) {d : Int} (hd : d ∈ s.all) : 0 ≤ d ∧ d ≤ 303 := by
 unfold Mas.all at hd
 split at hd
 ·cases hd
 ·rename_i q; exact memsOk_mem (h.old (by omega)) hn hd
 ·rename_i q; exact memsOk_mem (h.mems (by omega)) hn hd
 ·simp only [List.mem_cons,List.not_mem_nil,or_false] at hd; omega
theorem plain_wf {k d : Int} {e b : Int} (hk : k = 5 ∨ k = 7 ∨ k = 9) (ho : 0 ≤ own ∧ own ≤ 303) (hd : 0 ≤ d ∧ d ≤ 303) (he : 0 ≤ e ∧ e ≤ E) (hb : 0 ≤ b ∧ b ≤ 2001) :
  MsgWF n E { kind := k,src := own,dst := d,epoch := e,ballot := b } :=
 ⟨by show 1 ≤ k ∧ k ≤ 16; omega,ho,hd,he,hb,by show (-1 : Int) ≤ 0 ∧ (0 : Int) ≤ 2001; omega,by show (0 : Int) ≤ 0 ∧ (0 : Int) ≤ 999; omega,by show (-1 : Int) ≤ 0 ∧ (0 : Int) ≤ 999; omega, .inl rfl,entsOk_nil,
  by intro q; exact absurd q (by show ¬ (k = 6 ∨ k = 11 ∨ k = 13 ∨ k = 15 ∨ (k = 10 ∧ _)); omega),by intro q; exact absurd q (by show ¬ (k = 1 ∨ k = 2); omega)⟩
theorem full_wf {k d : Int} {e b : Int} {ms : List Int} {l : List Ent} (hk : k = 11 ∨ k = 13 ∨ k = 15) (ho : 0 ≤ own ∧ own ≤ 303) (hd : 0 ≤ d ∧ d ≤ 303) (he : 0 ≤ e ∧ e ≤ E) (hb : 0 ≤ b ∧ b ≤ 2001) (hm : memsOk ms n = true) (hl : entsOk l) :
  MsgWF n E { kind := k,src := own,dst := d,epoch := e,ballot := b,mems := ms,log := l } :=
 ⟨by show 1 ≤ k ∧ k ≤ 16; omega,ho,hd,he,hb,by show (-1 : Int) ≤ 0 ∧ (0 : Int) ≤ 2001; omega,by show (0 : Int) ≤ 0 ∧ (0 : Int) ≤ 999; omega,by show (-1 : Int) ≤ 0 ∧ (0 : Int) ≤ 999; omega, .inr hm,hl,
  fun _ => hm,by intro q; exact absurd q (by show ¬ (k = 1 ∨ k = 2); omega)⟩
theorem asks_wf {s : Mas} (h : MasWF n E s) (hn : n ≤ 5) (hE : 0 ≤ E) (ho : 0 ≤ own ∧ own ≤ 303) : ∀ x ∈ s.asks own,MsgWF n E x := by
 intro x hx
 unfold Mas.asks at hx
 simp only [List.mem_map,List.mem_filter] at hx
 obtain ⟨d,⟨hd,_⟩,rfl⟩ := hx
 have hdb := all_bounds h hn hd
 have h6 := h.does
 have z : (0 : Int) ≤ 0 ∧ (0 : Int) ≤ 2001 := by omega
 unfold Mas.ask
 split
 ·exact plain_wf (.inl rfl) ho hdb ⟨by omega,hE⟩ h.ballot
 ·exact plain_wf (.inr (.inl rfl)) ho hdb h.epoch h.ballot
 ·exact plain_wf (.inr (.inr rfl)) ho hdb h.epoch h.ballot
 ·rename_i q; exact full_wf (.inl rfl) ho hdb h.epoch h.ballot (h.mems (by omega)) h.log
 ·rename_i q; exact full_wf (.inr (.inl rfl)) ho hdb h.epoch z (h.mems (by omega)) h.log
 ·rename_i q1 q2 q3 q4 q5
  by_cases h0 : s.does = 0
  ·unfold Mas.all at hd
   rw [h0] at hd
   cases hd
  ·have : s.does ≠ 1 := fun e => q1 e
   have : s.does ≠ 2 := fun e => q2 e
   have : s.does ≠ 3 := fun e => q3 e
   exact full_wf (.inr (.inr rfl)) ho hdb h.epoch z (h.mems (by omega)) entsOk_nil
def Mas.reads (s : Mas) : Int := if s.does = 1 then 1 else 0
theorem wait_wf {s : Mas} (h : MasWF n E s) {m : Msg} (hm : MsgWF n E m) (hf : s.fits m = true) (hlen : (s.does ≠ 5 → s.came = []) ∧ (s.does = 5 → s.came.length + 1 < s.mems.length) ∧ s.does ≠ 2) : MasWF n E { s with came := s.came ++ [m] } := by
 obtain ⟨f1,f2,f3,f4,f5,f6⟩ := fits_iff hf
 exact { h with
  came := by
   intro x hx
   rcases List.mem_append.1 hx with q | q
   ·exact h.came x q
   ·rw [List.mem_singleton] at q; subst q; exact ⟨hm,f2,f5⟩
  nodup := by
   show ((s.came ++ [m]).map Msg.src).Nodup
   rw [List.map_append,List.map_singleton]
   unfold List.Nodup
   rw [List.pairwise_append]
   refine ⟨h.nodup,List.pairwise_singleton _ _, ?_⟩
   intro x hx y hy e
   rw [List.mem_singleton] at hy
   subst hy
   simp only [List.mem_map] at hx
   obtain ⟨z,hz,rfl⟩ := hx
   exact f6 z hz e
  few := by
   refine ⟨?_, ?_, ?_⟩
   ·intro q
    show (s.came ++ [m]).length ≤ 1
    rw [hlen.1 q]; simp
   ·intro q
    show (s.came ++ [m]).length < s.mems.length
    rw [List.length_append]
    exact hlen.2.1 q
   ·intro q
    have q' : s.does = 0 ∨ s.does = 2 := q
    omega }
theorem onward_wf {s : Mas} (hb : s.begun ≤ 1000) (h6 : s.does ≤ 6) (he : 0 ≤ s.epoch ∧ s.epoch ≤ E) (hbal : 0 ≤ s.ballot ∧ s.ballot ≤ 2001) (hmo : memsOr s.mems n) (hl : entsOk s.log) (hn : n ≤ 5) (hE : 0 ≤ E) (ho : 0 ≤ own ∧ own ≤ 303)
  (hw : memsOk s.want n = true) (ho2 : memsOk s.old n = true) (hm4 : 3 ≤ s.does → memsOk s.mems n = true) :
  MasWF n E (s.onward own).1 ∧ ∀ x ∈ (s.onward own).2,MsgWF n E x := by
 have hd : (s.onward own).1.does = if s.does = 6 then 0 else s.does + 1 := rfl
 have hd2 : (s.onward own).1.does ≠ 0 → (s.onward own).1.does = s.does + 1 ∧ s.does ≤ 5 := by
  rw [hd]
  intro q
  by_cases e : s.does = 6
  ·rw [if_pos e] at q; exact absurd rfl q
  ·rw [if_neg e]; exact ⟨rfl,by omega⟩
 have h1 : MasWF n E (s.onward own).1 :=
  {begun := hb
   does := by
    by_cases q : (s.onward own).1.does = 0
    ·rw [q]; omega
    ·obtain ⟨q1,q2⟩ := hd2 q; omega
   epoch := he,ballot := hbal,want := fun _ => hw,old := fun _ => ho2,memsO := hmo,log := hl
   mems := fun q => hm4 (by have := hd2 (by omega); omega)
   came := by intro x hx; cases hx
   nodup := List.Pairwise.nil
   few := by
    refine ⟨fun _ => Nat.zero_le _, ?_,fun _ => rfl⟩
    intro q
    have hm := hm4 (by have := hd2 (by omega); omega)
    have := ((memsOk_iff _ _).1 hm).2.2
    exact List.length_pos_iff.2 this }
 exact ⟨h1,asks_wf h1 hn hE ho⟩
theorem came_kind {s : Mas} (h : MasWF n E s) (m : Msg) (hc : s.came ≠ []) : MsgWF n E (s.came.headD m) ∧ (s.came.headD m).kind = 4 + 2 * (s.does : Int) := by
 obtain ⟨a,b,_⟩ := h.came _ (headD_mem hc m)
 exact ⟨a,b⟩
theorem masTake_wf {s : Mas} (h : MasWF n E s) (hn : n ≤ 5) (hE : 0 ≤ E) {m : Msg} (hm : MsgWF n E m) :
  MasWF n (E + s.reads - (s.take m).1.reads) (s.take m).1 ∧ (s.take m).1.reads ≤ s.reads ∧ (s.take m).1.begun = s.begun ∧ ∀ x ∈ (s.take m).2,MsgWF n (E + s.reads - (s.take m).1.reads) x := by
 have ho := hm.dst
 by_cases hf : s.fits m = true
 ·obtain ⟨f1,f2,f3,f4,f5,f6⟩ := fits_iff hf
  have h6 := h.does
  have hw := h.want f1
  unfold Mas.take
  rw [if_pos hf]
  split
  ·rename_i q
   have hr : s.reads = 1 := if_pos q
   split
   ·rename_i hc
    have := wait_wf h hm hf ⟨fun _ => hc,fun e => by omega,by omega⟩
    rw [hc] at this
    have hr2 : ({ s with came := [m] } : Mas).reads = 1 := if_pos q
    rw [hr,hr2]
    refine ⟨this.mono (by omega),by omega,rfl,fun x hx => by cases hx⟩
   ·rename_i hc
    obtain ⟨c1,c2⟩ := came_kind h m hc
    have hb : MsgWF n E (better Msg.epoch s.came m) ∧ (better Msg.epoch s.came m).kind = 6 := by
     rcases better_or Msg.epoch s.came m with e | e
     ·rw [e]; exact ⟨c1,by rw [c2,q]; rfl⟩
     ·rw [e]; exact ⟨hm,by rw [f2,q]; rfl⟩
    generalize better Msg.epoch s.came m = B at *
    have he := hb.1.epoch
    have hmm := hb.1.has (.inl hb.2)
    obtain ⟨r1,r2⟩ := onward_wf (n := n) (E := E + 1) (own := m.dst) (s := { s with epoch := B.epoch + 1,old := B.mems }) h.begun h6 ⟨by show 0 ≤ B.epoch + 1; omega,by show B.epoch + 1 ≤ E + 1; omega⟩ h.ballot h.memsO h.log hn (by omega) ho hw hmm (fun e => by have e' : 3 ≤ s.does := e; omega)
    have hr2 : (({ s with epoch := B.epoch + 1,old := B.mems } : Mas).onward m.dst).1.reads = 0 := by
     unfold Mas.reads Mas.onward; simp [q]
    rw [hr,hr2]
    exact ⟨r1.mono (by omega),by omega,rfl,fun x hx => (r2 x hx).mono (by omega)⟩
  ·rename_i q
   have hr : s.reads = 0 := if_neg (by omega)
   obtain ⟨r1,r2⟩ := onward_wf (n := n) (E := E) (own := m.dst) (s := { s with log := m.log }) h.begun h6 h.epoch h.ballot h.memsO hm.log hn hE ho hw (h.old (by omega)) (fun e => by have e' : 3 ≤ s.does := e; omega)
   have hr2 : (({ s with log := m.log } : Mas).onward m.dst).1.reads = 0 := by
    unfold Mas.reads Mas.onward; simp [q]
   rw [hr,hr2]
   exact ⟨r1.mono (by omega),by omega,rfl,fun x hx => (r2 x hx).mono (by omega)⟩
  ·rename_i q
   have hr : s.reads = 0 := if_neg (by omega)
   split
   ·rename_i hc
    have := wait_wf h hm hf ⟨fun _ => hc,fun e => by omega,by omega⟩
    rw [hc] at this
    have hr2 : ({ s with came := [m] } : Mas).reads = 0 := if_neg (by show ¬ s.does = 1; omega)
    rw [hr,hr2]
    refine ⟨this.mono (by omega),by omega,rfl,fun x hx => by cases hx⟩
   ·rename_i hc
    obtain ⟨c1,c2⟩ := came_kind h m hc
    have hb : MsgWF n E (better Msg.vote s.came m) ∧ (better Msg.vote s.came m).kind = 10 := by
     rcases better_or Msg.vote s.came m with e | e
     ·rw [e]; exact ⟨c1,by rw [c2,q]; rfl⟩
     ·rw [e]; exact ⟨hm,by rw [f2,q]; rfl⟩
    generalize better Msg.vote s.came m = B at *
    split
    ·rename_i hv
     have hmm := hb.1.has (.inr (.inr (.inr (.inr ⟨hb.2,hv⟩))))
     obtain ⟨r1,r2⟩ := onward_wf (n := n) (E := E) (own := m.dst) (s := { s with mems := B.mems,log := B.log }) h.begun h6 h.epoch h.ballot (.inr hmm) hb.1.log hn hE ho hw (h.old (by omega)) (fun _ => hmm)
     have hr2 : (({ s with mems := B.mems,log := B.log } : Mas).onward m.dst).1.reads = 0 := by
      unfold Mas.reads Mas.onward; simp [q]
     rw [hr,hr2]
     exact ⟨r1.mono (by omega),by omega,rfl,fun x hx => (r2 x hx).mono (by omega)⟩
    ·obtain ⟨r1,r2⟩ := onward_wf (n := n) (E := E) (own := m.dst) (s := { s with mems := s.want }) h.begun h6 h.epoch h.ballot (.inr hw) h.log hn hE ho hw (h.old (by omega)) (fun _ => hw)
     have hr2 : (({ s with mems := s.want } : Mas).onward m.dst).1.reads = 0 := by
      unfold Mas.reads Mas.onward; simp [q]
     rw [hr,hr2]
     exact ⟨r1.mono (by omega),by omega,rfl,fun x hx => (r2 x hx).mono (by omega)⟩
  ·rename_i q
   have hr : s.reads = 0 := if_neg (by omega)
   split
   ·rename_i hc
    have := wait_wf h hm hf ⟨fun e => by omega,fun _ => hc,by omega⟩
    have hr2 : ({ s with came := s.came ++ [m] } : Mas).reads = 0 := if_neg (by show ¬ s.does = 1; omega)
    rw [hr,hr2]
    refine ⟨this.mono (by omega),by omega,rfl,fun x hx => by cases hx⟩
   ·obtain ⟨r1,r2⟩ := onward_wf (own := m.dst) h.begun h6 h.epoch h.ballot h.memsO h.log hn hE ho hw (h.old (by omega)) (fun _ => h.mems (by omega))
    have hr2 : (s.onward m.dst).1.reads = 0 := by unfold Mas.reads Mas.onward; simp [q]
    rw [hr,hr2]
    exact ⟨r1.mono (by omega),by omega,rfl,fun x hx => (r2 x hx).mono (by omega)⟩
  ·rename_i q1 q2 q3 q5
   have : s.does ≠ 1 := fun e => q1 e
   have : s.does ≠ 2 := fun e => q2 e
   have : s.does ≠ 3 := fun e => q3 e
   have : s.does ≠ 5 := fun e => q5 e
   have hr : s.reads = 0 := if_neg (by omega)
   split
   ·rename_i hc
    have := wait_wf h hm hf ⟨fun _ => hc,fun e => by omega,by omega⟩
    rw [hc] at this
    have hr2 : ({ s with came := [m] } : Mas).reads = 0 := if_neg (by show ¬ s.does = 1; omega)
    rw [hr,hr2]
    refine ⟨this.mono (by omega),by omega,rfl,fun x hx => by cases hx⟩
   ·obtain ⟨r1,r2⟩ := onward_wf (own := m.dst) h.begun h6 h.epoch h.ballot h.memsO h.log hn hE ho hw (h.old (by omega)) (fun _ => h.mems (by omega))
    have hr2 : (s.onward m.dst).1.reads = 0 := by
     unfold Mas.reads Mas.onward
     by_cases e : s.does = 6
     ·simp [e]
     ·simp only [if_neg e]
      exact if_neg (by omega)
    rw [hr,hr2]
    exact ⟨r1.mono (by omega),by omega,rfl,fun x hx => (r2 x hx).mono (by omega)⟩
 ·unfold Mas.take
  rw [if_neg hf]
  show MasWF n (E + s.reads - s.reads) s ∧ s.reads ≤ s.reads ∧ s.begun = s.begun ∧ _
  exact ⟨h.mono (by omega),by omega,rfl,fun x hx => by cases hx⟩
theorem masStill_wf (up : Bool) {b : Nat} (hb : b ≤ 1000) (hE : 0 ≤ E) : MasWF n E (Mas.still up b) :=
 {begun := hb,does := Nat.zero_le _,epoch := ⟨Int.le_refl _,hE⟩,ballot := ⟨Int.le_refl _,by show (0 : Int) ≤ 2001; omega⟩,want := fun q => absurd rfl q,old := fun q => absurd q (by show ¬ 2 ≤ 0; decide),mems := fun q => absurd q (by show ¬ 4 ≤ 0; decide)
  memsO := .inl rfl,log := entsOk_nil,came := fun x hx => (by cases hx),nodup := List.Pairwise.nil,few := ⟨fun _ => Nat.zero_le _,fun q => absurd q (by show ¬ 0 = 5; decide),fun _ => rfl⟩ }
theorem masBegin_wf {s : Mas} (hb : s.begun < 1000) (hE : 0 ≤ E) (ho : isMas own) {l : List Int} (hl : memsOk l n = true) : MasWF n E (s.begin own l) :=
 {begun := hb,does := (by decide : 1 ≤ 6),epoch := ⟨Int.le_refl _,hE⟩,ballot := by show 0 ≤ 2 * (s.begun + 1 : Int) + (own - 200) ∧ 2 * (s.begun + 1 : Int) + (own - 200) ≤ 2001; unfold isMas at ho; omega
  want := fun _ => hl,old := fun q => absurd q (by show ¬ 2 ≤ 1; decide),mems := fun q => absurd q (by show ¬ 4 ≤ 1; decide)
  memsO := .inl rfl,log := entsOk_nil,came := fun x hx => (by cases hx),nodup := List.Pairwise.nil,few := ⟨fun _ => Nat.zero_le _,fun q => absurd q (by show ¬ 1 = 5; decide),fun _ => rfl⟩ }
end
end Go.Proofs.YtgieeeeeiggoeaaGreat
