import Derived.Test.YtgieeeeeiggoeaaGreatQ12
namespace Go.Proofs.YtgieeeeeiggoeaaGreat
theorem nodup_acc : ([100,101,102] : List Int).Nodup := by decide
theorem all_nodup {n : Nat} {E : Int} {s : Mas} (h : MasWF n E s) : s.all.Nodup := by
 unfold Mas.all
 split
 ·exact List.nodup_nil
 ·exact ((memsOk_iff _ _).1 (h.old (by omega))).2.1
 ·exact ((memsOk_iff _ _).1 (h.mems (by omega))).2.1
 ·exact nodup_acc
theorem all_len {n : Nat} {E : Int} {s : Mas} (h : MasWF n E s) (hn : n ≤ 5) : s.all.length ≤ 5 := by
 unfold Mas.all
 split
 ·simp
 ·have := memsOk_length (h.old (by omega)); omega
 ·have := memsOk_length (h.mems (by omega)); omega
 ·simp
theorem MRel.askOf {own : Int} {s : Mas} {p : PMas} (h : MRel own s p) (h0 : s.does ≠ 0) (h6 : s.does ≤ 6) (x : Int) : p.askOf own x = s.ask own x := by
 have hb := h.ballot h0
 have hd := h.doing
 rcases (by omega : s.does = 1 ∨ s.does = 2 ∨ s.does = 3 ∨ s.does = 4 ∨ s.does = 5 ∨ s.does = 6) with e | e | e | e | e | e
 all_goals rw [e] at hd
 all_goals simp [PMas.askOf,PMas.question,hd,Mas.ask,e,hb]
 ·exact h.epoch (by omega)
 ·exact h.epoch (by omega)
 ·exact ⟨h.epoch (by omega),h.last (by omega)⟩
 ·exact ⟨h.epoch (by omega),h.last (by omega)⟩
 ·exact ⟨h.epoch (by omega),(h.last (by omega)).1⟩
theorem MRel.asks {own : Int} {s : Mas} {p : PMas} (h : MRel own s p) (h6 : s.does ≤ 6) : p.asks own = s.asks own := by
 unfold PMas.asks Mas.asks
 rw [h.waits]
 by_cases h0 : s.does = 0
 ·unfold Mas.all
  rw [h0]
  rfl
 ·exact List.map_congr_left fun x _ => h.askOf h0 h6 x
theorem MRel.fits {own : Int} {s : Mas} {p : PMas} (h : MRel own s p) (h6 : s.does ≤ 6) (m : Msg) : (m.src ∈ p.waits ∧ p.isAnswer own m = true) ↔ s.fits m = true := by
 have hd := h.doing
 rw [h.waits,List.mem_filter]
 unfold Mas.fits
 rcases (by omega : s.does = 0 ∨ s.does = 1 ∨ s.does = 2 ∨ s.does = 3 ∨ s.does = 4 ∨ s.does = 5 ∨ s.does = 6) with e | e | e | e | e | e | e
 all_goals rw [e] at hd
 ·simp [PMas.isAnswer,hd,e]
 all_goals have hb := h.ballot (by omega)
 ·simp [PMas.isAnswer,hd,e,hb]
  constructor
  ·rintro ⟨⟨a,b⟩,c,d⟩; exact ⟨⟨⟨c,d⟩,a⟩,b⟩
  ·rintro ⟨⟨⟨c,d⟩,a⟩,b⟩; exact ⟨⟨a,b⟩,c,d⟩
 all_goals have he := h.epoch (by omega)
 all_goals simp [PMas.isAnswer,hd,e,hb,he]
 all_goals constructor
 ·rintro ⟨⟨a,b⟩,⟨c,d⟩,f⟩; exact ⟨⟨⟨⟨c,d⟩,f⟩,a⟩,b⟩
 ·rintro ⟨⟨⟨⟨c,d⟩,f⟩,a⟩,b⟩; exact ⟨⟨a,b⟩,⟨c,d⟩,f⟩
 ·rintro ⟨⟨a,b⟩,⟨c,d⟩,f⟩; exact ⟨⟨⟨⟨c,d⟩,f⟩,a⟩,b⟩
 ·rintro ⟨⟨⟨⟨c,d⟩,f⟩,a⟩,b⟩; exact ⟨⟨a,b⟩,⟨c,d⟩,f⟩
 ·rintro ⟨⟨a,b⟩,⟨c,d⟩,f⟩; exact ⟨⟨⟨⟨c,d⟩,f⟩,a⟩,b⟩
 ·rintro ⟨⟨⟨⟨c,d⟩,f⟩,a⟩,b⟩; exact ⟨⟨a,b⟩,⟨c,d⟩,f⟩
 ·rintro ⟨⟨a,b⟩,c,d⟩; exact ⟨⟨⟨c,d⟩,a⟩,b⟩
 ·rintro ⟨⟨⟨c,d⟩,a⟩,b⟩; exact ⟨⟨a,b⟩,c,d⟩
 ·rintro ⟨⟨a,b⟩,c,d⟩; exact ⟨⟨⟨c,d⟩,a⟩,b⟩
 ·rintro ⟨⟨⟨c,d⟩,a⟩,b⟩; exact ⟨⟨a,b⟩,c,d⟩
theorem filter_none (l : List Int) (c : List Msg) (hc : c = []) : l.filter (fun x => !(c.any (fun m => decide (m.src = x)))) = l := by
 subst hc
 simp
theorem MRel.less {own : Int} {n : Nat} {E : Int} {s : Mas} {p : PMas} (h : MRel own s p) (hw : MasWF n E s) (m : Msg) (hin : m.src ∈ p.waits) :
  (p.less m.src).waits = s.all.filter (fun x => !((s.came ++ [m]).any (fun m => decide (m.src = x)))) ∧ (p.less m.src).waits.length + (s.came ++ [m]).length = s.all.length := by
 have hnd : p.waits.Nodup := by rw [h.waits]; exact (all_nodup hw).filter _
 have e1 : (p.less m.src).waits = p.waits.erase m.src := by
  unfold PMas.less
  exact (List.erase_eq_eraseIdx_of_idxOf rfl).symm
 have hc := h.count
 refine ⟨?_, ?_⟩
 ·rw [e1,hnd.erase_eq_filter,h.waits,List.filter_filter]
  refine List.filter_congr fun x _ => ?_
  unfold Mas.cameFrom
  rw [List.any_append]
  simp
  cases h1 : (s.came.any fun m => decide (m.src = x)) <;> by_cases h2 : x = m.src
  ·simp [h2]
  ·have : ¬ m.src = x := fun e => h2 e.symm
   simp [h2,this]
  ·simp [h2]
  ·simp
 ·rw [e1,List.length_erase_of_mem hin]
  have : 0 < p.waits.length := List.length_pos_of_mem hin
  simp
  omega
theorem MRel.turn {own : Int} (d : Nat) (hd : 2 ≤ d ∧ d ≤ 6) (s' : Mas) (p' : PMas) (hs : s'.does = d) (hc : s'.came = []) (hb : p'.begun = s'.begun) (hba : p'.ballot own = s'.ballot) (he : p'.epoch = s'.epoch)
  (hv : d = 2 ∨ d = 3 → p'.vote = -1 ∧ p'.mems = s'.want) (h3 : d = 3 → p'.log = s'.log) (h4 : 4 ≤ d → p'.mems = s'.mems ∧ p'.log = s'.log) (ho : p'.old.length ≤ 5) (hm : p'.mems.length ≤ 5) (hl : p'.log.length ≤ 24) :
  MRel own s' (p'.turnTo own d s'.all).1 ∧ (p'.turnTo own d s'.all).2 = s'.asks own := by
 have key : MRel own s' (p'.turnTo own d s'.all).1 := by
  unfold PMas.turnTo
  refine ⟨hb,by simp [hs],fun _ => hba, ?_,by simp [hc],fun e => by omega,fun _ => he,fun e => hv (by omega),fun e => ⟨fun _ => ⟨(hv (by omega)).1,(hv (by omega)).2,h3 (by omega)⟩,fun m r e2 => by rw [hc] at e2; cases e2⟩,fun e => h4 (by omega),ho,hm,hl⟩
  unfold Mas.cameFrom
  rw [filter_none _ _ hc]
 exact ⟨key,key.asks (by omega)⟩
theorem better_one (f : Msg → Int) (m0 m : Msg) : better f [m0] m = if f m0 < f m then m else m0 := rfl
theorem take_1 {s : Mas} {m : Msg} (hf : s.fits m = true) (e : s.does = 1) : s.take m = if s.came = [] then ({ s with came := [m] }, []) else { s with epoch := (better Msg.epoch s.came m).epoch + 1,old := (better Msg.epoch s.came m).mems }.onward m.dst := by
 unfold Mas.take
 rw [if_pos hf]
 split <;> first | rfl | (exfalso; omega) | (exfalso; simp_all) | contradiction
theorem take_2 {s : Mas} {m : Msg} (hf : s.fits m = true) (e : s.does = 2) : s.take m = { s with log := m.log }.onward m.dst := by
 unfold Mas.take
 rw [if_pos hf]
 split <;> first | rfl | (exfalso; omega) | (exfalso; simp_all) | contradiction
theorem take_3 {s : Mas} {m : Msg} (hf : s.fits m = true) (e : s.does = 3) : s.take m = if s.came = [] then ({ s with came := [m] }, []) else
    if 0 ≤ (better Msg.vote s.came m).vote then { s with mems := (better Msg.vote s.came m).mems,log := (better Msg.vote s.came m).log }.onward m.dst
    else { s with mems := s.want }.onward m.dst := by
 unfold Mas.take
 rw [if_pos hf]
 split <;> first | rfl | (exfalso; omega) | (exfalso; simp_all) | contradiction
theorem take_4 {s : Mas} {m : Msg} (hf : s.fits m = true) (e : s.does = 4 ∨ s.does = 6) : s.take m = if s.came = [] then ({ s with came := [m] }, []) else s.onward m.dst := by
 unfold Mas.take
 rw [if_pos hf]
 split <;> first | rfl | (exfalso; omega)
theorem take_5 {s : Mas} {m : Msg} (hf : s.fits m = true) (e : s.does = 5) : s.take m = if s.came.length + 1 < s.mems.length then ({ s with came := s.came ++ [m] }, []) else s.onward m.dst := by
 unfold Mas.take
 rw [if_pos hf]
 split <;> first | rfl | (exfalso; omega) | (exfalso; simp_all) | contradiction
theorem all_acc {s : Mas} (e : s.does = 1 ∨ s.does = 3 ∨ s.does = 4 ∨ s.does = 6) : s.all = [100,101,102] := by
 unfold Mas.all
 split
 ·omega
 ·omega
 ·omega
 ·rfl
theorem MRel.take {own : Int} {n : Nat} {E : Int} {s : Mas} {p : PMas} {m : Msg} (h : MRel own s p) (hw : MasWF n E s) (hn : n ≤ 5) (hm : MsgWF n E m) (hd : m.dst = own) : MRel own (s.take m).1 (p.take own m).1 ∧ (p.take own m).2 = (s.take m).2 := by
 subst hd
 unfold PMas.take
 by_cases hf : s.fits m = true
 ·have hf' := (h.fits hw.does m).2 hf
  rw [if_pos hf']
  obtain ⟨hl1,hl2⟩ := h.less hw m hf'.1
  have hdo := h.doing
  have hkind : m.kind = 4 + 2 * (s.does : Int) := by
   unfold Mas.fits at hf
   simp only [Bool.and_eq_true,decide_eq_true_eq] at hf
   exact hf.1.1.1.1.2
  have hne : s.does ≠ 0 := by
   unfold Mas.fits at hf
   simp only [Bool.and_eq_true,decide_eq_true_eq] at hf
   exact hf.1.1.1.1.1
  have hmm5 : m.mems.length ≤ 5 := by
   rcases hm.mems with e | e
   ·simp [e]
   ·have := memsOk_length e; omega
  have hb := h.ballot hne
  generalize hq : p.less m.src = q at *
  have qb : q.begun = p.begun := by rw [← hq]; rfl
  have qd : q.doing = p.doing := by rw [← hq]; rfl
  have qba : q.ballot m.dst = p.ballot m.dst := by rw [← hq]; rfl
  have qe : q.epoch = p.epoch := by rw [← hq]; rfl
  have qo : q.old = p.old := by rw [← hq]; rfl
  have qv : q.vote = p.vote := by rw [← hq]; rfl
  have qm : q.mems = p.mems := by rw [← hq]; rfl
  have ql : q.log = p.log := by rw [← hq]; rfl
  rcases (by have := hw.does; omega : s.does = 1 ∨ s.does = 2 ∨ s.does = 3 ∨ s.does = 4 ∨ s.does = 5 ∨ s.does = 6) with e | e | e | e | e | e
  ·-- reads
   have hall : s.all = [100,101,102] := all_acc (by omega)
   have hv := h.vote (.inl e)
   have h1 := h.one e
   have q1 : q.doing = 1 := by rw [qd,hdo,e]; rfl
   have hen : (q.learn m).enough = decide ((q.waits.length : Int) ≤ 1) := by
    unfold PMas.learn PMas.learnRegister
    rw [if_pos q1]
    split <;> simp [PMas.enough,q1]
   have hle : q.learn m = q.learnRegister m := by unfold PMas.learn; rw [if_pos q1]
   rw [take_1 hf e]
   rw [hen,hle]
   rw [hall] at hl2
   cases hcame : s.came with
   | nil =>
    rw [hcame] at hl2
    simp at hl2
    have : ¬ (q.waits.length : Int) ≤ 1 := by omega
    have hno : ¬ decide ((q.waits.length : Int) ≤ 1) = true := by simpa using this
    rw [if_neg hno,if_pos rfl]
    refine ⟨?_,rfl⟩
    obtain ⟨g1,g2⟩ := h1.1 hcame
    have hlr : q.learnRegister m = { q with epoch := m.epoch + 1,old := m.mems } := by
     unfold PMas.learnRegister
     rw [if_pos (by rw [qe,g1]; have := hm.epoch; omega)]
    rw [hlr]
    refine ⟨qb.trans h.begun,by simp [qd,hdo],fun _ => qba.trans hb, ?_, ?_,fun _ => ⟨fun e2 => (by simp at e2),fun m' r e2 => by simp at e2; simp [e2.1]⟩,fun e2 => by simp at e2; omega,fun _ => ⟨qv.trans hv.1,qm.trans hv.2⟩,fun e2 => by simp at e2; omega,fun e2 => by simp at e2; omega,hmm5,by simp; rw [qm]; exact h.mems5,by simp; rw [ql]; exact h.log24⟩
    ·rw [hl1,hcame]
     rfl
    ·have : ({ s with came := [m] } : Mas).all = s.all := rfl
     simp [this,hall,hl2]
   | cons m0 r0 =>
    have hr0 : r0 = [] := by
     have := hw.few.1 (by omega)
     rw [hcame] at this
     simp at this
     exact this
    subst hr0
    rw [hcame] at hl2
    simp at hl2
    have : (q.waits.length : Int) ≤ 1 := by omega
    have hyes : decide ((q.waits.length : Int) ≤ 1) = true := by simpa using this
    rw [if_pos hyes,if_neg (List.cons_ne_nil _ _)]
    obtain ⟨g1,g2⟩ := h1.2 _ _ hcame
    have hlr : (q.learnRegister m).epoch = (better Msg.epoch [m0] m).epoch + 1 ∧ (q.learnRegister m).old = (better Msg.epoch [m0] m).mems ∧ (q.learnRegister m).begun = q.begun ∧ (q.learnRegister m).vote = q.vote ∧ (q.learnRegister m).mems = q.mems ∧ (q.learnRegister m).log = q.log ∧ (q.learnRegister m).doing = 1 := by
     unfold PMas.learnRegister
     rw [better_one]
     rw [qe,g1]
     by_cases hlt : m0.epoch < m.epoch
     ·rw [if_pos (by omega),if_pos hlt]
      exact ⟨rfl,rfl,rfl,rfl,rfl,rfl,q1⟩
     ·rw [if_neg (by omega),if_neg hlt]
      exact ⟨qe.trans g1,qo.trans g2,rfl,rfl,rfl,rfl,q1⟩
    obtain ⟨k1,k2,k3,k4,k5,k6,k7⟩ := hlr
    have hgo : (q.learnRegister m).goOn m.dst = ({ q.learnRegister m with old := [] } : PMas).turnTo m.dst 2 (q.learnRegister m).old := by unfold PMas.goOn; rw [if_pos k7]
    rw [hgo,k2]
    have hon : ({ s with epoch := (better Msg.epoch [m0] m).epoch + 1,old := (better Msg.epoch [m0] m).mems,came := [m0] } : Mas).onward m.dst = ({ s with epoch := (better Msg.epoch [m0] m).epoch + 1,old := (better Msg.epoch [m0] m).mems,does := 2,came := [] },({ s with epoch := (better Msg.epoch [m0] m).epoch + 1,old := (better Msg.epoch [m0] m).mems,does := 2,came := [] } : Mas).asks m.dst) := by
     unfold Mas.onward
     simp [e]
    rw [hon]
    have hol : (better Msg.epoch [m0] m).mems.length ≤ 5 := by
     rw [better_one]
     split
     ·exact hmm5
     ·have hm0 := (hw.came m0 (by rw [hcame]; simp)).1
      rcases hm0.mems with e2 | e2
      ·simp [e2]
      ·have := memsOk_length e2; simp; omega
    exact MRel.turn 2 (by omega) _ _ rfl rfl (k3.trans (qb.trans h.begun)) (by show PMas.ballot _ _ = _; unfold PMas.ballot; simp only; rw [k3]; rw [← hb, ← qba]; rfl) k1 (fun _ => ⟨k4.trans (qv.trans hv.1),k5.trans (qm.trans hv.2)⟩) (fun e2 => by omega) (fun e2 => by omega) (by simp) (by show (q.learnRegister m).mems.length ≤ 5; rw [k5,qm]; exact h.mems5) (by show (q.learnRegister m).log.length ≤ 24; rw [k6,ql]; exact h.log24)
  ·-- seals
   have hv := h.vote (.inr e)
   have q1 : q.doing = 2 := by rw [qd,hdo,e]; rfl
   have hle : q.learn m = { q with log := m.log } := by unfold PMas.learn; rw [if_neg (by rw [q1]; decide),if_pos q1]
   rw [take_2 hf e]
   rw [hle]
   have hen : ({ q with log := m.log } : PMas).enough = true := by unfold PMas.enough; rw [if_pos q1]
   rw [if_pos hen]
   have hgo : ({ q with log := m.log } : PMas).goOn m.dst = ({ q with log := m.log } : PMas).turnTo m.dst 3 [100,101,102] := by unfold PMas.goOn; rw [if_neg (by rw [q1]; decide),if_pos q1]
   have hon : ({ s with log := m.log } : Mas).onward m.dst = ({ s with log := m.log,does := 3,came := [] },({ s with log := m.log,does := 3,came := [] } : Mas).asks m.dst) := by
    unfold Mas.onward
    simp [e]
   rw [hgo,hon]
   exact MRel.turn 3 (by omega) { s with log := m.log,does := 3,came := [] } { q with log := m.log } rfl rfl (qb.trans h.begun) (qba.trans hb) (qe.trans (h.epoch (by omega))) (fun _ => ⟨qv.trans hv.1,qm.trans hv.2⟩) (fun _ => rfl) (fun e2 => by omega) (by simp; rw [qo]; exact h.old5) (by simp; rw [qm]; exact h.mems5) hm.log.1
  ·-- prepares
   have hall : s.all = [100,101,102] := all_acc (by omega)
   have h3 := h.three e
   have q1 : q.doing = 3 := by rw [qd,hdo,e]; rfl
   have hen : (q.learn m).enough = decide ((q.waits.length : Int) ≤ 1) := by
    unfold PMas.learn PMas.learnVote
    rw [if_neg (by rw [q1]; decide),if_neg (by rw [q1]; decide),if_pos q1]
    split <;> simp [PMas.enough,q1]
   have hle : q.learn m = q.learnVote m := by unfold PMas.learn; rw [if_neg (by rw [q1]; decide),if_neg (by rw [q1]; decide),if_pos q1]
   rw [take_3 hf e]
   rw [hen,hle]
   rw [hall] at hl2
   cases hcame : s.came with
   | nil =>
    rw [hcame] at hl2
    simp at hl2
    have : ¬ (q.waits.length : Int) ≤ 1 := by omega
    have hno : ¬ decide ((q.waits.length : Int) ≤ 1) = true := by simpa using this
    rw [if_neg hno,if_pos rfl]
    refine ⟨?_,rfl⟩
    obtain ⟨g1,g2,g3⟩ := h3.1 (.inl hcame)
    have hwait : q.waits = ({ s with came := [m] } : Mas).all.filter (fun x => !({ s with came := [m] } : Mas).cameFrom x) := by
     rw [hl1,hcame]
     rfl
    have hcnt : q.waits.length + 1 = ({ s with came := [m] } : Mas).all.length := by
     have : ({ s with came := [m] } : Mas).all = s.all := rfl
     simp [this,hall,hl2]
    by_cases hvt : -1 < m.vote
    ·have hlr : q.learnVote m = { q with vote := m.vote,mems := m.mems,log := m.log } := by
      unfold PMas.learnVote
      rw [if_pos (by rw [qv,g1]; exact hvt)]
     rw [hlr]
     refine ⟨qb.trans h.begun,by simp [qd,hdo],fun _ => qba.trans hb,hwait,hcnt,fun e2 => by simp at e2; omega,fun _ => qe.trans (h.epoch (by omega)),fun e2 => by simp at e2; omega,fun _ => ⟨fun e2 => ?_,fun m' r e2 _ => ?_⟩,fun e2 => by simp at e2; omega,by simp; rw [qo]; exact h.old5,hmm5,hm.log.1⟩
     ·rcases e2 with e2 | ⟨m',r,e2,e3⟩
      ·cases e2
      ·cases e2; omega
     ·cases e2; exact ⟨rfl,rfl,rfl⟩
    ·have hlr : q.learnVote m = q := by
      unfold PMas.learnVote
      rw [if_neg (by rw [qv,g1]; exact hvt)]
     rw [hlr]
     refine ⟨qb.trans h.begun,by simp [qd,hdo],fun _ => qba.trans hb,hwait,hcnt,fun e2 => by simp at e2; omega,fun _ => qe.trans (h.epoch (by omega)),fun e2 => by simp at e2; omega,fun _ => ⟨fun e2 => ⟨qv.trans g1,qm.trans g2,ql.trans g3⟩,fun m' r e2 e3 => ?_⟩,fun e2 => by simp at e2; omega,by rw [qo]; exact h.old5,by rw [qm]; exact h.mems5,by rw [ql]; exact h.log24⟩
     cases e2
     omega
   | cons m0 r0 =>
    have hr0 : r0 = [] := by
     have := hw.few.1 (by omega)
     rw [hcame] at this
     simp at this
     exact this
    subst hr0
    rw [hcame] at hl2
    simp at hl2
    have : (q.waits.length : Int) ≤ 1 := by omega
    have hyes : decide ((q.waits.length : Int) ≤ 1) = true := by simpa using this
    rw [if_pos hyes,if_neg (List.cons_ne_nil _ _)]
    have hm0 := (hw.came m0 (by rw [hcame]; simp)).1
    have k7 : (q.learnVote m).doing = 3 := by unfold PMas.learnVote; split <;> exact q1
    have kb : (q.learnVote m).begun = q.begun := by unfold PMas.learnVote; split <;> rfl
    have ke : (q.learnVote m).epoch = q.epoch := by unfold PMas.learnVote; split <;> rfl
    have ko : (q.learnVote m).old = q.old := by unfold PMas.learnVote; split <;> rfl
    have hgo : (q.learnVote m).goOn m.dst = (q.learnVote m).turnTo m.dst 4 [100,101,102] := by unfold PMas.goOn; rw [if_neg (by rw [k7]; decide),if_neg (by rw [k7]; decide),if_pos k7]
    have hm5' : (q.learnVote m).mems.length ≤ 5 := by
     unfold PMas.learnVote
     split
     ·exact hmm5
     ·rw [qm]; exact h.mems5
    have hl24' : (q.learnVote m).log.length ≤ 24 := by
     unfold PMas.learnVote
     split
     ·exact hm.log.1
     ·rw [ql]; exact h.log24
    have kbal : (q.learnVote m).ballot m.dst = s.ballot := by rw [← hb, ← qba]; unfold PMas.ballot; rw [kb]
    rw [hgo]
    by_cases hbv : 0 ≤ (better Msg.vote [m0] m).vote
    ·have hval : (q.learnVote m).mems = (better Msg.vote [m0] m).mems ∧ (q.learnVote m).log = (better Msg.vote [m0] m).log := by
      rw [better_one] at hbv ⊢
      unfold PMas.learnVote
      by_cases hlt : m0.vote < m.vote
      ·rw [if_pos hlt] at hbv ⊢
       have : q.vote < m.vote := by
        rw [qv]
        by_cases h00 : -1 < m0.vote
        ·rw [(h3.2 _ _ hcame h00).1]; exact hlt
        ·rw [(h3.1 (.inr ⟨_,_,hcame,by omega⟩)).1]; omega
       rw [if_pos this]
       exact ⟨rfl,rfl⟩
      ·rw [if_neg hlt] at hbv ⊢
       obtain ⟨z1,z2,z3⟩ := h3.2 _ _ hcame (by omega)
       rw [if_neg (by rw [qv,z1]; exact hlt)]
       exact ⟨qm.trans z2,ql.trans z3⟩
     rw [if_pos hbv]
     have hon : ({ s with mems := (better Msg.vote [m0] m).mems,log := (better Msg.vote [m0] m).log,came := [m0] } : Mas).onward m.dst = ({ s with mems := (better Msg.vote [m0] m).mems,log := (better Msg.vote [m0] m).log,does := 4,came := [] },({ s with mems := (better Msg.vote [m0] m).mems,log := (better Msg.vote [m0] m).log,does := 4,came := [] } : Mas).asks m.dst) := by
      unfold Mas.onward
      simp [e]
     rw [hon]
     exact MRel.turn 4 (by omega) { s with mems := (better Msg.vote [m0] m).mems,log := (better Msg.vote [m0] m).log,does := 4,came := [] } (q.learnVote m) rfl rfl (kb.trans (qb.trans h.begun)) kbal (ke.trans (qe.trans (h.epoch (by omega)))) (fun e2 => by omega) (fun e2 => by omega) (fun _ => hval) (by rw [ko,qo]; exact h.old5) hm5' hl24'
    ·have hval : (q.learnVote m).mems = s.want ∧ (q.learnVote m).log = s.log := by
      rw [better_one] at hbv
      have h00 : m0.vote ≤ -1 ∧ m.vote ≤ -1 := by
       split at hbv <;> omega
      obtain ⟨z1,z2,z3⟩ := h3.1 (.inr ⟨_,_,hcame,h00.1⟩)
      unfold PMas.learnVote
      rw [if_neg (by rw [qv,z1]; omega)]
      exact ⟨qm.trans z2,ql.trans z3⟩
     rw [if_neg hbv]
     have hon : ({ s with mems := s.want,came := [m0] } : Mas).onward m.dst = ({ s with mems := s.want,does := 4,came := [] },({ s with mems := s.want,does := 4,came := [] } : Mas).asks m.dst) := by
      unfold Mas.onward
      simp [e]
     rw [hon]
     exact MRel.turn 4 (by omega) { s with mems := s.want,does := 4,came := [] } (q.learnVote m) rfl rfl (kb.trans (qb.trans h.begun)) kbal (ke.trans (qe.trans (h.epoch (by omega)))) (fun e2 => by omega) (fun e2 => by omega) (fun _ => hval) (by rw [ko,qo]; exact h.old5) hm5' hl24'
  ·-- asks for votes
   have hall : s.all = [100,101,102] := all_acc (by omega)
   have q1 : q.doing = 4 := by rw [qd,hdo,e]; rfl
   have h4 := h.last (by omega)
   have hle : q.learn m = q := by unfold PMas.learn; rw [if_neg (by rw [q1]; decide),if_neg (by rw [q1]; decide),if_neg (by rw [q1]; decide)]
   have hen : q.enough = decide ((q.waits.length : Int) ≤ 1) := by unfold PMas.enough; rw [if_neg (by rw [q1]; decide),if_neg (by rw [q1]; decide)]
   rw [take_4 hf (.inl e)]
   rw [hle,hen]
   rw [hall] at hl2
   cases hcame : s.came with
   | nil =>
    rw [hcame] at hl2
    simp at hl2
    have : ¬ (q.waits.length : Int) ≤ 1 := by omega
    have hno : ¬ decide ((q.waits.length : Int) ≤ 1) = true := by simpa using this
    rw [if_neg hno,if_pos rfl]
    refine ⟨⟨qb.trans h.begun,by simp [qd,hdo],fun _ => qba.trans hb,by rw [hl1,hcame]; rfl, ?_,fun e2 => by simp at e2; omega,fun _ => qe.trans (h.epoch (by omega)),fun e2 => by simp at e2; omega,fun e2 => by simp at e2; omega,fun _ => ⟨qm.trans h4.1,ql.trans h4.2⟩,by rw [qo]; exact h.old5,by rw [qm]; exact h.mems5,by rw [ql]; exact h.log24⟩,rfl⟩
    have : ({ s with came := [m] } : Mas).all = s.all := rfl
    simp [this,hall,hl2]
   | cons m0 r0 =>
    rw [hcame] at hl2
    simp at hl2
    have : (q.waits.length : Int) ≤ 1 := by omega
    have hyes : decide ((q.waits.length : Int) ≤ 1) = true := by simpa using this
    rw [if_pos hyes,if_neg (List.cons_ne_nil _ _)]
    have hgo : q.goOn m.dst = q.turnTo m.dst 5 q.mems := by unfold PMas.goOn; rw [if_neg (by rw [q1]; decide),if_neg (by rw [q1]; decide),if_neg (by rw [q1]; decide),if_pos q1]
    have hon : s.onward m.dst = ({ s with does := 5,came := [] },({ s with does := 5,came := [] } : Mas).asks m.dst) := by
     unfold Mas.onward
     simp [e]
    rw [hgo,hon,qm,h4.1]
    exact MRel.turn 5 (by omega) { s with does := 5,came := [] } q rfl rfl (qb.trans h.begun) (qba.trans hb) (qe.trans (h.epoch (by omega))) (fun e2 => by omega) (fun e2 => by omega) (fun _ => ⟨qm.trans h4.1,ql.trans h4.2⟩) (by rw [qo]; exact h.old5) (by rw [qm]; exact h.mems5) (by rw [ql]; exact h.log24)
  ·-- installs
   have hall : s.all = s.mems := by unfold Mas.all; split <;> first | rfl | (exfalso; omega) | (exfalso; simp_all)
   have q1 : q.doing = 5 := by rw [qd,hdo,e]; rfl
   have h4 := h.last (by omega)
   have hle : q.learn m = q := by unfold PMas.learn; rw [if_neg (by rw [q1]; decide),if_neg (by rw [q1]; decide),if_neg (by rw [q1]; decide)]
   have hen : q.enough = decide ((q.waits.length : Int) = 0) := by unfold PMas.enough; rw [if_neg (by rw [q1]; decide),if_pos q1]
   rw [take_5 hf e]
   rw [hle,hen]
   rw [hall] at hl2
   simp at hl2
   by_cases hlt : s.came.length + 1 < s.mems.length
   ·have hno : ¬ decide ((q.waits.length : Int) = 0) = true := by simp only [decide_eq_true_eq]; omega
    rw [if_neg hno,if_pos hlt]
    refine ⟨⟨qb.trans h.begun,by simp [qd,hdo],fun _ => qba.trans hb,by rw [hl1]; rfl, ?_,fun e2 => by simp at e2; omega,fun _ => qe.trans (h.epoch (by omega)),fun e2 => by simp at e2; omega,fun e2 => by simp at e2; omega,fun _ => ⟨qm.trans h4.1,ql.trans h4.2⟩,by rw [qo]; exact h.old5,by rw [qm]; exact h.mems5,by rw [ql]; exact h.log24⟩,rfl⟩
    have : ({ s with came := s.came ++ [m] } : Mas).all = s.all := rfl
    simp [this,hall,hl2]
   ·have hyes : decide ((q.waits.length : Int) = 0) = true := by simp only [decide_eq_true_eq]; have := hw.few.2.1 e; omega
    rw [if_pos hyes,if_neg hlt]
    have hgo : q.goOn m.dst = q.turnTo m.dst 6 [100,101,102] := by unfold PMas.goOn; rw [if_neg (by rw [q1]; decide),if_neg (by rw [q1]; decide),if_neg (by rw [q1]; decide),if_neg (by rw [q1]; decide),if_pos q1]
    have hon : s.onward m.dst = ({ s with does := 6,came := [] },({ s with does := 6,came := [] } : Mas).asks m.dst) := by
     unfold Mas.onward
     simp [e]
    rw [hgo,hon]
    exact MRel.turn 6 (by omega) { s with does := 6,came := [] } q rfl rfl (qb.trans h.begun) (qba.trans hb) (qe.trans (h.epoch (by omega))) (fun e2 => by omega) (fun e2 => by omega) (fun _ => ⟨qm.trans h4.1,ql.trans h4.2⟩) (by rw [qo]; exact h.old5) (by rw [qm]; exact h.mems5) (by rw [ql]; exact h.log24)
  ·-- writes
   have hall : s.all = [100,101,102] := all_acc (by omega)
   have q1 : q.doing = 6 := by rw [qd,hdo,e]; rfl
   have h4 := h.last (by omega)
   have hle : q.learn m = q := by unfold PMas.learn; rw [if_neg (by rw [q1]; decide),if_neg (by rw [q1]; decide),if_neg (by rw [q1]; decide)]
   have hen : q.enough = decide ((q.waits.length : Int) ≤ 1) := by unfold PMas.enough; rw [if_neg (by rw [q1]; decide),if_neg (by rw [q1]; decide)]
   rw [take_4 hf (.inr e)]
   rw [hle,hen]
   rw [hall] at hl2
   cases hcame : s.came with
   | nil =>
    rw [hcame] at hl2
    simp at hl2
    have : ¬ (q.waits.length : Int) ≤ 1 := by omega
    have hno : ¬ decide ((q.waits.length : Int) ≤ 1) = true := by simpa using this
    rw [if_neg hno,if_pos rfl]
    refine ⟨⟨qb.trans h.begun,by simp [qd,hdo],fun _ => qba.trans hb,by rw [hl1,hcame]; rfl, ?_,fun e2 => by simp at e2; omega,fun _ => qe.trans (h.epoch (by omega)),fun e2 => by simp at e2; omega,fun e2 => by simp at e2; omega,fun _ => ⟨qm.trans h4.1,ql.trans h4.2⟩,by rw [qo]; exact h.old5,by rw [qm]; exact h.mems5,by rw [ql]; exact h.log24⟩,rfl⟩
    have : ({ s with came := [m] } : Mas).all = s.all := rfl
    simp [this,hall,hl2]
   | cons m0 r0 =>
    rw [hcame] at hl2
    simp at hl2
    have : (q.waits.length : Int) ≤ 1 := by omega
    have hyes : decide ((q.waits.length : Int) ≤ 1) = true := by simpa using this
    rw [if_pos hyes,if_neg (List.cons_ne_nil _ _)]
    have hgo : q.goOn m.dst = (q.idle, []) := by unfold PMas.goOn; rw [if_neg (by rw [q1]; decide),if_neg (by rw [q1]; decide),if_neg (by rw [q1]; decide),if_neg (by rw [q1]; decide),if_neg (by rw [q1]; decide)]
    have hon : s.onward m.dst = ({ s with does := 0,came := [] }, []) := by
     unfold Mas.onward
     simp [e]
     rfl
    rw [hgo,hon]
    exact ⟨⟨qb.trans h.begun,rfl,fun e2 => absurd rfl e2,rfl,rfl,fun e2 => by simp at e2,fun e2 => by simp at e2,fun e2 => by simp at e2,fun e2 => by simp at e2,fun e2 => by simp at e2,by simp [PMas.idle],by simp [PMas.idle],by simp [PMas.idle]⟩,rfl⟩
 ·have hf' : ¬ (m.src ∈ p.waits ∧ p.isAnswer m.dst m = true) := fun e => hf ((h.fits hw.does m).1 e)
  have : s.take m = (s, []) := by unfold Mas.take; rw [if_neg hf]
  rw [if_neg hf',this]
  exact ⟨h,rfl⟩
theorem MRel.still (own : Int) (up : Bool) (s : Mas) (p : PMas) (h : p.begun = s.begun) : MRel own (Mas.still up s.begun) p.idle :=
 ⟨h,rfl,fun e => absurd rfl e,rfl,rfl,fun e => by simp [Mas.still] at e,fun e => by simp [Mas.still] at e,fun e => by simp [Mas.still] at e,fun e => by simp [Mas.still] at e,fun e => by simp [Mas.still] at e,by simp [PMas.idle],by simp [PMas.idle],by simp [PMas.idle]⟩
theorem MRel.begin {own : Int} {n : Nat} {s : Mas} {p : PMas} (h : MRel own s p) (l : List Int) (hl : memsOk l n = true) (hn : n ≤ 5) :
  MRel own (s.begin own l) ((p.fresh l).turnTo own 1 [100,101,102]).1 ∧ ((p.fresh l).turnTo own 1 [100,101,102]).2 = (s.begin own l).asks own := by
 have hl5 : l.length ≤ 5 := by have := memsOk_length hl; omega
 have key : MRel own (s.begin own l) ((p.fresh l).turnTo own 1 [100,101,102]).1 :=
  ⟨by show p.begun + 1 = s.begun + 1; rw [h.begun],rfl,fun _ => by show 2 * ((p.begun + 1 : Nat) : Int) + own - 200 = 2 * ((s.begun : Int) + 1) + (own - 200); rw [h.begun]; omega,rfl,rfl,fun _ => ⟨fun _ => ⟨rfl,rfl⟩,fun m r e => by simp [Mas.begin] at e⟩,fun e => by simp [Mas.begin] at e,fun _ => ⟨rfl,rfl⟩,fun e => by simp [Mas.begin] at e,fun e => by simp [Mas.begin] at e,by simp [PMas.turnTo,PMas.fresh],hl5,by simp [PMas.turnTo,PMas.fresh]⟩
 exact ⟨key,key.asks (by show (1 : Nat) ≤ 6; omega)⟩
end Go.Proofs.YtgieeeeeiggoeaaGreat
