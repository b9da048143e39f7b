import Derived.Test.YtgieeeeeiggoeaaGreatQ04
namespace Go.Proofs.YtgieeeeeiggoeaaGreat
theorem MsgInv.ofS {g : Gh} {s : St} {k : Int} {m' : Mas} {m : Msg} (h : MsgInv g s m) : MsgInv g (s.setS k m') m :=
 ⟨h.req,h.fwd,h.ack,h.rep,h.reg,h.sea,h.sed,h.pre,h.pro,h.acc,h.acd,h.ins,h.wri⟩
theorem MasInv.wait {g : Gh} {s : St} {k : Int} (h : MasInv g s k) {m : Msg} (hm : MsgInv g s m) (hf : (s.S k).fits m = true) : MasInv g (s.setS k { s.S k with came := (s.S k).came ++ [m] }) k := by
 obtain ⟨f1,f2,f3,f4,f5,f6⟩ := fits_iff hf
 have hS := setS_same s k { s.S k with came := (s.S k).came ++ [m] }
 exact
  {does := by rw [hS]; exact h.does
   bal := by rw [hS]; exact h.bal
   want := by rw [hS]; exact h.want
   cameI := by
    rw [hS]
    intro x hx
    rcases List.mem_append.1 hx with q | q
    ·obtain ⟨q1,q2⟩ := h.cameI x q
     exact ⟨q1.ofS,q2⟩
    ·rw [List.mem_singleton] at q
     subst q
     exact ⟨hm.ofS,f2,f5,f3,f4⟩
   old := by rw [hS]; exact h.old
   prep := by rw [hS]; exact h.prep
   logs := by rw [hS]; exact h.logs
   prop := by rw [hS]; exact h.prop
   cfg := by rw [hS]; exact h.cfg }
theorem came_on {s : St} {k : Int} {m' : Mas} (hb : m'.begun = (s.S k).begun) (hbal : m'.does ≠ 0 → (s.S k).does ≠ 0 ∧ m'.ballot = (s.S k).ballot) (hd : m'.does ≠ 0 → (s.S k).does ≤ m'.does)
  (hE : m'.does ≠ 0 → 3 ≤ (s.S k).does → m'.epoch = (s.S k).epoch) : ∀ b E d,3 ≤ d → Proofs.YtgieeeeeiggoeaaGreat.came s b E d → Proofs.YtgieeeeeiggoeaaGreat.came (s.setS k m') b E d := by
 intro b E d h3 h
 refine came_mono h (by omega) ?_ ?_
 ·intro q1 _ _ q4 q5 _
  have := hd q1
  exact ⟨by omega,by rw [hE q1 (by omega)]; exact q5⟩
 ·intro q1 _
  exact ⟨(hbal q1).1,(hbal q1).2.symm⟩
theorem Inv.masWait {g : Gh} {s : St} (h : Inv g s) {k : Int} (hk : isMas k) {m : Msg} (hm : MsgInv g s m) (hf : (s.S k).fits m = true) :
  ∃ g',Inv g' (s.setS k { s.S k with came := (s.S k).came ++ [m] }) ∧ Le g s g' (s.setS k { s.S k with came := (s.S k).came ++ [m] }) ∧ ∀ x ∈ ([] : List Msg),MsgInv g' (s.setS k { s.S k with came := (s.S k).came ++ [m] }) x := by
 obtain ⟨f1,_⟩ := fits_iff hf
 obtain ⟨h1,h2⟩ := h.masStep (k := k) ((h.mas hk).wait hm hf) (came_on rfl (fun _ => ⟨f1,rfl⟩) (fun _ => Nat.le_refl _) (fun _ _ => rfl))
 exact ⟨g,h1,h2,fun x hx => by cases hx⟩
theorem asks_after {g : Gh} {s : St} {k : Int} {m' : Mas} (h : Inv g (s.setS k m')) (hk : isMas k) : ∀ x ∈ m'.asks k,MsgInv g (s.setS k m') x := by
 have := (h.mas hk).asks_ok
 rw [setS_same] at this
 exact this
theorem Inv.masTake1 {g : Gh} {s : St} (h : Inv g s) {k : Int} (hk : isMas k) (m : Msg) (hm : MsgInv g s m) (hd : m.dst = k) (hf : (s.S k).fits m = true) (h1 : (s.S k).does = 1) (hc : (s.S k).came ≠ []) :
  ∃ g',Inv g' (s.setS k ({ s.S k with epoch := (better Msg.epoch (s.S k).came m).epoch + 1,old := (better Msg.epoch (s.S k).came m).mems }.onward m.dst).1) ∧ Le g s g' (s.setS k ({ s.S k with epoch := (better Msg.epoch (s.S k).came m).epoch + 1,old := (better Msg.epoch (s.S k).came m).mems }.onward m.dst).1) ∧
   ∀ x ∈ ({ s.S k with epoch := (better Msg.epoch (s.S k).came m).epoch + 1,old := (better Msg.epoch (s.S k).came m).mems }.onward m.dst).2,MsgInv g' (s.setS k ({ s.S k with epoch := (better Msg.epoch (s.S k).came m).epoch + 1,old := (better Msg.epoch (s.S k).came m).mems }.onward m.dst).1) x := by
 obtain ⟨f1,f2,f3,f4,f5,f6⟩ := fits_iff hf
 have H := h.mas hk
 obtain ⟨c1,c2,_⟩ := H.cameI _ (headD_mem hc m)
 have hb : ∃ l0,g.cfg (better Msg.epoch (s.S k).came m).epoch ((better Msg.epoch (s.S k).came m).mems,l0) := by
  rcases better_or Msg.epoch (s.S k).came m with q | q
  ·rw [q]; exact c1.reg (by rw [c2,h1]; rfl)
  ·rw [q]; exact hm.reg (by rw [f2,h1]; rfl)
 generalize hB : better Msg.epoch (s.S k).came m = B at *
 obtain ⟨l0,hl0⟩ := hb
 have hp := Gh.cfg_pos hl0
 rw [hd]
 generalize hM : ({ s.S k with epoch := B.epoch + 1,old := B.mems } : Mas).onward k = M
 have hM1 : M.1 = { s.S k with epoch := B.epoch + 1,old := B.mems,does := 2,came := [] } := by rw [← hM]; unfold Mas.onward; simp [h1]
 have hM2 : M.2 = M.1.asks k := by rw [← hM]; rfl
 have hS := setS_same s k M.1
 have hI : MasInv g (s.setS k M.1) k :=
  {does := by rw [hS,hM1]; simp
   bal := by rw [hS,hM1]; intro _; exact H.bal f1
   want := by rw [hS,hM1]; intro _; exact H.want f1
   cameI := by rw [hS,hM1]; intro x hx; cases hx
   old := by
    rw [hS,hM1]
    intro _
    refine ⟨by show 1 ≤ B.epoch + 1; omega,l0, ?_⟩
    show g.cfg (B.epoch + 1 - 1) _
    rw [Int.add_sub_cancel]
    exact hl0
   prep := by rw [hS,hM1]; intro q; simp at q
   logs := by rw [hS,hM1]; intro q; simp at q
   prop := by rw [hS,hM1]; intro q; simp at q
   cfg := by rw [hS,hM1]; intro q; simp at q }
 obtain ⟨r1,r2⟩ := h.masStep hI (came_on (by rw [hM1]) (fun _ => ⟨f1,by rw [hM1]⟩) (fun _ => by rw [hM1,h1]; exact (by decide : 1 ≤ 2)) (fun _ q => by omega))
 exact ⟨g,r1,r2,by rw [hM2]; exact asks_after r1 hk⟩
theorem Inv.masTake2 {g : Gh} {s : St} (h : Inv g s) {k : Int} (hk : isMas k) (m : Msg) (hm : MsgInv g s m) (hd : m.dst = k) (hf : (s.S k).fits m = true) (h2 : (s.S k).does = 2) :
  ∃ g',Inv g' (s.setS k ({ s.S k with log := m.log }.onward m.dst).1) ∧ Le g s g' (s.setS k ({ s.S k with log := m.log }.onward m.dst).1) ∧
   ∀ x ∈ ({ s.S k with log := m.log }.onward m.dst).2,MsgInv g' (s.setS k ({ s.S k with log := m.log }.onward m.dst).1) x := by
 obtain ⟨f1,f2,f3,f4,f5,f6⟩ := fits_iff hf
 have H := h.mas hk
 obtain ⟨o1,l0,o2⟩ := H.old (by omega)
 obtain ⟨b1,b2⟩ := H.bal f1
 have hep : m.epoch = (s.S k).epoch := f3 (by omega)
 rw [hd]
 generalize hM : ({ s.S k with log := m.log } : Mas).onward k = M
 have hM1 : M.1 = { s.S k with log := m.log,does := 3,came := [] } := by rw [← hM]; unfold Mas.onward; simp [h2]
 have hM2 : M.2 = M.1.asks k := by rw [← hM]; rfl
 have hS := setS_same s k M.1
 have hlog : fresh (g.addPrep (s.S k).epoch (s.S k).ballot) (s.setS k M.1) (s.S k).epoch m.log ∨ settledBy (g.addPrep (s.S k).epoch (s.S k).ballot) (s.setS k M.1) (s.S k).epoch (s.S k).ballot := by
  rcases hm.sed (by rw [f2,h2]; rfl) with ⟨q1,q2⟩ | ⟨v,hv⟩
  ·left
   rw [hep] at q1 q2
   refine ⟨m.src,(s.S k).old,l0,o2, ?_,q1,q2⟩
   have := f5
   unfold Mas.all at this
   rw [h2] at this
   exact this
  ·right
   rw [hep] at hv
   rcases hv with ⟨q,_⟩ | ⟨_,b',a1,a2,n12,v1,v2,p⟩
   ·omega
   ·have no : ∀ a v, ¬ g.promR a (s.S k).epoch (s.S k).ballot v := by
     intro a v q
     obtain ⟨_,q2,_⟩ := h.prom q
     obtain ⟨_,q3⟩ := h.prepd q2
     have := (came_begun q3 hk b1).2 f1 rfl
     omega
    have hb0 := (h.prop p).1
    obtain ⟨i1,_,_,w1⟩ := h.voteAcc v1
    obtain ⟨i2,_,_,w2⟩ := h.voteAcc v2
    exact ⟨a1,a2,n12,i1,i2,Int.le_trans hb0 w1,Int.le_trans hb0 w2,fun v q => absurd q (no _ _),fun v q => absurd q (no _ _)⟩
 have hcm := came_on (s := s) (k := k) (m' := M.1) (by rw [hM1]) (fun _ => ⟨f1,by rw [hM1]⟩) (fun _ => by rw [hM1,h2]; exact (by decide : 2 ≤ 3)) (fun _ q => by omega)
 have hI : MasInv (g.addPrep (s.S k).epoch (s.S k).ballot) (s.setS k M.1) k :=
  {does := by rw [hS,hM1]; simp
   bal := by rw [hS,hM1]; intro _; exact H.bal f1
   want := by rw [hS,hM1]; intro _; exact H.want f1
   cameI := by rw [hS,hM1]; intro x hx; cases hx
   old := by rw [hS,hM1]; intro _; exact ⟨o1,l0,o2⟩
   prep := by rw [hS,hM1]; intro _; exact .inr ⟨rfl,rfl⟩
   logs := by rw [hS]; intro _; rw [hM1] at hlog ⊢; exact hlog
   prop := by rw [hS,hM1]; intro q; simp at q
   cfg := by rw [hS,hM1]; intro q; simp at q }
 obtain ⟨r1,r2⟩ := h.masPrep (E := (s.S k).epoch) (b := (s.S k).ballot) o1 ⟨k,hk,⟨(s.S k).begun,b1,b2,by rw [hS,hM1]; exact Nat.le_refl _⟩,by rw [hS,hM1]; intro _ _; exact ⟨Nat.le_refl _,rfl⟩⟩ hI hcm
 exact ⟨_,r1,r2,by rw [hM2]; exact asks_after r1 hk⟩
theorem Inv.masTake3 {g : Gh} {s : St} (h : Inv g s) {k : Int} (hk : isMas k) (m : Msg) (hm : MsgInv g s m) (hf : (s.S k).fits m = true) (h3 : (s.S k).does = 3) (hc : (s.S k).came ≠ []) (mems : List Int) (log : List Ent)
  (hval : (0 ≤ (better Msg.vote (s.S k).came m).vote ∧ mems = (better Msg.vote (s.S k).came m).mems ∧ log = (better Msg.vote (s.S k).came m).log) ∨ (¬ 0 ≤ (better Msg.vote (s.S k).came m).vote ∧ mems = (s.S k).want ∧ log = (s.S k).log)) :
  ∃ g',Inv g' (s.setS k ({ s.S k with mems := mems,log := log }.onward k).1) ∧ Le g s g' (s.setS k ({ s.S k with mems := mems,log := log }.onward k).1) ∧
   ∀ x ∈ ({ s.S k with mems := mems,log := log }.onward k).2,MsgInv g' (s.setS k ({ s.S k with mems := mems,log := log }.onward k).1) x := by
 obtain ⟨f1,f2,f3,f4,f5,f6⟩ := fits_iff hf
 have H := h.mas hk
 obtain ⟨o1,l0,o2⟩ := H.old (by omega)
 obtain ⟨b1,b2⟩ := H.bal f1
 have hpr := H.prep (by omega)
 obtain ⟨c1,c2,_,c3,c4⟩ := H.cameI _ (headD_mem hc m)
 have hne := f6 _ (headD_mem hc m)
 have hep : m.epoch = (s.S k).epoch := f3 (by omega)
 have hba : m.ballot = (s.S k).ballot := f4 (by omega)
 have hep' := c3 (by omega)
 have hba' := c4 (by omega)
 obtain ⟨p1,p1'⟩ := c1.pro (by rw [c2,h3]; rfl)
 obtain ⟨p2,p2'⟩ := hm.pro (by rw [f2,h3]; rfl)
 have hmx := better_max Msg.vote (s.S k).came m
 have hor := better_or Msg.vote (s.S k).came m
 generalize hB : better Msg.vote (s.S k).came m = B at *
 generalize hP : (s.S k).came.headD m = P at *
 rw [hep',hba'] at p1
 rw [hep,hba] at p2
 have hnone : g.prop (s.S k).epoch (s.S k).ballot = none := by
  cases q : g.prop (s.S k).epoch (s.S k).ballot with
  | none => rfl
  | some v =>
   have := (came_begun (h.propd (by rw [q]; rfl)) hk b1).2 f1 rfl
   omega
 have hb0 : 0 ≤ (s.S k).ballot := by unfold isMas at hk; omega
 have lt : ∀ {a v},g.promR a (s.S k).epoch (s.S k).ballot v → v < (s.S k).ballot := by
  intro a v q
  obtain ⟨_,_,_,q4,q5,_⟩ := h.prom q
  by_cases e : v = (s.S k).ballot
  ·obtain ⟨_,_,⟨w,hw⟩,_⟩ := h.voteAcc (q5 (by omega))
   rw [e,hnone] at hw
   cases hw
  ·omega
 have hvv : g.prop (s.S k).epoch B.vote = some (B.mems,B.log) ∨ B.vote < 0 := by
  by_cases q : 0 ≤ B.vote
  ·left
   rcases hor with e | e
   ·subst e; rw [← hep']; exact p1' q
   ·subst e; rw [← hep]; exact p2' q
  ·right; omega
 have key : memsOk mems g.n = true ∧ fresh g s (s.S k).epoch log ∧ (0 ≤ P.vote ∨ 0 ≤ m.vote → g.prop (s.S k).epoch (max P.vote m.vote) = some (mems,log)) := by
  rcases hval with ⟨q,rfl,rfl⟩ | ⟨q,rfl,rfl⟩
  ·rcases hvv with w | w
   ·obtain ⟨_,_,w1,w2,_⟩ := h.prop w
    exact ⟨w1,w2,fun _ => by rw [← hmx]; exact w⟩
   ·omega
  ·refine ⟨H.want f1, ?_,fun q' => by omega⟩
   rcases H.logs h3 with w | ⟨a1,a2,n12,i1,i2,_,_,y1,y2⟩
   ·exact w
   ·exfalso
    have k1 := (h.prom p1).1
    have k2 := (h.prom p2).1
    rcases quorum i1 i2 k1 k2 n12 hne with e | e | e | e
    ·have := y1 _ (e ▸ p1); omega
    ·have := y1 _ (e ▸ p2); omega
    ·have := y2 _ (e ▸ p1); omega
    ·have := y2 _ (e ▸ p2); omega
 generalize hM : ({ s.S k with mems := mems,log := log } : Mas).onward k = M
 have hM1 : M.1 = { s.S k with mems := mems,log := log,does := 4,came := [] } := by rw [← hM]; unfold Mas.onward; simp [h3]
 have hM2 : M.2 = M.1.asks k := by rw [← hM]; rfl
 have hS := setS_same s k M.1
 have hcm := came_on (s := s) (k := k) (m' := M.1) (by rw [hM1]) (fun _ => ⟨f1,by rw [hM1]⟩) (fun _ => by rw [hM1,h3]; exact (by decide : 3 ≤ 4)) (fun _ _ => by rw [hM1])
 obtain ⟨r1,r2⟩ := h.masProp (k := k) (m' := M.1) (v := (mems,log)) hnone o1 hb0 key.1 key.2.1 ⟨P.src,m.src,P.vote,m.vote,hne,p1,p2,lt p1,lt p2,key.2.2⟩
  ⟨k,hk,⟨(s.S k).begun,b1,b2,by rw [hS,hM1]; exact Nat.le_refl _⟩,by rw [hS,hM1]; intro _ _; exact ⟨Nat.le_refl _,rfl⟩⟩
  (fun hcfg hle =>
   {does := by rw [hS,hM1]; simp
    bal := by rw [hS,hM1]; intro _; exact H.bal f1
    want := by rw [hS,hM1]; intro _; exact H.want f1
    cameI := by rw [hS,hM1]; intro x hx; cases hx
    old := by rw [hS,hM1]; intro _; exact ⟨o1,l0,hcfg o2⟩
    prep := by rw [hS,hM1]; intro _; exact hpr
    logs := by rw [hS,hM1]; intro q; simp at q
    prop := by rw [hS,hM1]; intro _; exact if_pos ⟨rfl,rfl⟩
    cfg := by rw [hS,hM1]; intro q; simp at q }) hcm
 exact ⟨_,r1,r2,by rw [hM2]; exact asks_after r1 hk⟩
theorem Inv.masOn {g : Gh} {s : St} (h : Inv g s) {k : Int} (hk : isMas k) (m : Msg) (hm : MsgInv g s m) (hf : (s.S k).fits m = true) (h4 : 4 ≤ (s.S k).does) (hc : (s.S k).does = 4 → (s.S k).came ≠ []) :
  ∃ g',Inv g' (s.setS k ((s.S k).onward k).1) ∧ Le g s g' (s.setS k ((s.S k).onward k).1) ∧ ∀ x ∈ ((s.S k).onward k).2,MsgInv g' (s.setS k ((s.S k).onward k).1) x := by
 obtain ⟨f1,f2,f3,f4,f5,f6⟩ := fits_iff hf
 have H := h.mas hk
 have h6 := H.does
 obtain ⟨o1,l0,o2⟩ := H.old (by omega)
 have hcf : g.cfg (s.S k).epoch ((s.S k).mems,(s.S k).log) := by
  by_cases q : 5 ≤ (s.S k).does
  ·exact H.cfg q
  ·have e4 : (s.S k).does = 4 := by omega
   have hcne := hc e4
   obtain ⟨c1,c2,_,c3,c4⟩ := H.cameI _ (headD_mem hcne m)
   have hne := f6 _ (headD_mem hcne m)
   have v1 := c1.acd (by rw [c2,e4]; rfl)
   have v2 := hm.acd (by rw [f2,e4]; rfl)
   rw [c3 (by omega),c4 (by omega)] at v1
   rw [f3 (by omega),f4 (by omega)] at v2
   exact .inr ⟨o1,_,_,_,hne,v1,v2,H.prop (by omega)⟩
 generalize hM : (s.S k).onward k = M
 have hM1 : M.1 = { s.S k with does := if (s.S k).does = 6 then 0 else (s.S k).does + 1,came := [] } := by rw [← hM]; rfl
 have hM2 : M.2 = M.1.asks k := by rw [← hM]; rfl
 have hS := setS_same s k M.1
 have hdo : M.1.does = if (s.S k).does = 6 then 0 else (s.S k).does + 1 := by rw [hM1]
 have e1 : M.1.epoch = (s.S k).epoch := by rw [hM1]
 have e2 : M.1.ballot = (s.S k).ballot := by rw [hM1]
 have e3 : M.1.begun = (s.S k).begun := by rw [hM1]
 have e4 : M.1.mems = (s.S k).mems := by rw [hM1]
 have e5 : M.1.log = (s.S k).log := by rw [hM1]
 have e6 : M.1.old = (s.S k).old := by rw [hM1]
 have e7 : M.1.want = (s.S k).want := by rw [hM1]
 have e8 : M.1.came = [] := by rw [hM1]
 have hI : MasInv g (s.setS k M.1) k :=
  {does := by rw [hS,hdo]; split <;> omega
   bal := by rw [hS,e2,e3]; intro _; exact H.bal f1
   want := by rw [hS,e7]; intro _; exact H.want f1
   cameI := by rw [hS,e8]; intro x hx; cases hx
   old := by rw [hS,e1,e6]; intro _; exact ⟨o1,l0,o2⟩
   prep := by rw [hS,e1,e2]; intro _; exact H.prep (by omega)
   logs := by rw [hS,hdo]; intro q; split at q <;> omega
   prop := by rw [hS,e1,e2,e4,e5]; intro _; exact H.prop h4
   cfg := by rw [hS,e1,e4,e5]; intro _; exact hcf }
 have hdo2 : M.1.does ≠ 0 → (s.S k).does ≤ M.1.does := by rw [hdo]; split <;> omega
 obtain ⟨r1,r2⟩ := h.masStep hI (came_on e3 (fun _ => ⟨f1,e2⟩) hdo2 (fun _ _ => e1))
 exact ⟨g,r1,r2,by rw [hM2]; exact asks_after r1 hk⟩
theorem Inv.masTake {g : Gh} {s : St} (h : Inv g s) {k : Int} (hk : isMas k) (m : Msg) (hm : MsgInv g s m) (hd : m.dst = k) :
  ∃ g',Inv g' (s.setS k ((s.S k).take m).1) ∧ Le g s g' (s.setS k ((s.S k).take m).1) ∧ ∀ x ∈ ((s.S k).take m).2,MsgInv g' (s.setS k ((s.S k).take m).1) x := by
 by_cases hf : (s.S k).fits m = true
 ·obtain ⟨f1,_⟩ := fits_iff hf
  have h6 := (h.mas hk).does
  have hwait := h.masWait hk hm hf
  unfold Mas.take
  rw [if_pos hf]
  split
  ·rename_i q
   split
   ·rename_i hc
    rw [hc] at hwait
    exact hwait
   ·rename_i hc
    exact h.masTake1 hk m hm hd hf q hc
  ·rename_i q
   exact h.masTake2 hk m hm hd hf q
  ·rename_i q
   split
   ·rename_i hc
    rw [hc] at hwait
    exact hwait
   ·rename_i hc
    split
    ·rename_i hv
     rw [hd]
     exact h.masTake3 hk m hm hf q hc _ _ (.inl ⟨hv,rfl,rfl⟩)
    ·rename_i hv
     rw [hd]
     exact h.masTake3 hk m hm hf q hc _ (s.S k).log (.inr ⟨hv,rfl,rfl⟩)
  ·rename_i q
   split
   ·exact hwait
   ·rw [hd]
    exact h.masOn hk m hm hf (by omega) (fun e => by omega)
  ·rename_i q1 q2 q3 q5
   split
   ·rename_i hc
    rw [hc] at hwait
    exact hwait
   ·rename_i hc
    rw [hd]
    have : (s.S k).does ≠ 1 := fun e => q1 e
    have : (s.S k).does ≠ 2 := fun e => q2 e
    have : (s.S k).does ≠ 3 := fun e => q3 e
    exact h.masOn hk m hm hf (by omega) (fun _ => hc)
 ·unfold Mas.take
  rw [if_neg hf]
  show ∃ g',Inv g' (s.setS k (s.S k)) ∧ Le g s g' (s.setS k (s.S k)) ∧ ∀ x ∈ ([] : List Msg),_
  rw [setS_self]
  exact ⟨g,h,Le.refl g s,fun x hx => by cases hx⟩
theorem Inv.masBegin {g : Gh} {s : St} (h : Inv g s) {k : Int} (hk : isMas k) (l : List Int) (hl : memsOk l g.n = true) :
  Inv g (s.setS k ((s.S k).begin k l)) ∧ Le g s g (s.setS k ((s.S k).begin k l)) ∧ ∀ x ∈ ((s.S k).begin k l).asks k,MsgInv g (s.setS k ((s.S k).begin k l)) x := by
 have hS := setS_same s k ((s.S k).begin k l)
 have hI : MasInv g (s.setS k ((s.S k).begin k l)) k :=
  {does := by rw [hS]; exact (by decide : 1 ≤ 6)
   bal := by rw [hS]; intro _; exact ⟨by show 2 * (_ : Int) + _ = 2 * (((s.S k).begun + 1 : Nat) : Int) + _; omega,Nat.succ_pos _⟩
   want := by rw [hS]; intro _; exact hl
   cameI := by rw [hS]; intro x hx; cases hx
   old := by rw [hS]; intro q; exact absurd q (by show ¬ 2 ≤ 1; decide)
   prep := by rw [hS]; intro q; exact absurd q (by show ¬ 3 ≤ 1; decide)
   logs := by rw [hS]; intro q; exact absurd q (by show ¬ 1 = 3; decide)
   prop := by rw [hS]; intro q; exact absurd q (by show ¬ 4 ≤ 1; decide)
   cfg := by rw [hS]; intro q; exact absurd q (by show ¬ 5 ≤ 1; decide) }
 have hcm : ∀ b E d,3 ≤ d → Proofs.YtgieeeeeiggoeaaGreat.came s b E d → Proofs.YtgieeeeeiggoeaaGreat.came (s.setS k ((s.S k).begin k l)) b E d := by
  intro b E d _ hcame
  have hbal : ((s.S k).begin k l).ballot = 2 * ((s.S k).begun + 1 : Int) + (k - 200) := rfl
  refine came_mono hcame (Nat.le_succ _) ?_ ?_
  ·rintro _ q2 ⟨n,e1,e2⟩ _ _ _
   rw [hbal] at q2
   omega
  ·rintro _ ⟨n,e1,e2⟩
   rw [hbal] at e1
   omega
 obtain ⟨r1,r2⟩ := h.masStep hI hcm
 exact ⟨r1,r2,asks_after r1 hk⟩
def Gh.addAsk (g : Gh) (e : Ent) : Gh := { g with asked := fun x => g.asked x ∨ x = e }
theorem MsgInv.addAsk {g : Gh} {s : St} {m : Msg} (h : MsgInv g s m) (e : Ent) : MsgInv (g.addAsk e) s m :=
 ⟨fun q => by obtain ⟨x,h1,h2⟩ := h.req q; exact ⟨x,h1, .inl h2⟩,h.fwd,h.ack,h.rep,h.reg,h.sea,h.sed,h.pre,h.pro,h.acc,h.acd,h.ins,h.wri⟩
theorem Inv.ask {g : Gh} {s : St} (h : Inv g s) (e : Ent) : Inv (g.addAsk e) s :=
 {npos := h.npos,voteAcc := h.voteAcc,votes := h.votes,prom := h.prom,prepd := h.prepd,propd := h.propd,prop := h.prop,reg := h.reg,rep := h.rep,chain := h.chain
  mas := fun hk => { h.mas hk with cameI := fun x hx => ⟨((h.mas hk).cameI x hx).1.addAsk e,((h.mas hk).cameI x hx).2⟩ }
  hist := by
   intro i ep l q
   obtain ⟨q1,q2,q3,q4,q5,q6,q7⟩ := h.hist q
   exact ⟨q1,q2,q3,q4,q5,fun x hx => .inl (q6 x hx),q7⟩ }
end Go.Proofs.YtgieeeeeiggoeaaGreat
