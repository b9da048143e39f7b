import Derived.Test.YtlminmokpmdgoabGreatK11
namespace Go.Proofs.YtlminmokpmdgoabGreat
def mute (o : KStep) : KStep := if o.kind = 7 ∨ o.kind = 10 then { o with kind := 0 } else o
theorem step_plain (r : Run) (o : KStep) (h : o.kind < 4 ∨ 7 < o.kind) (h10 : o.kind ≠ 10) : r.step (mute o) = r.plain o := by
 have : mute o = o := by unfold mute; rw [if_neg (by omega)]
 rw [this]
 unfold Run.step
 exact framed_other o h
theorem plain_none (r : Run) (o : KStep) (h : o.kind ≠ 1 ∧ o.kind ≠ 2 ∧ o.kind ≠ 3 ∧ o.kind ≠ 8 ∧ o.kind ≠ 9 ∧ o.kind ≠ 10) : r.plain o = r := by
 unfold Run.plain
 rw [if_neg h.1, if_neg h.2.1, if_neg h.2.2.1, if_neg h.2.2.2.1, if_neg h.2.2.2.2.1, if_neg h.2.2.2.2.2]
theorem step_mute (r : Run) (o : KStep) (h : o.kind = 7 ∨ o.kind = 10) : r.step (mute o) = r := by
 have : mute o = { o with kind := 0 } := by unfold mute; rw [if_pos h]
 rw [this]
 unfold Run.step
 rw [framed_other _ (.inl (by show (0 : Int) < 4; omega))]
 exact plain_none r _ ⟨by show (0 : Int) ≠ 1; omega, by show (0 : Int) ≠ 2; omega, by show (0 : Int) ≠ 3; omega, by show (0 : Int) ≠ 8; omega, by show (0 : Int) ≠ 9; omega, by show (0 : Int) ≠ 10; omega⟩
theorem step_none (r : Run) (o : KStep) (h : o.kind ≠ 1 ∧ o.kind ≠ 2 ∧ o.kind ≠ 3 ∧ o.kind ≠ 8 ∧ o.kind ≠ 9 ∧ o.kind ≠ 10) (h2 : o.kind < 4 ∨ 7 < o.kind) : r.step (mute o) = r := by
 rw [step_plain r o h2 h.2.2.2.2.2, plain_none r o h]
theorem step_framed (r : Run) (o : KStep) (h : 4 ≤ o.kind ∧ o.kind ≤ 6) : r.step (mute o) = r.framed o := by
 have : mute o = o := by unfold mute; rw [if_neg (by omega)]
 rw [this]
 unfold Run.step
 rw [plain_other o (by omega)]
theorem crash_told (c : Clu) (d : Int) : (c.crash d).1.told = c.told := by
 unfold Clu.crash
 split
 ·rfl
 ·rfl
 ·split
  ·rfl
  ·split <;> rfl
theorem restart_told (c : Clu) (d : Int) : (c.restart d).1.told = c.told := by
 unfold Clu.restart
 split
 ·rfl
 ·rfl
 ·split
  ·rfl
  ·split <;> rfl
theorem tick_told (c : Clu) (d : Int) : (c.tick d).1.told = c.told := by
 unfold Clu.tick
 split <;> rfl
theorem ask_told (c : Clu) (d : Int) (e : Ent) : (c.ask d e).1.told = c.told := by
 unfold Clu.ask
 split
 ·rfl
 ·split <;> rfl
theorem change_told (c : Clu) (d : Int) (l : List Int) : (c.change d l).1.told = c.told := by
 unfold Clu.change
 split
 ·rfl
 ·split
  ·rfl
  ·split <;> rfl
theorem run_change_told (r : Run) (m : Int) (l : List Int) : (r.change m l).x.told = r.x.told := by
 unfold Run.change
 split
 ·rfl
 ·exact change_told _ _ _
theorem drop_told (c : Clu) (i : Int) : (c.drop i).1.told = c.told := by
 unfold Clu.drop
 split <;> rfl
theorem double_told (c : Clu) (i : Int) : (c.double i).1.told = c.told := by
 unfold Clu.double
 split <;> rfl
theorem step_told (r : Run) (o : KStep) : (r.step (mute o)).x.told.length ≤ r.x.told.length + 1 := by
 by_cases hm : o.kind = 7 ∨ o.kind = 10
 ·rw [step_mute r o hm]; omega
 ·by_cases hk : o.kind < 4 ∨ 7 < o.kind
  ·rw [step_plain r o hk (by omega)]
   unfold Run.plain
   split
   ·show (r.x.ask _ _).1.told.length ≤ _
    rw [ask_told]; omega
   ·split
    ·unfold Run.change
     split
     ·omega
     ·show (r.x.change _ _).1.told.length ≤ _
      rw [change_told]; omega
    ·split
     ·show (r.x.tick _).1.told.length ≤ _
      rw [tick_told]; omega
     ·split
      ·show (r.x.crash _).1.told.length ≤ _
       rw [crash_told]; omega
      ·split
       ·show (r.x.restart _).1.told.length ≤ _
        rw [restart_told]; omega
       ·rw [if_neg (by omega)]; omega
  ·rw [step_framed r o (by omega)]
   unfold Run.framed
   split
   ·omega
   ·simp only []
    split
    ·show (r.x.deliver _).1.told.length ≤ _
     exact deliver_told _ _
    ·split
     ·show (r.x.drop _).1.told.length ≤ _
      rw [drop_told]; omega
     ·split
      ·show (r.x.double _).1.told.length ≤ _
       rw [double_told]; omega
      ·rename_i h1 h2 h3
       exact absurd h1 (by omega)
theorem step_fixed (r : Run) (o : KStep) : (r.step o).fixed = r.fixed := by
 have hf : ∀ r : Run, (r.framed o).fixed = r.fixed := by
  intro r
  unfold Run.framed
  split
  ·rfl
  ·simp only []
   split
   ·rfl
   ·split
    ·rfl
    ·split <;> rfl
 unfold Run.step
 rw [hf]
 unfold Run.plain
 split
 ·rfl
 ·split
  ·unfold Run.change
   split <;> rfl
  ·split
   ·rfl
   ·split
    ·rfl
    ·split
     ·rfl
     ·split <;> rfl
def wsum (ws : List Wish) : Int := ((lastWish 0 ws).seq + 1) + ((lastWish 1 ws).seq + 1) + ((lastWish 2 ws).seq + 1) + ((lastWish 3 ws).seq + 1)
theorem lastWish_range {ws : List Wish} (h : ∀ w ∈ ws, w.e.ok = true) (c : Int) : -1 ≤ (lastWish c ws).seq ∧ (lastWish c ws).seq ≤ 999 := by
 have := (lastWish_ok c ws ⟨c, -1, 0, 0, 0⟩ h ⟨rfl, .inl rfl⟩).2
 rcases this with q | q
 ·have q' : (lastWish c ws).seq = -1 := q
  omega
 ·have q' : (lastWish c ws).ok = true := q
  unfold Ent.ok at q'
  simp only [Bool.and_eq_true, decide_eq_true_eq] at q'
  omega
theorem wsum_small {ws : List Wish} (h : ∀ w ∈ ws, w.e.ok = true) : wsum ws ≤ 4000 := by
 unfold wsum
 have := lastWish_range h 0
 have := lastWish_range h 1
 have := lastWish_range h 2
 have := lastWish_range h 3
 omega
def Few (r : Run) : Prop := (r.wishes.length : Int) ≤ wsum r.wishes
theorem Few.small {r : Run} (h : Few r) (hw : ∀ w ∈ r.wishes, w.e.ok = true) : r.wishes.length ≤ 4000 := by
 have := wsum_small hw
 unfold Few at h
 omega
theorem lastWish_mem (c : Int) (ws : List Wish) : (lastWish c ws).seq = -1 ∨ ∃ w ∈ ws, w.e = lastWish c ws := by
 have gen : ∀ (ws : List Wish) (e : Ent), ws.foldl (fun e w => if w.e.client = c then w.e else e) e = e ∨ ∃ w ∈ ws, w.e = ws.foldl (fun e w => if w.e.client = c then w.e else e) e := by
  intro ws
  induction ws with
  | nil => intro e; exact .inl rfl
  | cons a t ih =>
   intro e
   rw [List.foldl_cons]
   rcases ih (if a.e.client = c then a.e else e) with q | ⟨w, hw, q⟩
   ·rw [q]
    split
    ·exact .inr ⟨a, List.mem_cons_self, rfl⟩
    ·exact .inl rfl
   ·exact .inr ⟨w, List.mem_cons_of_mem _ hw, q⟩
 rcases gen ws ⟨c, -1, 0, 0, 0⟩ with q | q
 ·left
  have q' : lastWish c ws = ⟨c, -1, 0, 0, 0⟩ := q
  rw [q']
 ·exact .inr q
theorem nextEntry_client (c q : Int) (L : List Int) : (nextEntry c q L).client = c ∧ (nextEntry c q L).seq = q := by
 unfold nextEntry
 split <;> exact ⟨rfl, rfl⟩
theorem Few.ask {r : Run} (h : Few r) (d : Int) (o : KStep) : Few (r.ask d (r.entry o)) := by
 have hw : (r.ask d (r.entry o)).wishes = if r.wishes.any (fun w => decide (w.e = r.entry o)) then r.wishes else r.wishes ++ [⟨r.entry o, r.top⟩] := rfl
 unfold Few
 rw [hw]
 clear hw
 split
 ·exact h
 ·rename_i hno
  have hno' : ∀ w ∈ r.wishes, w.e ≠ r.entry o := by
   intro w hw he
   apply hno
   rw [List.any_eq_true]
   exact ⟨w, hw, by simpa using he⟩
  have hp := pickI_lt o.B 4 (by omega)
  have hen : (r.entry o).client = pickI o.B 4 ∧ (r.entry o).seq = (lastWish (pickI o.B 4) r.wishes).seq + 1 := by
   unfold Run.entry at hno' ⊢
   split
   ·rename_i hc
    rw [if_pos hc] at hno'
    rcases lastWish_mem (pickI o.B 4) r.wishes with q | ⟨w, hw, q⟩
    ·omega
    ·exact absurd q (hno' w hw)
   ·exact nextEntry_client _ _ _
  generalize r.entry o = e at *
  generalize pickI o.B 4 = c at *
  unfold Few at h
  unfold wsum at h ⊢
  rw [List.length_append, lastWish_snoc, lastWish_snoc, lastWish_snoc, lastWish_snoc]
  simp only [hen.1, List.length_singleton]
  have h4 : c = 0 ∨ c = 1 ∨ c = 2 ∨ c = 3 := by omega
  have h2 := hen.2
  rcases h4 with rfl | rfl | rfl | rfl
  ·rw [if_pos rfl, if_neg (by omega), if_neg (by omega), if_neg (by omega)]; omega
  ·rw [if_neg (by omega), if_pos rfl, if_neg (by omega), if_neg (by omega)]; omega
  ·rw [if_neg (by omega), if_neg (by omega), if_pos rfl, if_neg (by omega)]; omega
  ·rw [if_neg (by omega), if_neg (by omega), if_neg (by omega), if_pos rfl]; omega
theorem Few.change {r : Run} (h : Few r) (m : Int) (l : List Int) : Few (r.change m l) := by
 unfold Run.change
 split
 ·exact h
 ·exact h
theorem Few.step {r : Run} (h : Few r) (o : KStep) : Few (r.step o) := by
 have hf : ∀ {r : Run} (_ : Few r), Few (r.framed o) := by
  intro r h
  unfold Run.framed
  split
  ·exact h
  ·simp only []
   split
   ·exact h
   ·split
    ·exact h
    ·split <;> exact h
 unfold Run.step
 refine hf ?_
 unfold Run.plain
 split
 ·exact h.ask _ _
 ·split
  ·exact h.change _ _
  ·split
   ·exact h
   ·split
    ·exact h
    ·split
     ·exact h
     ·split <;> exact h
theorem Few.look {r : Run} {E : Int} {g : Gh} (h : Few r) (hm : Mid r E g) : Few r.look := by
 unfold Few
 rw [hm.look.2.2.2.1]
 exact h
theorem drain_wishes : ∀ (k : Nat) {r : Run} {E : Int} {g : Gh}, RI r E g → (Run.drain k r).wishes = r.wishes := by
 intro k
 induction k with
 | zero => intro r E g _; rfl
 | succ k ih =>
  intro r E g h
  by_cases hb : r.x.bag.length = 0
  ·rw [drain_stop hb]
  ·obtain ⟨_, ⟨E', g', hm⟩, hk⟩ := drain_step h hb
   rw [hk, ih hm.look.1, hm.look.2.2.2.1]
theorem begin_few (n : Nat) (h : 1 ≤ n) (h5 : n ≤ 5) : Few (Run.begin n) := by
 obtain ⟨fl1, fl2, fl3, fl4, fl5, fl6, _, _⟩ := first_look n h h5
 have hrep : ((Run.first n).look).x.isRep 0 := by rw [fl2]; exact first_isRep.2 ⟨Int.le_refl _, by omega⟩
 have hri := fl1.ask' 0 firstEntry hrep rfl
 have hw : (((Run.first n).look).ask 0 firstEntry).wishes = [⟨firstEntry, ((Run.first n).look).top⟩] := by
  unfold Run.ask
  simp only [fl4]
  rfl
 unfold Few Run.begin
 rw [drain_wishes 5000 hri, hw]
 simp [wsum, lastWish, firstEntry]
theorem RI.stepM {r : Run} {E : Int} {g : Gh} (h : RI r E g) (o : KStep) : ∃ E' g', Mid (r.step (mute o)) E' g' := by
 by_cases hm : o.kind = 7 ∨ o.kind = 10
 ·rw [step_mute r o hm]
  exact h.mid'
 ·by_cases hk : o.kind < 4 ∨ 7 < o.kind
  ·rw [step_plain r o hk (by omega)]
   unfold Run.plain
   split
   ·exact ⟨_, _, h.ask _ _ (pick_rep h.mid o.N) (entry_ok h.mid.wok o)⟩
   ·split
    ·have := pickI_lt o.N 2 (by omega)
     exact h.change _ (by omega) _ (by have := h.mid.good.nodes.n1; have := h.mid.n; exact members_ok r.n (by omega) _ _)
    ·split
     ·exact h.step (h.mid.good.tick _) (rel_tick _ _ _ _) _ _
     ·split
      ·exact h.step (h.mid.good.crash _) (rel_crashC h.mid.good _) _ _
      ·split
       ·exact h.step (h.mid.good.restart _) (rel_restartC h.mid.good _) _ _
       ·rw [if_neg (by omega)]
        exact h.mid'
  ·rw [step_framed r o (by omega)]
   unfold Run.framed
   split
   ·exact h.mid'
   ·rename_i hb
    have hb0 : r.x.bag.length ≠ 0 := fun q => hb (.inl q)
    have hfr := hasFrame_pick hb0 o.I
    have f1 := h.mid.flags.1
    simp only []
    split
    ·obtain ⟨E', g', hm⟩ := h.step (h.mid.good.deliver (pickI o.I r.x.bag.length)) (rel_deliver h.mid.good _) r.begun0 r.begun1
     refine ⟨E', g', hm.okTrue ?_⟩
     have : (r.x.deliver (pickI o.I r.x.bag.length)).2 = 0 := by
      unfold Clu.deliver
      rw [if_pos hfr]
      split <;> rfl
     rw [f1, this]; rfl
    ·split
     ·obtain ⟨E', g', hm⟩ := h.step (h.mid.good.drop (pickI o.I r.x.bag.length)) (rel_drop _ _ _ _) r.begun0 r.begun1
      refine ⟨E', g', hm.okTrue ?_⟩
      have : (r.x.drop (pickI o.I r.x.bag.length)).2 = 0 := by
       unfold Clu.drop
       rw [if_pos hfr]
      rw [f1, this]; rfl
     ·split
      ·obtain ⟨E', g', hm⟩ := h.step (h.mid.good.double (pickI o.I r.x.bag.length)) (rel_double _ _ _ _) r.begun0 r.begun1
       refine ⟨E', g', hm.okTrue ?_⟩
       have : (r.x.double (pickI o.I r.x.bag.length)).2 = 0 := by
        unfold Clu.double
        rw [if_pos hfr]
       rw [f1, this]; rfl
      ·rename_i h4 h5 h6
       exact absurd h4 (by omega)
end Go.Proofs.YtlminmokpmdgoabGreat
