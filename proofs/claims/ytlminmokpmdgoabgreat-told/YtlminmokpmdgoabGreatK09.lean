import Derived.Test.YtlminmokpmdgoabGreatK08
import Derived.Test.YtlminmokpmdgoabGreatK06
namespace Go.Proofs.YtlminmokpmdgoabGreat
structure CluRel (c : Clu) (E : Int) (g : Gh) (c' : Clu) : Prop where
 reps : ∀ i : Nat, i < c.reps.length → RepRel (c.rep i) (c'.rep i)
 told : ∃ news, c'.told = c.told ++ news ∧ ∀ a ∈ news, ∃ m, Sent c E g m ∧ m.kind = 4 ∧ a = ⟨m.dst - 300, m.pos, m.value⟩
theorem CluRel.same (c : Clu) (E : Int) (g : Gh) : CluRel c E g c := ⟨fun _ _ => RepRel.refl _, [], by simp, fun a ha => by cases ha⟩
theorem CluRel.bag {c c' : Clu} {E : Int} {g : Gh} (h : CluRel c E g c') (b : List (List UInt8 × Bool)) : CluRel c E g { c' with bag := b } := ⟨h.reps, h.told⟩
theorem CluRel.setRep (c : Clu) (E : Int) (g : Gh) {d : Int} (hd : c.isRep d) {r : Rep} (hr : RepRel (c.rep d) r) : CluRel c E g (c.setRep d r) := by
 refine ⟨?_, [], by unfold Clu.setRep; simp, fun a ha => by cases ha⟩
 intro i hi
 rw [rep_setRep hd (isRep_nat hi)]
 split
 ·rename_i q; rw [q]; exact hr
 ·exact RepRel.refl _
theorem CluRel.nodes (c : Clu) (E : Int) (g : Gh) (as : List Acc) (ms : List Mas) : CluRel c E g { c with accs := as, mass := ms } := ⟨fun _ _ => RepRel.refl _, [], by simp, fun a ha => by cases ha⟩
theorem lock_of {c : Clu} {E : Int} {g : Gh} (h : Nodes c E g) {d : Int} (hd : c.isRep d) : (c.rep d).lock ≤ (c.rep d).epoch + 1 := by
 obtain ⟨d0, d1, d2⟩ := rep_dst h hd
 have := (h.inv.rep (i := d) d0 d2).2.1
 rw [stOf_R hd] at this
 exact this
theorem rel_takes {c : Clu} {E : Int} {g : Gh} (h : Nodes c E g) (m : Msg) : CluRel c E g (c.takes m).1 := by
 unfold Clu.takes
 split
 ·split
  ·rename_i hd
   exact CluRel.setRep c E g hd (rel_take _ _ _ (lock_of h hd))
  ·split
   ·exact CluRel.nodes c E g _ _
   ·exact CluRel.nodes c E g _ _
 ·exact CluRel.same c E g
theorem rel_arrive {c : Clu} {E : Int} {g : Gh} (h : Nodes c E g) {m : Msg} (hm : Sent c E g m) : CluRel c E g (c.arrive m) := by
 unfold Clu.arrive
 by_cases ht : m.kind = 4 ∧ 300 ≤ m.dst ∧ m.dst ≤ 303
 ·have e : c.tell m = { c with told := c.told ++ [⟨m.dst - 300, m.pos, m.value⟩] } := by unfold Clu.tell; rw [if_pos ht]
  rw [e]
  have h1 : Nodes { c with told := c.told ++ [⟨m.dst - 300, m.pos, m.value⟩] } E g := h.bag _ _
  have h2 := rel_takes h1 m
  refine ⟨h2.reps, ?_⟩
  obtain ⟨news, q1, q2⟩ := h2.told
  refine ⟨[⟨m.dst - 300, m.pos, m.value⟩] ++ news, ?_, ?_⟩
  ·show ((Clu.takes _ m).1).told = _
   rw [q1, List.append_assoc]
  ·intro a ha
   rcases List.mem_append.1 ha with q | q
   ·rw [List.mem_singleton] at q
    exact ⟨m, hm, ht.1, q⟩
   ·exact q2 a q
 ·have e : c.tell m = c := by unfold Clu.tell; rw [if_neg ht]
  rw [e]
  exact (rel_takes h m).bag _
theorem rel_deliver {c : Clu} {E : Int} {g : Gh} (h : Good c E g) (i : Int) : CluRel c E g (c.deliver i).1 := by
 unfold Clu.deliver
 split
 ·rename_i hi
  split
  ·exact (CluRel.same c E g).bag _
  ·rename_i m hm
   have := rel_arrive (h.gone i).nodes (m := m) (h.msg (frameAt_mem hi) hm)
   exact ⟨this.reps, this.told⟩
 ·exact CluRel.same c E g
theorem rel_drop (c : Clu) (E : Int) (g : Gh) (i : Int) : CluRel c E g (c.drop i).1 := by
 unfold Clu.drop
 split
 ·exact (CluRel.same c E g).bag _
 ·exact CluRel.same c E g
theorem rel_double (c : Clu) (E : Int) (g : Gh) (i : Int) : CluRel c E g (c.double i).1 := by
 unfold Clu.double
 split
 ·exact (CluRel.same c E g).bag _
 ·exact CluRel.same c E g
theorem rel_tick (c : Clu) (E : Int) (g : Gh) (d : Int) : CluRel c E g (c.tick d).1 := by
 unfold Clu.tick
 split
 ·exact CluRel.same c E g
 ·exact CluRel.same c E g
 ·exact (CluRel.same c E g).bag _
theorem rel_crashC {c : Clu} {E : Int} {g : Gh} (h : Good c E g) (d : Int) : CluRel c E g (c.crash d).1 := by
 unfold Clu.crash
 split
 ·exact CluRel.same c E g
 ·exact CluRel.same c E g
 ·split
  ·rename_i hd
   exact CluRel.setRep c E g hd (rel_crash (h.nodes.R _ hd))
  ·split
   ·exact CluRel.nodes c E g _ _
   ·exact CluRel.nodes c E g _ _
theorem rel_restartC {c : Clu} {E : Int} {g : Gh} (h : Good c E g) (d : Int) : CluRel c E g (c.restart d).1 := by
 unfold Clu.restart
 split
 ·exact CluRel.same c E g
 ·exact CluRel.same c E g
 ·split
  ·rename_i hd
   exact CluRel.setRep c E g hd (rel_restart d (h.nodes.R _ hd))
  ·split
   ·exact CluRel.nodes c E g _ _
   ·exact CluRel.nodes c E g _ _
theorem rel_change (c : Clu) (E : Int) (g : Gh) (d : Int) (l : List Int) : CluRel c E g (c.change d l).1 := by
 unfold Clu.change
 split
 ·exact CluRel.same c E g
 ·split
  ·exact CluRel.same c E g
  ·split
   ·exact CluRel.same c E g
   ·exact (CluRel.nodes c E g _ _).bag _
theorem RI.step {r : Run} {E : Int} {g : Gh} (h : RI r E g) {c' : Clu} (hs : StepOK r.x E g c') (hr : CluRel r.x E g c') (b0 b1 : Nat) : ∃ E' g', Mid { r with x := c', begun0 := b0, begun1 := b1 } E' g' := by
 obtain ⟨E', g', hg, hle, hE, hl⟩ := hs
 refine ⟨E', g', ?_⟩
 have hL : Later r.x E g c' E' g' := ⟨hg.nodes, hle, hE, hl⟩
 obtain ⟨news, n1, n2⟩ := hr.told
 have hans := h.ans
 exact
  {good := hg
   n := by show r.n = _; rw [hl]; exact h.mid.n
   flags := h.mid.flags
   asked := fun x hx => h.mid.asked x (hle.back hx)
   wok := h.mid.wok
   wnd := h.mid.wnd
   fix := by
    intro p f hp
    obtain ⟨c, q1, q2⟩ := h.mid.fix p f hp
    obtain ⟨c2, q3, q4⟩ := hle.com q1
    exact ⟨c2, q3, prefix_get q4 q2⟩
   seen := by
    intro K hK hc
    exact hle.top K (Nat.le_trans h.seen hK) (fun i h0 h1 => hc i h0 (by rw [hle.n]; exact h1))
   rel := by
    intro p hp
    show RepRel p.1 p.2
    have hp' : p ∈ r.last.zip c'.reps := hp
    rw [h.last] at hp'
    obtain ⟨i, hi, hie⟩ := List.getElem_of_mem hp'
    rw [List.getElem_zip] at hie
    rw [List.length_zip] at hi
    rw [← hie]
    have := hr.reps i (by omega)
    rw [rep_nat (by omega), rep_nat (by omega)] at this
    exact this
   ans := by
    refine ⟨by show r.answers ≤ c'.told.length; rw [n1, List.length_append]; omega, ?_⟩
    intro a ha
    have ha' : a ∈ c'.told.drop r.answers := ha
    rw [n1, hans, List.drop_left] at ha'
    obtain ⟨m, m1, m2, m3⟩ := n2 a ha'
    exact ⟨m, m1.2.mono hle, m2, m3⟩
   top := h.mid.top
   floor := h.mid.floor }
theorem pick_rep {r : Run} {E : Int} {g : Gh} (h : Mid r E g) (c : Int) : r.x.isRep (pickI c r.n) := by
 have hn := h.n
 have := h.good.nodes.n1
 have := pickI_lt c r.n (by omega)
 unfold Clu.isRep
 omega
theorem lastWish_ok (client : Int) : ∀ (ws : List Wish) (e : Ent), (∀ w ∈ ws, w.e.ok = true) → (e.client = client ∧ (e.seq = -1 ∨ e.ok = true)) → (ws.foldl (fun e w => if w.e.client = client then w.e else e) e).client = client ∧ ((ws.foldl (fun e w => if w.e.client = client then w.e else e) e).seq = -1 ∨ (ws.foldl (fun e w => if w.e.client = client then w.e else e) e).ok = true) := by
 intro ws
 induction ws with
 | nil => intro e _ h; exact h
 | cons w ws ih =>
  intro e hw he
  rw [List.foldl_cons]
  refine ih _ (fun x hx => hw x (List.mem_cons_of_mem _ hx)) ?_
  split
  ·rename_i q; exact ⟨q, .inr (hw w List.mem_cons_self)⟩
  ·exact he
theorem entry_ok {r : Run} (hw : ∀ w ∈ r.wishes, w.e.ok = true) (o : KStep) : (r.entry o).ok = true := by
 have hb := pickI_lt o.B 4 (by omega)
 obtain ⟨l1, l2⟩ := lastWish_ok (pickI o.B 4) r.wishes ⟨pickI o.B 4, -1, 0, 0, 0⟩ hw ⟨rfl, .inl rfl⟩
 unfold Run.entry
 have e : lastWish (pickI o.B 4) r.wishes = r.wishes.foldl (fun e w => if w.e.client = pickI o.B 4 then w.e else e) ⟨pickI o.B 4, -1, 0, 0, 0⟩ := rfl
 rw [← e] at l1 l2
 generalize lastWish (pickI o.B 4) r.wishes = W at *
 split
 ·rename_i hc
  rcases l2 with q | q
  ·omega
  ·exact q
 ·rename_i hc
  have hseq : 0 ≤ W.seq + 1 ∧ W.seq + 1 ≤ 999 := by
   rcases l2 with q | q
   ·omega
   ·have := ent_bounds q
    have : ¬ 900 ≤ W.seq := fun q' => hc ⟨by omega, .inr q'⟩
    omega
  have k1 := pickI_lt (o.L.getD 0 0) 3 (by omega)
  have k2 := pickI_lt (o.L.getD 2 0) 1000 (by omega)
  unfold nextEntry
  generalize pickI (o.L.getD 0 0) 3 = z0 at *
  generalize pickI (o.L.getD 1 0) 3 = z1 at *
  generalize pickI (o.L.getD 2 0) 1000 = z2 at *
  unfold Ent.ok
  split <;> simp <;> omega
theorem RI.ask {r : Run} {E : Int} {g : Gh} (h : RI r E g) (d : Int) (e : Ent) (hd : r.x.isRep d) (he : e.ok = true) : Mid (r.ask d e) E (g.addAsk e) := by
 obtain ⟨h1, h2⟩ := h.mid.good.ask d e hd he
 obtain ⟨f1, f2, f3, f4, f5⟩ := h.mid.flags
 have hx : (r.x.ask d e).1 = r.x.send [{ kind := 1, src := 300 + e.client, dst := d, log := [e] }] := by
  unfold Clu.ask
  rw [if_neg (fun q => q hd), if_neg (by rw [he]; exact Bool.noConfusion)]
 have hw : (r.ask d e).wishes = if r.wishes.any (fun w => decide (w.e = e)) then r.wishes else r.wishes ++ [⟨e, r.top⟩] := rfl
 have hmem : ∀ w ∈ (r.ask d e).wishes, w ∈ r.wishes ∨ (w = ⟨e, r.top⟩ ∧ ∀ v ∈ r.wishes, v.e ≠ e) := by
  intro w hwm
  rw [hw] at hwm
  split at hwm
  ·exact .inl hwm
  ·rename_i hno
   rcases List.mem_append.1 hwm with q | q
   ·exact .inl q
   ·rw [List.mem_singleton] at q
    refine .inr ⟨q, ?_⟩
    intro v hv he'
    apply hno
    rw [List.any_eq_true]
    exact ⟨v, hv, by simpa using he'⟩
 have hold : ∀ w ∈ r.wishes, w ∈ (r.ask d e).wishes := by
  intro w hwm
  rw [hw]
  split
  ·exact hwm
  ·exact List.mem_append_left _ hwm
 have hst : stOf (r.ask d e).x = stOf r.x := by show stOf (r.x.ask d e).1 = _; rw [hx]; rfl
 have htl : (r.ask d e).x.told = r.x.told := by show (r.x.ask d e).1.told = _; rw [hx]; rfl
 have hrp : (r.ask d e).x.reps = r.x.reps := by show (r.x.ask d e).1.reps = _; rw [hx]; rfl
 exact
  {good := h1
   n := by rw [hrp]; exact h.mid.n
   flags := ⟨by show (r.ok && decide _) = true; rw [f1, h2]; rfl, f2, f3, f4, f5⟩
   asked := by
    rintro x (q | q)
    ·obtain ⟨w, w1, w2⟩ := h.mid.asked x q
     exact ⟨w, hold w w1, w2⟩
    ·subst q
     by_cases hany : r.wishes.any (fun w => decide (w.e = x)) = true
     ·obtain ⟨w, w1, w2⟩ := List.any_eq_true.1 hany
      exact ⟨w, hold w w1, by simpa using w2⟩
     ·exact ⟨⟨x, r.top⟩, by rw [hw, if_neg hany]; simp, rfl⟩
   wok := by
    intro w hwm
    rcases hmem w hwm with q | ⟨q, _⟩
    ·exact h.mid.wok w q
    ·rw [q]; exact he
   wnd := by
    rw [hw]
    split
    ·exact h.mid.wnd
    ·rename_i hno
     rw [List.map_append, List.map_singleton]
     unfold List.Nodup
     rw [List.pairwise_append]
     refine ⟨h.mid.wnd, List.pairwise_singleton _ _, ?_⟩
     intro a ha b hb hab
     rw [List.mem_singleton] at hb
     simp only [List.mem_map] at ha
     obtain ⟨w, w1, w2⟩ := ha
     apply hno
     rw [List.any_eq_true]
     exact ⟨w, w1, by rw [w2, hab, hb]; simp⟩
   fix := by
    intro p f hp
    obtain ⟨c, q1, q2⟩ := h.mid.fix p f hp
    exact ⟨c, q1, q2⟩
   seen := fun K hK _ => Nat.le_trans h.seen hK
   rel := by
    intro p hp
    refine h.mid.rel p ?_
    have hp' : p ∈ r.last.zip (r.ask d e).x.reps := hp
    rw [hrp] at hp'
    exact hp'
   ans := by
    rw [htl, hst]
    refine ⟨h.mid.ans.1, ?_⟩
    intro a ha
    obtain ⟨m, m1, m2⟩ := h.mid.ans.2 a ha
    exact ⟨m, m1.addAsk e, m2⟩
   top := h.mid.top
   floor := by
    intro w hwm
    rcases hmem w hwm with q | ⟨q, q2⟩
    ·exact h.mid.floor w q
    ·rw [q]
     refine ⟨h.mid.top.1, Int.le_refl _, ?_⟩
     intro p f hp hfe
     exfalso
     obtain ⟨c, c1, c2⟩ := h.mid.fix p f hp
     have := (h.mid.good.nodes.inv.com_log c1).2 f.e (List.mem_of_getElem? c2)
     obtain ⟨v, v1, v2⟩ := h.mid.asked _ this
     exact q2 v v1 (v2.trans hfe) }
theorem RI.mid' {r : Run} {E : Int} {g : Gh} (h : RI r E g) : ∃ E' g', Mid r E' g' := ⟨E, g, h.mid⟩
theorem mod_inj {n a i j : Nat} (hi : i < n) (hj : j < n) (h : (a + i) % n = (a + j) % n) : i = j := by
 have h1 := Nat.div_add_mod (a + i) n
 have h2 := Nat.div_add_mod (a + j) n
 rw [h] at h1
 rcases Nat.lt_trichotomy ((a + i) / n) ((a + j) / n) with q | q | q
 ·have := Nat.mul_le_mul_left n (Nat.succ_le_of_lt q)
  rw [Nat.mul_succ] at this
  omega
 ·rw [q] at h1; omega
 ·have := Nat.mul_le_mul_left n (Nat.succ_le_of_lt q)
  rw [Nat.mul_succ] at this
  omega
theorem members_ok (n : Nat) (h : 1 ≤ n) (a b : Int) : memsOk (membersOf n a b) n = true := by
 unfold membersOf
 rw [memsOk_iff]
 split
 ·exact ⟨fun x hx => by rw [List.mem_singleton] at hx; subst hx; omega, List.pairwise_singleton _ _, by simp⟩
 ·rename_i hne
  refine ⟨?_, ?_, hne⟩
  ·intro x hx
   unfold chosenOf at hx
   rw [List.mem_filterMap] at hx
   obtain ⟨k, hk, hx⟩ := hx
   simp only [List.mem_map, List.mem_range] at hk
   obtain ⟨i, _, rfl⟩ := hk
   split at hx
   ·injection hx with hx
    have := Nat.mod_lt ((pickI b n).toNat + i) (show n > 0 by omega)
    omega
   ·cases hx
  ·unfold chosenOf
   refine List.Pairwise.filterMap _ (R := fun x y => x ≠ y) ?_ ?_
   ·intro x y hxy u hu v hv e
    split at hu
    ·split at hv
     ·injection hu with hu
      injection hv with hv
      subst e
      exact hxy (by omega)
     ·cases hv
    ·cases hu
   ·rw [List.pairwise_map]
    refine List.Pairwise.imp_of_mem ?_ List.nodup_range
    intro i j hi hj hij e
    rw [List.mem_range] at hi hj
    exact hij (mod_inj hi hj e)
theorem RI.change {r : Run} {E : Int} {g : Gh} (h : RI r E g) (m : Int) (hm : m = 0 ∨ m = 1) (l : List Int) (hl : memsOk l r.n = true) : ∃ E' g', Mid (r.change m l) E' g' := by
 unfold Run.change
 split
 ·exact h.mid'
 ·have hs := h.mid.good.change (200 + m) l
  have hr := rel_change r.x E g (200 + m) l
  obtain ⟨E', g', hmid⟩ := h.step hs hr (if (r.x.change (200 + m) l).2 = 0 ∧ m = 0 then r.begun0 + 1 else r.begun0) (if (r.x.change (200 + m) l).2 = 0 ∧ m ≠ 0 then r.begun1 + 1 else r.begun1)
  refine ⟨E', g', ?_⟩
  have hk : (decide ((r.x.change (200 + m) l).2 = 0) || decide ((r.x.change (200 + m) l).2 = 5)) = true := by
   unfold Clu.change
   rw [if_neg (fun q => q (by unfold isMas; omega))]
   split
   ·rfl
   ·rw [if_neg (by rw [← h.mid.n, hl]; exact Bool.noConfusion)]
    rfl
  obtain ⟨f1, f2, f3, f4, f5⟩ := hmid.flags
  exact { hmid with flags := ⟨by show (r.ok && _) = true; rw [hk, h.mid.flags.1]; rfl, f2, f3, f4, f5⟩ }
theorem framed_other {r : Run} (o : KStep) (h : o.kind < 4 ∨ 7 < o.kind) : r.framed o = r := by
 unfold Run.framed
 rw [if_pos (.inr h)]
theorem plain_other {r : Run} (o : KStep) (h : ¬ (o.kind < 4 ∨ 7 < o.kind)) : r.plain o = r := by
 unfold Run.plain
 rw [if_neg (by omega), if_neg (by omega), if_neg (by omega), if_neg (by omega), if_neg (by omega), if_neg (by omega)]
theorem hasFrame_pick {c : Clu} (h : c.bag.length ≠ 0) (i : Int) : c.hasFrame (pickI i c.bag.length) := by
 have := pickI_lt i c.bag.length (by omega)
 unfold Clu.hasFrame
 omega
theorem Mid.okTrue {r : Run} {E : Int} {g : Gh} (h : Mid r E g) {b : Bool} (hb : b = true) : Mid { r with ok := b } E g := by
 obtain ⟨f1, f2, f3, f4, f5⟩ := h.flags
 exact { h with flags := ⟨hb, f2, f3, f4, f5⟩ }
theorem RI.drain : ∀ (k : Nat) {r : Run} {E : Int} {g : Gh}, RI r E g → ∃ E' g', RI (Run.drain k r) E' g' := by
 intro k
 induction k with
 | zero => intro r E g h; exact ⟨E, g, h⟩
 | succ k ih =>
  intro r E g h
  unfold Run.drain
  split
  ·exact ⟨E, g, h⟩
  ·rename_i hb
   have f1 := h.mid.flags.1
   have hfr : r.x.hasFrame 0 := by
    unfold Clu.hasFrame
    have : r.x.bag.length ≠ 0 := fun q => hb (.inl q)
    omega
   obtain ⟨E', g', hm⟩ := h.step (h.mid.good.deliver 0) (rel_deliver h.mid.good 0) r.begun0 r.begun1
   have hd : (r.x.deliver 0).2 = 0 := by
    unfold Clu.deliver
    rw [if_pos hfr]
    split <;> rfl
   exact ih (hm.okTrue (b := r.ok && decide ((r.x.deliver 0).2 = 0)) (by rw [f1, hd]; rfl)).look.1
def Gh.first (n : Nat) : Gh :=
 {n := n, asked := fun _ => False, prop := fun _ _ => none, voted := fun _ _ _ => False, promR := fun _ _ _ _ => False, prepd := fun _ _ => False
  hist := fun i e => if 0 ≤ i ∧ i < n ∧ e = 0 then some [] else none, seen := 0 }
theorem first_cfg {n : Nat} {E : Int} {v : List Int × List Ent} (h : (Gh.first n).cfg E v) : E = 0 ∧ v = (firstInts n, []) := by
 rcases h with q | ⟨_, b, _, _, _, q, _⟩
 ·exact q
 ·exact q.elim
theorem first_H (n : Nat) (i : Int) : (Gh.first n).H i 0 [] = [] := by
 unfold Gh.H Gh.first
 simp only []
 split <;> rfl
theorem mem_firstInts {n : Nat} {i : Int} (h0 : 0 ≤ i) (h1 : i < n) : i ∈ firstInts n := by
 simp only [firstInts, List.mem_map, List.mem_range]
 exact ⟨i.toNat, by omega, by show Int.ofNat _ = _; simp; omega⟩
theorem first_rep {n : Nat} {i : Int} (h0 : 0 ≤ i) (h1 : i < n) : (Clu.first n).rep i = Rep.first n := by
 unfold Clu.rep Clu.first
 simp only []
 rw [List.getD, List.getElem?_replicate, if_pos (by omega)]
 rfl
theorem first_acc {n : Nat} {a : Int} (h : isAcc a) : (Clu.first n).acc a = Acc.first n := by
 unfold isAcc at h
 unfold Clu.acc Clu.first
 simp only []
 rw [List.getD, List.getElem?_replicate, if_pos (by omega)]
 rfl
theorem first_mas {n : Nat} {a : Int} (h : isMas a) : (Clu.first n).mas a = Mas.still true 0 := by
 unfold isMas at h
 unfold Clu.mas Clu.first
 simp only []
 rw [List.getD, List.getElem?_replicate, if_pos (by omega)]
 rfl
theorem first_isRep {n : Nat} {i : Int} : (Clu.first n).isRep i ↔ 0 ≤ i ∧ i < n := by
 unfold Clu.isRep Clu.first
 simp
theorem first_inv (n : Nat) (h : 1 ≤ n) : Inv (Gh.first n) (stOf (Clu.first n)) := by
 have hcf : (Gh.first n).cfg 0 (firstInts n, []) := .inl ⟨rfl, rfl⟩
 have hcom : (Gh.first n).com 0 [] := ⟨_, _, hcf, (first_H n _).symm⟩
 exact
  {npos := h
   voteAcc := fun q => q.elim
   votes := by
    intro a ha E
    rw [stOf_A ha, first_acc ha]
    exact ⟨Int.le_refl _, fun q => absurd q (by show ¬ (0 : Int) ≤ -1; omega)⟩
   prom := fun q => q.elim
   prepd := fun q => q.elim
   propd := fun q => absurd q (by show ¬ (none : Option (List Int × List Ent)).isSome = true; simp)
   prop := fun q => by cases q
   mas := by
    intro k hk
    have hS : (stOf (Clu.first n)).S k = Mas.still true 0 := by rw [stOf_S hk, first_mas hk]
    exact
     {does := by rw [hS]; exact Nat.zero_le _
      bal := by rw [hS]; intro q; exact absurd rfl q
      want := by rw [hS]; intro q; exact absurd rfl q
      cameI := by rw [hS]; intro x hx; cases hx
      old := by rw [hS]; intro q; exact absurd q (by show ¬ 2 ≤ 0; decide)
      prep := by rw [hS]; intro q; exact absurd q (by show ¬ 3 ≤ 0; decide)
      logs := by rw [hS]; intro q; exact absurd q (by show ¬ 0 = 3; decide)
      prop := by rw [hS]; intro q; exact absurd q (by show ¬ 4 ≤ 0; decide)
      cfg := by rw [hS]; intro q; exact absurd q (by show ¬ 5 ≤ 0; decide) }
   reg := by
    intro a ha
    rw [stOf_A ha, first_acc ha]
    exact ⟨[], hcf⟩
   rep := by
    intro i h0 h1
    have h1' : i < n := h1
    rw [stOf_R (first_isRep.2 ⟨h0, h1'⟩), first_rep h0 h1']
    refine ⟨if_pos ⟨h0, h1', rfl⟩, by show (0 : Int) ≤ 0 + 1; omega, Nat.le_refl _, [], hcf, rfl, [], hcom, Nat.le_refl _⟩
   hist := by
    intro i e l q
    have q' : (if 0 ≤ i ∧ i < (n : Int) ∧ e = 0 then some ([] : List Ent) else none) = some l := q
    split at q'
    ·rename_i hc
     injection q' with q'
     subst q'
     obtain ⟨c1, c2, rfl⟩ := hc
     refine ⟨c1, c2, ?_, ⟨_, _, hcf, mem_firstInts c1 c2, List.prefix_refl _⟩, List.Pairwise.nil, fun x hx => (by cases hx), Nat.zero_le _⟩
     rw [stOf_R (first_isRep.2 ⟨c1, c2⟩), first_rep c1 c2]
     exact Int.le_refl _
    ·cases q'
   chain := by
    intro e mems l0 hc a x y _ _
    obtain ⟨rfl, hv⟩ := first_cfg hc
    injection hv with h1 h2
    subst h2
    rw [first_H, first_H]
    exact List.prefix_refl _ }
theorem first_good (n : Nat) (h : 1 ≤ n) (h5 : n ≤ 5) : Good (Clu.first n) 0 (Gh.first n) := by
 have hl : (Clu.first n).reps.length = n := by unfold Clu.first; simp
 refine ⟨?_, by unfold Clu.first; simp, fun f hf => by cases hf⟩
 exact
  {n1 := by rw [hl]; exact h
   n5 := by rw [hl]; exact h5
   a3 := rfl, m2 := rfl
   n := hl.symm
   E0 := Int.le_refl _
   R := by
    intro i hi
    obtain ⟨h0, h1⟩ := first_isRep.1 hi
    rw [first_rep h0 h1, hl]
    exact ⟨⟨Int.le_refl _, Int.le_refl _⟩, ⟨Int.le_refl _, Int.le_refl _⟩, firstInts_ok n h, entsOk_nil, Nat.le_refl _, Nat.le_refl _, Nat.le_refl _⟩
   A := by
    intro a ha
    rw [first_acc ha, hl]
    refine ⟨⟨Int.le_refl _, Int.le_refl _⟩, firstInts_ok n h, ?_⟩
    intro e
    exact ⟨by show (-1 : Int) ≤ -1 ∧ (-1 : Int) ≤ 2001; omega, by show (-1 : Int) ≤ -1 ∧ (-1 : Int) ≤ 2001; omega, .inl rfl, fun q => absurd q (by show ¬ (0 : Int) ≤ -1; omega), entsOk_nil⟩
   S := by
    intro k hk
    rw [first_mas hk]
    exact masStill_wf true (by omega) (Int.le_refl _)
   budget := by rw [first_mas (by unfold isMas; omega), first_mas (by unfold isMas; omega)]; decide
   inv := first_inv n h }
theorem first_mid (n : Nat) (h : 1 ≤ n) (h5 : n ≤ 5) : Mid (Run.first n) 0 (Gh.first n) :=
 {good := first_good n h h5
  n := by show n = (List.replicate n _).length; simp
  flags := ⟨rfl, rfl, rfl, rfl, rfl⟩
  asked := fun x hx => hx.elim
  wok := fun w hw => by cases hw
  wnd := List.Pairwise.nil
  fix := fun p f hp => by cases hp
  seen := fun K _ _ => Nat.zero_le _
  rel := fun p hp => by cases hp
  ans := ⟨Nat.le_refl _, fun a ha => by cases ha⟩
  top := ⟨Int.le_refl _, by show (-1 : Int) < 0; omega⟩
  floor := fun w hw => by cases hw }
theorem RI.ask' {r : Run} {E : Int} {g : Gh} (h : RI r E g) (d : Int) (e : Ent) (hd : r.x.isRep d) (he : e.ok = true) : RI (r.ask d e) E (g.addAsk e) := by
 have hx : (r.x.ask d e).1 = r.x.send [{ kind := 1, src := 300 + e.client, dst := d, log := [e] }] := by
  unfold Clu.ask
  rw [if_neg (fun q => q hd), if_neg (by rw [he]; exact Bool.noConfusion)]
 refine ⟨h.ask d e hd he, h.seen, ?_, ?_⟩
 ·show r.last = (r.x.ask d e).1.reps
  rw [hx]; exact h.last
 ·show r.answers = (r.x.ask d e).1.told.length
  rw [hx]; exact h.ans
theorem begin_ok (n : Nat) (h : 1 ≤ n) (h5 : n ≤ 5) : ∃ E g, RI (Run.begin n) E g := by
 have h1 := (first_mid n h h5).look
 unfold Run.begin
 refine (h1.1.ask' 0 firstEntry ?_ rfl).drain 5000
 rw [h1.2.1]
 exact first_isRep.2 ⟨Int.le_refl _, by omega⟩
set_option maxRecDepth 100000 in
theorem begin_facts (n : Nat) (h : 1 ≤ n) (h5 : n ≤ 5) : (Run.begin n).answers = 1 ∧ (Run.begin n).fixed.length = 1 ∧ (Run.begin n).last.length = n ∧ (Run.begin n).n = n ∧ (Run.begin n).last.all (fun x => decide (x.commit = 1) && decide (x.epoch = 0)) = true := by
 match n, h, h5 with
 | 1, _, _ => decide +kernel
 | 2, _, _ => decide +kernel
 | 3, _, _ => decide +kernel
 | 4, _, _ => decide +kernel
 | 5, _, _ => decide +kernel
theorem firstInts_len (n : Nat) : (firstInts n).length = n := by simp [firstInts]
theorem lastWish_snoc (c : Int) (ws : List Wish) (w : Wish) : lastWish c (ws ++ [w]) = if w.e.client = c then w.e else lastWish c ws := by
 unfold lastWish
 rw [List.foldl_append]
 rfl
theorem first_look (n : Nat) (h : 1 ≤ n) (h5 : n ≤ 5) : RI ((Run.first n).look) 0 (Gh.first n) ∧ ((Run.first n).look).x = Clu.first n ∧ ((Run.first n).look).n = n ∧ ((Run.first n).look).wishes = [] ∧ ((Run.first n).look).fixed.length = 0 ∧ ((Run.first n).look).top = -1 ∧ ((Run.first n).look).begun0 = 0 ∧ ((Run.first n).look).begun1 = 0 := by
 obtain ⟨l1, l2, l3, l4, l5, l6, l7, l8, l9, l10⟩ := (first_mid n h h5).look
 have hf : ((Run.first n).look).fixed.length = 0 := by
  have := l9 0 (Nat.le_refl _) (by
   intro i hi
   have hn : (Clu.first n).reps.length = n := by unfold Clu.first; simp
   have hi' : i < n := by
    have : i < (Clu.first n).reps.length := hi
    omega
   show ((Clu.first n).rep i).commit ≤ 0
   rw [first_rep (by omega) (by omega)]
   exact Nat.le_refl _)
  omega
 refine ⟨l1, l2, l3, l4, hf, ?_, l6, l7⟩
 have h1 := l1.mid.top.1
 have h2 := l1.mid.top.2
 rw [hf] at h2
 omega
structure PMas where
 begun : Nat
 doing : Int
 waits : List Int
 epoch : Int
 old : List Int
 vote : Int
 mems : List Int
 log : List Ent
def PMas.ballot (p : PMas) (own : Int) : Int := 2 * (p.begun : Int) + own - 200
def PMas.question (p : PMas) (own : Int) : Msg :=
 if p.doing = 1 then { kind := 5, src := 0, dst := 0, ballot := p.ballot own }
 else if p.doing = 2 then { kind := 7, src := 0, dst := 0, epoch := p.epoch, ballot := p.ballot own }
 else if p.doing = 3 then { kind := 9, src := 0, dst := 0, epoch := p.epoch, ballot := p.ballot own }
 else if p.doing = 4 then { kind := 11, src := 0, dst := 0, epoch := p.epoch, ballot := p.ballot own, mems := p.mems, log := p.log }
 else if p.doing = 5 then { kind := 13, src := 0, dst := 0, epoch := p.epoch, mems := p.mems, log := p.log }
 else { kind := 15, src := 0, dst := 0, epoch := p.epoch, mems := p.mems }
def PMas.askOf (p : PMas) (own dd : Int) : Msg := { p.question own with src := own, dst := dd }
def PMas.asks (p : PMas) (own : Int) : List Msg := p.waits.map (p.askOf own)
def PMas.turnTo (p : PMas) (own d : Int) (l : List Int) : PMas × List Msg := ({ p with doing := d, waits := l }, { p with doing := d, waits := l }.asks own)
def PMas.idle (p : PMas) : PMas := { begun := p.begun, doing := 0, waits := [], epoch := 0, old := [], vote := 0, mems := [], log := [] }
def PMas.fresh (p : PMas) (l : List Int) : PMas := { begun := p.begun + 1, doing := 0, waits := [], epoch := 0, old := [], vote := -1, mems := l, log := [] }
def PMas.enough (p : PMas) : Bool := if p.doing = 2 then true else if p.doing = 5 then decide ((p.waits.length : Int) = 0) else decide ((p.waits.length : Int) ≤ 1)
def PMas.isAnswer (p : PMas) (own : Int) (m : Msg) : Bool :=
 if p.doing = 1 then (m.kind == 6) && (m.ballot == p.ballot own)
 else if p.doing = 2 then ((m.kind == 8) && (m.epoch == p.epoch)) && (m.ballot == p.ballot own)
 else if p.doing = 3 then ((m.kind == 10) && (m.epoch == p.epoch)) && (m.ballot == p.ballot own)
 else if p.doing = 4 then ((m.kind == 12) && (m.epoch == p.epoch)) && (m.ballot == p.ballot own)
 else if p.doing = 5 then (m.kind == 14) && (m.epoch == p.epoch)
 else if p.doing = 6 then (m.kind == 16) && (m.epoch == p.epoch)
 else false
def PMas.learnRegister (p : PMas) (m : Msg) : PMas := if p.epoch < m.epoch + 1 then { p with epoch := m.epoch + 1, old := m.mems } else p
def PMas.learnVote (p : PMas) (m : Msg) : PMas := if p.vote < m.vote then { p with vote := m.vote, mems := m.mems, log := m.log } else p
def PMas.learn (p : PMas) (m : Msg) : PMas :=
 if p.doing = 1 then p.learnRegister m else if p.doing = 2 then { p with log := m.log } else if p.doing = 3 then p.learnVote m else p
def PMas.goOn (p : PMas) (own : Int) : PMas × List Msg :=
 if p.doing = 1 then { p with old := [] }.turnTo own 2 p.old
 else if p.doing = 2 then p.turnTo own 3 [100, 101, 102]
 else if p.doing = 3 then p.turnTo own 4 [100, 101, 102]
 else if p.doing = 4 then p.turnTo own 5 p.mems
 else if p.doing = 5 then p.turnTo own 6 [100, 101, 102]
 else (p.idle, [])
def PMas.less (p : PMas) (x : Int) : PMas := { p with waits := p.waits.eraseIdx (p.waits.idxOf x) }
def PMas.take (p : PMas) (own : Int) (m : Msg) : PMas × List Msg :=
 if m.src ∈ p.waits ∧ p.isAnswer own m = true then
  if ((p.less m.src).learn m).enough = true then ((p.less m.src).learn m).goOn own else ((p.less m.src).learn m, [])
 else (p, [])
structure MRel (own : Int) (s : Mas) (p : PMas) : Prop where
 begun : p.begun = s.begun
 doing : p.doing = (s.does : Int)
 ballot : s.does ≠ 0 → p.ballot own = s.ballot
 waits : p.waits = s.all.filter (fun x => !s.cameFrom x)
 count : p.waits.length + s.came.length = s.all.length
 one : s.does = 1 → (s.came = [] → p.epoch = 0 ∧ p.old = []) ∧ ∀ m r, s.came = m :: r → p.epoch = m.epoch + 1 ∧ p.old = m.mems
 epoch : 2 ≤ s.does → p.epoch = s.epoch
 vote : s.does = 1 ∨ s.does = 2 → p.vote = -1 ∧ p.mems = s.want
 three : s.does = 3 → ((s.came = [] ∨ ∃ m r, s.came = m :: r ∧ m.vote ≤ -1) → p.vote = -1 ∧ p.mems = s.want ∧ p.log = s.log) ∧ ∀ m r, s.came = m :: r → -1 < m.vote → p.vote = m.vote ∧ p.mems = m.mems ∧ p.log = m.log
 last : 4 ≤ s.does → p.mems = s.mems ∧ p.log = s.log
 old5 : p.old.length ≤ 5
 mems5 : p.mems.length ≤ 5
 log24 : p.log.length ≤ 24
end Go.Proofs.YtlminmokpmdgoabGreat
