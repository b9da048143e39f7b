import Derived.Test.YtlminmokpmdgoabGreatK07
namespace Go.Proofs.YtlminmokpmdgoabGreat
structure RepRel (x y : Rep) : Prop where
 epoch : x.epoch ≤ y.epoch
 lock : x.lock ≤ y.lock
 same : x.epoch = y.epoch → x.mems = y.mems ∧ x.log <+: y.log ∧ (x.epoch < x.lock → x.log = y.log ∧ y.commit ≤ x.commit)
theorem RepRel.refl (x : Rep) : RepRel x x := ⟨Int.le_refl _, Int.le_refl _, fun _ => ⟨rfl, List.prefix_refl _, fun _ => ⟨rfl, Nat.le_refl _⟩⟩⟩
theorem rel_put (r : Rep) (own : Int) (e : Ent) (hl : r.lock ≤ r.epoch) : RepRel r (r.put own e).1 := by
 unfold Rep.put
 split
 ·exact ⟨Int.le_refl _, Int.le_refl _, fun _ => ⟨rfl, List.prefix_append _ _, fun q => by omega⟩⟩
 ·exact ⟨Int.le_refl _, Int.le_refl _, fun _ => ⟨rfl, List.prefix_append _ _, fun q => by omega⟩⟩
theorem rel_take (r : Rep) (own : Int) (m : Msg) (hl : r.lock ≤ r.epoch + 1) : RepRel r (r.take own m).1 := by
 unfold Rep.take
 split
 ·split
  ·rename_i hc
   have hlv := ((live_iff _ _).1 hc.2).2
   unfold Rep.asked
   split
   ·exact RepRel.refl _
   ·split
    ·split <;> exact RepRel.refl _
    ·split
     ·exact RepRel.refl _
     ·exact rel_put _ _ _ hlv
  ·exact RepRel.refl _
 ·split
  ·unfold Rep.takeForward
   split
   ·rename_i hc
    have hlv := ((live_iff _ _).1 hc.1).2
    split
    ·exact rel_put _ _ _ hlv
    ·split <;> exact RepRel.refl _
   ·exact RepRel.refl _
  ·split
   ·unfold Rep.takeAck
    split
    ·rename_i hc
     have hlv := ((live_iff _ _).1 hc.1).2
     exact ⟨Int.le_refl _, Int.le_refl _, fun _ => ⟨rfl, List.prefix_refl _, fun q => by omega⟩⟩
    ·exact RepRel.refl _
   ·split
    ·unfold Rep.takeSeal
     split
     ·exact RepRel.refl _
     ·refine ⟨Int.le_refl _, ?_, fun _ => ⟨rfl, List.prefix_refl _, fun _ => ⟨rfl, Nat.le_refl _⟩⟩⟩
      show r.lock ≤ if _ then _ else _
      split <;> omega
    ·split
     ·unfold Rep.takeInstall
      by_cases hlt : r.epoch < m.epoch
      ·rw [if_pos hlt]
       exact ⟨Int.le_of_lt hlt, Int.le_refl _, fun q => by have q' : r.epoch = m.epoch := q; omega⟩
      ·rw [if_neg hlt]
       exact RepRel.refl _
     ·exact RepRel.refl _
theorem rel_crash {n : Nat} {E : Int} {r : Rep} (h : RepWF n E r) : RepRel r r.crash :=
 ⟨Int.le_refl _, Int.le_refl _, fun _ => ⟨rfl, List.prefix_refl _, fun _ => ⟨rfl, h.bc⟩⟩⟩
theorem rel_restart {n : Nat} {E : Int} {r : Rep} (own : Int) (h : RepWF n E r) : RepRel r (r.restart own) := by
 refine ⟨Int.le_refl _, Int.le_refl _, fun _ => ⟨rfl, List.prefix_refl _, fun q => ⟨rfl, ?_⟩⟩⟩
 show (if _ then _ else _) ≤ r.commit
 split
 ·rename_i hc
  have := ((live_iff _ _).1 hc.1).2
  omega
 ·exact h.bc
theorem still_of_rel {x y : Rep} (h : RepRel x y) : stillOf true x y = true := by
 unfold stillOf
 have h1 := h.epoch
 have h2 := h.lock
 have e1 : decide (y.epoch < x.epoch) = false := decide_eq_false (by omega)
 have e2 : decide (y.lock < x.lock) = false := decide_eq_false (by omega)
 simp only [e1, e2, Bool.or_self, Bool.not_false, Bool.and_self]
 by_cases he : x.epoch = y.epoch
 ·obtain ⟨a1, a2, a3⟩ := h.same he
  have hle := a2.length_le
  rw [if_neg (by simpa using he), if_neg (by rintro (q | q); exact q a1; omega)]
  have e3 : decide (x.log = y.log.take x.log.length) = true := decide_eq_true (by obtain ⟨t, ht⟩ := a2; rw [← ht, List.take_left])
  rw [e3]
  by_cases hs : x.epoch < x.lock
  ·obtain ⟨b1, b2⟩ := a3 hs
   have e4 : decide (x.log.length < y.log.length) = false := decide_eq_false (by rw [b1]; omega)
   have e5 : decide (x.commit < y.commit) = false := decide_eq_false (by omega)
   simp [e4, e5]
  ·have e6 : decide (x.epoch < x.lock) = false := decide_eq_false hs
   simp [e6]
 ·rw [if_pos (by simpa using he)]
def Fixes (g : Gh) (fixed : List Fix) : Prop := ∀ (p : Nat) (f : Fix), fixed[p]? = some f → ∃ c, g.com f.epoch c ∧ c[p]? = some f.e
theorem Inv.com_same {g : Gh} {s : St} (h : Inv g s) {e e' : Int} {c c' : List Ent} (h1 : g.com e c) (h2 : g.com e' c') {p : Nat} {x y : Ent} (hx : c[p]? = some x) (hy : c'[p]? = some y) : x = y := by
 by_cases hle : e ≤ e'
 ·have := prefix_get (h.com_le h1 h2 hle) hx
  rw [this] at hy; injection hy
 ·have := prefix_get (h.com_le h2 h1 (by omega)) hy
  rw [this] at hx; injection hx with hx; exact hx.symm
theorem Inv.com_log {g : Gh} {s : St} (h : Inv g s) {e : Int} {c : List Ent} (hc : g.com e c) : onceL c ∧ ∀ x ∈ c, g.asked x := by
 obtain ⟨mems, l0, hcf, rfl⟩ := hc
 unfold Gh.H
 cases hh : g.hist (mems.getLastD 0) e with
 | none => exact ⟨(h.cfg_log hcf).1, (h.cfg_log hcf).2.1⟩
 | some l =>
  obtain ⟨_, _, _, _, q1, q2, _⟩ := h.hist hh
  exact ⟨q1, q2⟩
theorem Fixes.both {g : Gh} {s : St} (h : Inv g s) {fixed : List Fix} (hf : Fixes g fixed) {p q : Nat} {a b : Fix} (ha : fixed[p]? = some a) (hb : fixed[q]? = some b) (hpq : p ≤ q) : ∃ e c, g.com e c ∧ c[p]? = some a.e ∧ c[q]? = some b.e := by
 obtain ⟨c1, h1, h2⟩ := hf p a ha
 obtain ⟨c2, h3, h4⟩ := hf q b hb
 refine ⟨b.epoch, c2, h3, ?_, h4⟩
 have hlt := (List.getElem?_eq_some_iff.1 h4).1
 have hx : c2[p]? = some c2[p] := List.getElem?_eq_getElem (by omega)
 rw [hx, h.com_same h1 h3 h2 hx]
theorem once_at {l : List Ent} (h : onceL l) {p q : Nat} {x y : Ent} (hx : l[p]? = some x) (hy : l[q]? = some y) (hc : x.client = y.client) (hs : x.seq = y.seq) : p = q := by
 obtain ⟨a1, a2⟩ := List.getElem?_eq_some_iff.1 hx
 obtain ⟨b1, b2⟩ := List.getElem?_eq_some_iff.1 hy
 have hp := List.pairwise_iff_getElem.1 h
 rcases Nat.lt_trichotomy p q with r | r | r
 ·have := hp p q a1 b1 r
  rw [a2, b2] at this
  exact absurd ⟨hc, hs⟩ this
 ·exact r
 ·have := hp q p b1 a1 r
  rw [a2, b2] at this
  exact absurd ⟨hc.symm, hs.symm⟩ this
theorem Fixes.once {g : Gh} {s : St} (h : Inv g s) {fixed : List Fix} (hf : Fixes g fixed) {p q : Nat} {a b : Fix} (ha : fixed[p]? = some a) (hb : fixed[q]? = some b) (hc : a.e.client = b.e.client) (hs : a.e.seq = b.e.seq) : p = q := by
 by_cases hpq : p ≤ q
 ·obtain ⟨e, c, h1, h2, h3⟩ := hf.both h ha hb hpq
  exact once_at (h.com_log h1).1 h2 h3 hc hs
 ·obtain ⟨e, c, h1, h2, h3⟩ := hf.both h hb ha (by omega)
  exact (once_at (h.com_log h1).1 h2 h3 hc.symm hs.symm).symm
theorem getD_at {α : Type} {l : List α} {p : Nat} {x d : α} (h : l[p]? = some x) : l.getD p d = x := by rw [List.getD, h]; rfl
theorem commits_ok {g : Gh} {s : St} (h : Inv g s) {i : Int} (hi0 : 0 ≤ i) (hi1 : i < g.n) (fixed : List Fix) (hf : Fixes g fixed) : ∀ k, k ≤ (s.R i).commit →
  Fixes g ((List.range k).foldl (commit1 (s.R i)) (fixed, true)).1 ∧ ((List.range k).foldl (commit1 (s.R i)) (fixed, true)).2 = true ∧
  ((List.range k).foldl (commit1 (s.R i)) (fixed, true)).1.length = max fixed.length k ∧ fixed.map Fix.e <+: ((List.range k).foldl (commit1 (s.R i)) (fixed, true)).1.map Fix.e := by
 obtain ⟨c, hcom, hcm, hpre⟩ := h.rep_com hi0 hi1
 intro k
 induction k with
 | zero => intro _; exact ⟨hf, rfl, by simp, List.prefix_refl _⟩
 | succ k ih =>
  intro hk
  obtain ⟨q1, q2, q3, q4⟩ := ih (by omega)
  rw [List.range_succ, List.foldl_append, List.foldl_cons, List.foldl_nil]
  generalize (List.range k).foldl (commit1 (s.R i)) (fixed, true) = st at *
  obtain ⟨F, ag⟩ := st
  simp only [] at q1 q2 q3 q4
  subst q2
  have hck : c[k]? = some c[k] := List.getElem?_eq_getElem (by omega)
  have hlk : (s.R i).log[k]? = some c[k] := prefix_get hpre hck
  have hl : (s.R i).log.getD k Ent.zero = c[k] := getD_at hlk
  unfold commit1
  by_cases hlt : k < F.length
  ·rw [if_pos hlt]
   have hF : F[k]? = some F[k] := List.getElem?_eq_getElem hlt
   have hg : F.getD k Fix.zero = F[k] := getD_at hF
   obtain ⟨c', h1, h2⟩ := q1 k _ hF
   have he : F[k].e = c[k] := h.com_same h1 hcom h2 hck
   rw [hg, hl]
   refine ⟨?_, ?_, ?_, ?_⟩
   ·show Fixes g (if _ then _ else _)
    split
    ·intro p f hp
     by_cases hpk : k = p
     ·subst hpk
      rw [List.getElem?_set_self hlt] at hp
      injection hp with hp
      subst hp
      exact ⟨c, hcom, by rw [he]; exact hck⟩
     ·rw [List.getElem?_set_ne hpk] at hp
      exact q1 p f hp
    ·exact q1
   ·simp [he]
   ·show (if _ then _ else _ : List Fix).length = _
    split
    ·rw [List.length_set]; omega
    ·omega
   ·show _ <+: (if _ then _ else _ : List Fix).map Fix.e
    split
    ·rw [List.map_set]
     have : (F.map Fix.e).set k F[k].e = F.map Fix.e := by
      apply List.ext_getElem
      ·simp
      ·intro j h1 h2
       rw [List.getElem_set]
       split
       ·rename_i q; subst q; simp
       ·rfl
     rw [this]; exact q4
    ·exact q4
  ·rw [if_neg hlt]
   have hkF : k = F.length := by omega
   rw [hl]
   refine ⟨?_, ?_, ?_, ?_⟩
   ·intro p f hp
    by_cases hpk : p < F.length
    ·exact q1 p f (by rw [List.getElem?_append_left hpk] at hp; exact hp)
    ·have hlt2 := (List.getElem?_eq_some_iff.1 hp).1
     rw [List.length_append, List.length_singleton] at hlt2
     have : p = k := by omega
     subst this
     rw [List.getElem?_append_right (by omega)] at hp
     have hz : p - F.length = 0 := by omega
     have hp' : [(⟨c[p], (s.R i).epoch⟩ : Fix)][p - F.length]? = some f := hp
     rw [hz] at hp'
     injection hp' with hp'
     subst hp'
     exact ⟨c, hcom, hck⟩
   ·show (true && !F.any _) = true
    have : F.any (fun f => isReq c[k] f.e) = false := by
     rw [List.any_eq_false]
     intro f hf' hq
     obtain ⟨j, hj, hje⟩ := List.getElem_of_mem hf'
     have hFj : F[j]? = some f := by rw [List.getElem?_eq_getElem hj, hje]
     obtain ⟨c', h1, h2⟩ := q1 j f hFj
     have hcj : c[j]? = some c[j] := List.getElem?_eq_getElem (by omega)
     have he := h.com_same h1 hcom h2 hcj
     unfold isReq at hq
     simp only [Bool.and_eq_true, decide_eq_true_eq] at hq
     have := once_at (h.com_log hcom).1 hcj hck (by rw [← he]; exact hq.1) (by rw [← he]; exact hq.2)
     omega
    rw [this]; rfl
   ·rw [List.length_append, List.length_singleton]; omega
   ·rw [List.map_append]
    exact q4.trans (List.prefix_append _ _)
theorem commitsOf_ok {g : Gh} {s : St} (h : Inv g s) {i : Int} (hi0 : 0 ≤ i) (hi1 : i < g.n) (fixed : List Fix) (hf : Fixes g fixed) :
  Fixes g (commitsOf (fixed, true) (s.R i)).1 ∧ (commitsOf (fixed, true) (s.R i)).2 = true ∧ (commitsOf (fixed, true) (s.R i)).1.length = max fixed.length (s.R i).commit ∧ fixed.map Fix.e <+: (commitsOf (fixed, true) (s.R i)).1.map Fix.e :=
 commits_ok h hi0 hi1 fixed hf _ (Nat.le_refl _)
theorem holdsOf_ok {g : Gh} {s : St} (h : Inv g s) {i : Int} (hi0 : 0 ≤ i) (hi1 : i < g.n) (fixed : List Fix) (hf : Fixes g fixed) : holdsOf fixed true (s.R i) = true := by
 obtain ⟨c, hcom, hcm, hpre⟩ := h.rep_com hi0 hi1
 unfold holdsOf
 rw [Bool.true_and, List.all_eq_true]
 intro p hp
 rw [List.mem_range] at hp
 have hF : fixed[p]? = some fixed[p] := List.getElem?_eq_getElem hp
 unfold holdsAt
 rw [getD_at hF]
 by_cases he : fixed[p].epoch < (s.R i).epoch
 ·obtain ⟨c', h1, h2⟩ := hf p _ hF
  have hl := prefix_get ((h.com_le h1 hcom (by omega)).trans hpre) h2
  have hlt := (List.getElem?_eq_some_iff.1 hl).1
  rw [getD_at hl]
  simp only [decide_true, Bool.not_true, Bool.or_false]
  have : decide ((s.R i).log.length ≤ p) = false := decide_eq_false (by omega)
  rw [this]; simp
 ·rw [decide_eq_false he]; rfl
structure Mid (r : Run) (E : Int) (g : Gh) : Prop where
 good : Good r.x E g
 n : r.n = r.x.reps.length
 flags : r.ok = true ∧ r.agreed = true ∧ r.lasts = true ∧ r.told = true ∧ r.sealed = true
 asked : ∀ x, g.asked x → ∃ w ∈ r.wishes, w.e = x
 wok : ∀ w ∈ r.wishes, w.e.ok = true
 wnd : (r.wishes.map Wish.e).Nodup
 fix : Fixes g r.fixed
 seen : ∀ K, r.fixed.length ≤ K → (∀ i : Int, 0 ≤ i → i < g.n → ((stOf r.x).R i).commit ≤ K) → g.seen ≤ K
 rel : ∀ p ∈ r.last.zip r.x.reps, RepRel p.1 p.2
 ans : r.answers ≤ r.x.told.length ∧ ∀ a ∈ r.x.told.drop r.answers, ∃ m, MsgInv g (stOf r.x) m ∧ m.kind = 4 ∧ a = ⟨m.dst - 300, m.pos, m.value⟩
 top : -1 ≤ r.top ∧ r.top < r.fixed.length
 floor : ∀ w ∈ r.wishes, -1 ≤ w.floor ∧ w.floor ≤ r.top ∧ ∀ (p : Nat) (f : Fix), r.fixed[p]? = some f → f.e = w.e → w.floor < p
structure RI (r : Run) (E : Int) (g : Gh) : Prop where
 mid : Mid r E g
 seen : g.seen ≤ r.fixed.length
 last : r.last = r.x.reps
 ans : r.answers = r.x.told.length
theorem floorOf_at {ws : List Wish} (h : (ws.map Wish.e).Nodup) {w : Wish} (hw : w ∈ ws) : floorOf ws w.e = w.floor := by
 have gen : ∀ (ws : List Wish) (f0 : Int), (ws.map Wish.e).Nodup → ((∃ v ∈ ws, v.e = w.e) → w ∈ ws) → w ∈ ws ∨ f0 = w.floor → (w ∈ ws → True) → ws.foldl (fun f v => if v.e = w.e then v.floor else f) f0 = w.floor := by
  intro ws
  induction ws with
  | nil =>
   intro f0 _ _ h2 _
   rcases h2 with q | q
   ·cases q
   ·exact q
  | cons a t ih =>
   intro f0 hn hu h2 _
   rw [List.foldl_cons]
   rw [List.map_cons, List.nodup_cons] at hn
   by_cases ha : a.e = w.e
   ·rw [if_pos ha]
    have hwm : w ∈ a :: t := hu ⟨a, List.mem_cons_self, ha⟩
    have hwt : w ∉ t := fun q => hn.1 (by rw [ha]; exact List.mem_map_of_mem q)
    have hwa : w = a := by
     rcases List.mem_cons.1 hwm with q | q
     ·exact q
     ·exact absurd q hwt
    refine ih a.floor hn.2 ?_ (.inr (by rw [hwa])) (fun _ => trivial)
    rintro ⟨v, hv, he⟩
    exact absurd (by rw [ha, ← he]; exact List.mem_map_of_mem hv) hn.1
   ·rw [if_neg ha]
    refine ih f0 hn.2 ?_ ?_ (fun _ => trivial)
    ·rintro ⟨v, hv, he⟩
     rcases List.mem_cons.1 (hu ⟨v, List.mem_cons_of_mem _ hv, he⟩) with q | q
     ·subst q; exact absurd rfl ha
     ·exact q
    ·rcases h2 with q | q
     ·rcases List.mem_cons.1 q with q | q
      ·subst q; exact absurd rfl ha
      ·exact .inl q
     ·exact .inr q
 exact gen ws (-2) h (fun _ => hw) (.inl hw) (fun _ => trivial)
theorem placeOf_at {fixed : List Fix} {p : Nat} {f : Fix} (hf : fixed[p]? = some f) (hu : ∀ (q : Nat) (f' : Fix), fixed[q]? = some f' → f'.e.client = f.e.client → f'.e.seq = f.e.seq → q = p) : placeOf fixed f.e.client f.e.seq = p := by
 have hlt := (List.getElem?_eq_some_iff.1 hf).1
 have gen : ∀ k, k ≤ fixed.length → (List.range k).foldl (fun (at_ : Int) q => if (fixed.getD q Fix.zero).e.client = f.e.client ∧ (fixed.getD q Fix.zero).e.seq = f.e.seq then (q : Int) else at_) (-1) = if p < k then (p : Int) else -1 := by
  intro k
  induction k with
  | zero => intro _; simp
  | succ k ih =>
   intro hk
   rw [List.range_succ, List.foldl_append, List.foldl_cons, List.foldl_nil, ih (by omega)]
   have hF : fixed[k]? = some fixed[k] := List.getElem?_eq_getElem (by omega)
   rw [getD_at hF]
   by_cases hq : fixed[k].e.client = f.e.client ∧ fixed[k].e.seq = f.e.seq
   ·rw [if_pos hq]
    have := hu k _ hF hq.1 hq.2
    rw [if_pos (by omega)]
    omega
   ·rw [if_neg hq]
    have hne : k ≠ p := by
     intro e
     subst e
     rw [hF] at hf
     injection hf with hf
     exact hq ⟨by rw [hf], by rw [hf]⟩
    by_cases hpk : p < k
    ·rw [if_pos hpk, if_pos (by omega)]
    ·rw [if_neg hpk, if_neg (by omega)]
 unfold placeOf
 rw [gen _ (Nat.le_refl _), if_pos hlt]
theorem Fixes.take {g : Gh} {s : St} (h : Inv g s) {fixed : List Fix} (hf : Fixes g fixed) {e : Int} {c : List Ent} (hc : g.com e c) {k : Nat} (h1 : k ≤ fixed.length) (h2 : k ≤ c.length) : (fixed.map Fix.e).take k = c.take k := by
 apply List.ext_getElem?
 intro j
 by_cases hj : j < k
 ·rw [List.getElem?_take_of_lt hj, List.getElem?_take_of_lt hj, List.getElem?_map]
  have a1 : fixed[j]? = some fixed[j] := List.getElem?_eq_getElem (by omega)
  have a2 : c[j]? = some c[j] := List.getElem?_eq_getElem (by omega)
  obtain ⟨c', q1, q2⟩ := hf j _ a1
  rw [a1, a2]
  show some fixed[j].e = _
  rw [h.com_same q1 hc q2 a2]
 ·rw [List.getElem?_eq_none (by rw [List.length_take]; omega), List.getElem?_eq_none (by rw [List.length_take]; omega)]
theorem answer_take {a b : List Ent} {p : Nat} (h : a.take (p + 1) = b.take (p + 1)) : answerAt a p = answerAt b p := by
 have h1 : a.take p = b.take p := by
  have := congrArg (List.take p) h
  rwa [List.take_take, List.take_take, Nat.min_eq_left (by omega)] at this
 have h2 : a.getD p Ent.zero = b.getD p Ent.zero := by
  have := congrArg (fun l => l[p]?) h
  simp only [List.getElem?_take_of_lt (Nat.lt_succ_self p)] at this
  rw [List.getD, List.getD, this]
 unfold answerAt
 rw [h1, h2]
theorem hear1_ok {r : Run} {g : Gh} {s : St} (h : Inv g s) (hf : Fixes g r.fixed) (hseen : g.seen ≤ r.fixed.length) (hask : ∀ x, g.asked x → ∃ w ∈ r.wishes, w.e = x) (hnd : (r.wishes.map Wish.e).Nodup)
  (hfl : ∀ w ∈ r.wishes, -1 ≤ w.floor ∧ ∀ (p : Nat) (f : Fix), r.fixed[p]? = some f → f.e = w.e → w.floor < p) {m : Msg} (hm : MsgInv g s m) (hk : m.kind = 4) (top : Int) (htop : top < r.fixed.length) :
  ∃ t, hear1 r top ⟨m.dst - 300, m.pos, m.value⟩ = some t ∧ top ≤ t ∧ t < r.fixed.length := by
 obtain ⟨e, c, x, p, hc, hx, q1, q2, q3, q4⟩ := hm.rep hk
 have hpl : p < r.fixed.length := by omega
 have hF : r.fixed[p]? = some r.fixed[p] := List.getElem?_eq_getElem hpl
 obtain ⟨c', q5, q6⟩ := hf p _ hF
 have he : r.fixed[p].e = x := h.com_same q5 hc q6 hx
 have hplace : placeOf r.fixed x.client x.seq = p := by
  have := placeOf_at hF (fun q f' hq h1 h2 => hf.once h hq hF h1 h2)
  rw [he] at this
  exact this
 obtain ⟨w, hw, hwe⟩ := hask x ((h.com_log hc).2 x (List.mem_of_getElem? hx))
 have hfloor : floorOf r.wishes x = w.floor := by rw [← hwe]; exact floorOf_at hnd hw
 obtain ⟨f1, f2⟩ := hfl w hw
 have f3 := f2 p _ hF (by rw [he, hwe])
 have hval : valueAt r.fixed p = m.value := by
  have hpc := (List.getElem?_eq_some_iff.1 hx).1
  rw [q3]
  exact answer_take (hf.take h hc (by omega) (by omega))
 unfold hear1
 have e1 : m.dst - 300 = x.client := by omega
 simp only [e1, q2, hplace, Int.toNat_natCast, getD_at hF, he, hfloor, hval]
 rw [if_neg (by omega), if_neg (by rintro (q | q | q) <;> omega)]
 refine ⟨_, rfl, ?_, ?_⟩ <;> split <;> omega
theorem hearAll_ok {r : Run} {g : Gh} {s : St} (h : Inv g s) (hf : Fixes g r.fixed) (hseen : g.seen ≤ r.fixed.length) (hask : ∀ x, g.asked x → ∃ w ∈ r.wishes, w.e = x) (hnd : (r.wishes.map Wish.e).Nodup)
  (hfl : ∀ w ∈ r.wishes, -1 ≤ w.floor ∧ ∀ (p : Nat) (f : Fix), r.fixed[p]? = some f → f.e = w.e → w.floor < p) :
  ∀ (l : List Ans), (∀ a ∈ l, ∃ m, MsgInv g s m ∧ m.kind = 4 ∧ a = ⟨m.dst - 300, m.pos, m.value⟩) → ∀ top : Int, top < r.fixed.length → ∃ t, hearAll r top l = some t ∧ top ≤ t ∧ t < r.fixed.length := by
 intro l
 induction l with
 | nil => intro _ top ht; exact ⟨top, rfl, Int.le_refl _, ht⟩
 | cons a l ih =>
  intro hl top ht
  obtain ⟨m, h1, h2, h3⟩ := hl a List.mem_cons_self
  obtain ⟨t, t1, t2, t3⟩ := hear1_ok h hf hseen hask hnd hfl h1 h2 top ht
  obtain ⟨t', u1, u2, u3⟩ := ih (fun x hx => hl x (List.mem_cons_of_mem _ hx)) t t3
  refine ⟨t', ?_, Int.le_trans t2 u2, u3⟩
  unfold hearAll
  rw [h3, t1]
  exact u1
theorem rep_nat {c : Clu} {i : Nat} (h : i < c.reps.length) : c.rep (i : Int) = c.reps[i] := by
 unfold Clu.rep
 rw [Int.toNat_natCast, List.getD, List.getElem?_eq_getElem h]
 rfl
theorem isRep_nat {c : Clu} {i : Nat} (h : i < c.reps.length) : c.isRep (i : Int) := by unfold Clu.isRep; omega
theorem commitsAll_ok {c : Clu} {E : Int} {g : Gh} (h : Nodes c E g) (fixed : List Fix) (hf : Fixes g fixed) : ∀ k, k ≤ c.reps.length →
  Fixes g ((c.reps.take k).foldl commitsOf (fixed, true)).1 ∧ ((c.reps.take k).foldl commitsOf (fixed, true)).2 = true ∧ fixed.map Fix.e <+: ((c.reps.take k).foldl commitsOf (fixed, true)).1.map Fix.e ∧
   fixed.length ≤ ((c.reps.take k).foldl commitsOf (fixed, true)).1.length ∧ (∀ i : Nat, i < k → (c.rep i).commit ≤ ((c.reps.take k).foldl commitsOf (fixed, true)).1.length) ∧
   (∀ K, fixed.length ≤ K → (∀ i : Nat, i < k → (c.rep i).commit ≤ K) → ((c.reps.take k).foldl commitsOf (fixed, true)).1.length ≤ K) := by
 intro k
 induction k with
 | zero => intro _; exact ⟨hf, rfl, List.prefix_refl _, Nat.le_refl _, fun i hi => (by omega), fun K hK _ => hK⟩
 | succ k ih =>
  intro hk
  obtain ⟨q1, q2, q3, q4, q5, q6⟩ := ih (by omega)
  have htk : c.reps.take (k + 1) = c.reps.take k ++ [c.reps[k]] := List.take_succ_eq_append_getElem (by omega)
  rw [htk, List.foldl_append, List.foldl_cons, List.foldl_nil]
  generalize (c.reps.take k).foldl commitsOf (fixed, true) = st at *
  obtain ⟨F, ag⟩ := st
  simp only [] at q1 q2 q3 q4 q5 q6
  subst q2
  have hn := h.n
  have hrep : (stOf c).R (k : Int) = c.reps[k] := by rw [stOf_R (isRep_nat (by omega)), rep_nat (by omega)]
  have := commitsOf_ok h.inv (i := (k : Int)) (by omega) (by omega) F q1
  rw [hrep] at this
  obtain ⟨p1, p2, p3, p4⟩ := this
  refine ⟨p1, p2, q3.trans p4, by omega, ?_, ?_⟩
  ·intro i hi
   by_cases hik : i = k
   ·subst hik; rw [rep_nat (by omega)]; omega
   ·have := q5 i (by omega); omega
  ·intro K hK hc
   rw [p3]
   have h1 := q6 K hK (fun i hi => hc i (by omega))
   have h2 := hc k (by omega)
   rw [rep_nat (by omega)] at h2
   omega
theorem holdsAll_ok {c : Clu} {E : Int} {g : Gh} (h : Nodes c E g) (fixed : List Fix) (hf : Fixes g fixed) : ∀ l : List Rep, (∀ x ∈ l, x ∈ c.reps) → l.foldl (holdsOf fixed) true = true := by
 intro l
 induction l with
 | nil => intro _; rfl
 | cons a l ih =>
  intro hl
  rw [List.foldl_cons]
  obtain ⟨i, hi, hie⟩ := List.getElem_of_mem (hl a List.mem_cons_self)
  have hn := h.n
  have hrep : (stOf c).R (i : Int) = a := by rw [stOf_R (isRep_nat hi), rep_nat hi, hie]
  have := holdsOf_ok h.inv (i := (i : Int)) (by omega) (by omega) fixed hf
  rw [hrep] at this
  rw [this]
  exact ih (fun x hx => hl x (List.mem_cons_of_mem _ hx))
theorem stillAll_ok : ∀ l : List (Rep × Rep), (∀ p ∈ l, RepRel p.1 p.2) → l.foldl (fun b p => stillOf b p.1 p.2) true = true := by
 intro l
 induction l with
 | nil => intro _; rfl
 | cons a l ih =>
  intro hl
  rw [List.foldl_cons, still_of_rel (hl a List.mem_cons_self)]
  exact ih (fun x hx => hl x (List.mem_cons_of_mem _ hx))
theorem Mid.look {r : Run} {E : Int} {g : Gh} (h : Mid r E g) : RI r.look E g ∧ r.look.x = r.x ∧ r.look.n = r.n ∧ r.look.wishes = r.wishes ∧ r.fixed.map Fix.e <+: r.look.fixed.map Fix.e ∧ r.look.begun0 = r.begun0 ∧ r.look.begun1 = r.begun1 ∧
  r.fixed.length ≤ r.look.fixed.length ∧ (∀ K, r.fixed.length ≤ K → (∀ i : Nat, i < r.x.reps.length → (r.x.rep i).commit ≤ K) → r.look.fixed.length ≤ K) ∧ r.top ≤ r.look.top := by
 obtain ⟨f1, f2, f3, f4, f5⟩ := h.flags
 have hN := h.good.nodes
 obtain ⟨c1, c2, c3, c4, c5, c6⟩ := commitsAll_ok hN r.fixed h.fix r.x.reps.length (Nat.le_refl _)
 rw [List.take_length] at c1 c2 c3 c4 c5 c6
 unfold Run.look
 rw [f2, f3, f5, stillAll_ok _ h.rel]
 generalize r.x.reps.foldl commitsOf (r.fixed, true) = st at *
 obtain ⟨F, ag⟩ := st
 simp only [] at c1 c2 c3 c4 c5 c6
 subst c2
 simp only [holdsAll_ok hN F c1 r.x.reps (fun _ hx => hx)]
 have hn := hN.n
 have hseen : g.seen ≤ F.length := by
  refine h.seen F.length c4 ?_
  intro i h0 h1
  have hi : i.toNat < r.x.reps.length := by omega
  have hii : ((i.toNat : Nat) : Int) = i := by omega
  rw [← hii, stOf_R (isRep_nat hi)]
  exact c5 _ hi
 have hfl : ∀ w ∈ r.wishes, -1 ≤ w.floor ∧ w.floor ≤ r.top ∧ ∀ (p : Nat) (f : Fix), F[p]? = some f → f.e = w.e → w.floor < p := by
  intro w hw
  obtain ⟨g1, g2, g3⟩ := h.floor w hw
  refine ⟨g1, g2, ?_⟩
  intro p f hp hfe
  by_cases hlt : p < r.fixed.length
  ·have ha : r.fixed[p]? = some r.fixed[p] := List.getElem?_eq_getElem hlt
   refine g3 p _ ha ?_
   obtain ⟨t, ht⟩ := c3
   have e1 : (F.map Fix.e)[p]? = some f.e := by rw [List.getElem?_map, hp]; rfl
   rw [← ht, List.getElem?_append_left (by simpa using hlt), List.getElem?_map, ha] at e1
   injection e1 with e1
   rw [e1, hfe]
  ·have := h.top.2
   omega
 unfold Run.hears
 simp only []
 obtain ⟨a1, a2⟩ := h.ans
 have htop : r.top < F.length := by have := h.top.2; omega
 rw [if_neg (by omega)]
 have hall := hearAll_ok (r := { r with fixed := F, agreed := true, lasts := true, sealed := true, last := r.x.reps }) hN.inv c1 hseen h.asked h.wnd (fun w hw => ⟨(hfl w hw).1, (hfl w hw).2.2⟩) (r.x.told.drop r.answers) a2 r.top htop
 obtain ⟨t, t1, t2, t3⟩ := hall
 rw [t1]
 simp only []
 refine ⟨⟨?_, hseen, rfl, rfl⟩, by trivial, by trivial, by trivial, c3, by trivial, by trivial, c4, c6, t2⟩
 exact
  {good := h.good
   n := h.n
   flags := ⟨f1, rfl, rfl, f4, rfl⟩
   asked := h.asked
   wok := h.wok
   wnd := h.wnd
   fix := c1
   seen := fun K hK _ => Nat.le_trans hseen hK
   rel := by
    intro p hp
    obtain ⟨i, hi, hie⟩ := List.getElem_of_mem hp
    rw [List.getElem_zip] at hie
    rw [← hie]
    exact RepRel.refl _
   ans := ⟨Nat.le_refl _, fun a ha => by rw [List.drop_length] at ha; cases ha⟩
   top := ⟨by have := h.top.1; show -1 ≤ t; omega, t3⟩
   floor := fun w hw => ⟨(hfl w hw).1, Int.le_trans (hfl w hw).2.1 t2, (hfl w hw).2.2⟩ }
end Go.Proofs.YtlminmokpmdgoabGreat
