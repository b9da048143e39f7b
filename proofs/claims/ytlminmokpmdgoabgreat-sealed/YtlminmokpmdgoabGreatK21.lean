import Derived.Test.YtlminmokpmdgoabGreatK20
import Derived.Test.YtlminmokpmdgoabGreatK19
namespace Go.Proofs.YtlminmokpmdgoabGreat
open Go.RowKit Go.Shelf
attribute [local go_sem] Oper.semAt_some
theorem fitList_cons (P : Ent → Bool) (a : Ent) (t : List Ent) : fitList P (a :: t) = (if P a then [(0, a)] else []) ++ (fitList P t).map (fun y => (y.1 + 1, y.2)) := by
 unfold fitList fitTo
 rw [List.length_cons, List.range_succ_eq_map, List.filterMap_cons, List.filterMap_map]
 have e1 : fitAt P (a :: t) 0 = if P a then some (0, a) else none := rfl
 have e2 : (List.range t.length).filterMap (fitAt P (a :: t) ∘ Nat.succ) = ((List.range t.length).filterMap (fitAt P t)).map (fun y => (y.1 + 1, y.2)) := by
  rw [List.map_filterMap]
  congr 1
  funext i
  show fitAt P (a :: t) (i + 1) = _
  unfold fitAt
  rw [show (a :: t).getD (i + 1) Ent.zero = t.getD i Ent.zero from rfl]
  split <;> rfl
 rw [e1, e2]
 by_cases h : P a = true
 ·simp [h]
 ·simp [h]
theorem fit_head (P : Ent → Bool) (es : List Ent) : (fitList P es).head? = if es.any P then some (es.findIdx P, es.getD (es.findIdx P) Ent.zero) else none := by
 induction es with
 | nil => rfl
 | cons a t ih =>
  rw [fitList_cons, List.any_cons, List.findIdx_cons]
  by_cases h : P a = true
  ·simp [h]
  ·simp only [h, Bool.false_eq_true, ↓reduceIte, List.nil_append, Bool.false_or, cond_false]
   rw [List.head?_map, ih]
   by_cases h2 : t.any P = true
   ·rw [if_pos h2, if_pos h2]; rfl
   ·rw [if_neg h2, if_neg h2]; rfl
def isIt (c s : Int) (x : Ent) : Bool := decide (x.client = c) && decide (x.seq = s)
def findAt (es : List Ent) (c s : Int) : Int := if es.any (isIt c s) then (es.findIdx (isIt c s) : Int) else 0
def isLat (c s : Int) (x : Ent) : Bool := decide (x.client = c) && decide (s < x.seq)
def isPut (k : Int) (x : Ent) : Bool := decide (x.kind = 1) && decide (x.key = k)
set_option maxRecDepth 100000 in
set_option maxHeartbeats 1000000 in
theorem find1_any (c s : Int) (Bc Bs : Nat) (e : Ent) (W : World) (hc : W.cell? ⟨Bc, 0, none⟩ = some (.int .i64 c)) (hs : W.cell? ⟨Bs, 0, none⟩ = some (.int .i64 s)) :
  Calls Tryz.prog 142 #[entV e, .pointer (some ⟨Bc, 0, none⟩), .pointer (some ⟨Bs, 0, none⟩)] W fun r W' => r = .returned (.bool (isIt c s e)) ∧ Below W.heap.size W W' := by
 have d0 := fun o => cell_later ((Below.refl _ W).alloc (Nat.le_refl _) o) hc
 have d1 := fun o => cell_later ((Below.refl _ W).alloc (Nat.le_refl _) o) hs
 unfold entV
 by_cases h1 : e.client = c
 ·go_enter Tryz.func142, Tryz.ntmps142
  go_wp2
  go_ret
  exact ⟨by simp [isIt, h1] <;> rfl, (Below.refl _ _).alloc (Nat.le_refl _) _⟩
 ·have h1d : (e.client == c) = false := by simp [h1]
  go_enter Tryz.func142, Tryz.ntmps142
  go_wp2
  go_ret
  exact ⟨by simp [isIt, h1] <;> rfl, (Below.refl _ _).alloc (Nat.le_refl _) _⟩
set_option maxRecDepth 100000 in
set_option maxHeartbeats 1000000 in
theorem later1_any (c s : Int) (Bc Bs : Nat) (e : Ent) (W : World) (hc : W.cell? ⟨Bc, 0, none⟩ = some (.int .i64 c)) (hs : W.cell? ⟨Bs, 0, none⟩ = some (.int .i64 s)) :
  Calls Tryz.prog 145 #[entV e, .pointer (some ⟨Bc, 0, none⟩), .pointer (some ⟨Bs, 0, none⟩)] W fun r W' => r = .returned (.bool (isLat c s e)) ∧ Below W.heap.size W W' := by
 have d0 := fun o => cell_later ((Below.refl _ W).alloc (Nat.le_refl _) o) hc
 have d1 := fun o => cell_later ((Below.refl _ W).alloc (Nat.le_refl _) o) hs
 unfold entV
 by_cases h1 : e.client = c
 ·go_enter Tryz.func145, Tryz.ntmps145
  go_wp2
  go_ret
  exact ⟨by simp [isLat, h1] <;> rfl, (Below.refl _ _).alloc (Nat.le_refl _) _⟩
 ·have h1d : (e.client == c) = false := by simp [h1]
  go_enter Tryz.func145, Tryz.ntmps145
  go_wp2
  go_ret
  exact ⟨by simp [isLat, h1] <;> rfl, (Below.refl _ _).alloc (Nat.le_refl _) _⟩
set_option maxRecDepth 100000 in
set_option maxHeartbeats 1000000 in
theorem answer1_any (k : Int) (Bk : Nat) (e : Ent) (W : World) (hk : W.cell? ⟨Bk, 0, none⟩ = some (.int .i64 k)) :
  Calls Tryz.prog 151 #[entV e, .pointer (some ⟨Bk, 0, none⟩)] W fun r W' => r = .returned (.bool (isPut k e)) ∧ Below W.heap.size W W' := by
 have d0 := fun o => cell_later ((Below.refl _ W).alloc (Nat.le_refl _) o) hk
 unfold entV
 by_cases h1 : e.kind = 1
 ·go_enter Tryz.func151, Tryz.ntmps151
  go_wp2
  go_ret
  exact ⟨by simp [isPut, h1] <;> rfl, (Below.refl _ _).alloc (Nat.le_refl _) _⟩
 ·have h1d : (e.kind == 1) = false := by simp [h1]
  go_enter Tryz.func151, Tryz.ntmps151
  go_wp2
  go_ret
  exact ⟨by simp [isPut, h1] <;> rfl, (Below.refl _ _).alloc (Nat.le_refl _) _⟩
theorem fitting_any (m : Nat) (v : Value) (gf : Nat) (gb : Array Value) (a : Option Addr) (n c : Nat) (hv : v = .slice a n c) (W : World) :
  CallsIn Fence.wide m Tryz.prog 143 #[v, .func (.func gf) #[] gb] W fun r W' => r = .returned (.func (.func 148) #[] #[.pointer (some ⟨W.heap.size, 0, none⟩), .pointer (some ⟨W.heap.size + 1, 0, none⟩)]) ∧ W' = (W.alloc (.cells #[v] 47)).alloc (.cells #[.func (.func gf) #[] gb] 108) := by
 subst hv
 refine callsIn_wide.2 ?_
 go_enter Tryz.func143, Tryz.ntmps143
 go_wp2
 go_ret
 exact ⟨rfl, rfl⟩
theorem box_more {w W : World} (hb : Below w.heap.size w W) (u : Value) (T : TypeId) : ∃ X, W.alloc (.cells #[u] T) = X ∧ Below w.heap.size w X ∧ X.heap.size = W.heap.size + 1 ∧ X.cell? ⟨W.heap.size, 0, none⟩ = some u ∧ X.frozen? ⟨W.heap.size, 0, none⟩ = false ∧
  (∀ (k : Nat) (v : Value), W.cell? ⟨k, 0, none⟩ = some v → X.cell? ⟨k, 0, none⟩ = some v) ∧ (∀ (k : Nat) (v : Value), W.cell? ⟨k, 0, none⟩ = some v → X.frozen? ⟨k, 0, none⟩ = W.frozen? ⟨k, 0, none⟩) ∧ Below W.heap.size W X := by
 obtain ⟨X, hX, hbX, hsX, q, f⟩ := boxed W #[u] T
 refine ⟨X, hX, hb.trans (hbX.mono hb.size), hsX, q 0, f 0, fun k v h => cell_later hbX h, fun k v h => ?_, hbX⟩
 have hk : k < W.heap.size := by
  rcases Nat.lt_or_ge k W.heap.size with h' | h'
  ·exact h'
  ·simp [World.cell?, Array.getElem?_eq_none h'] at h
 exact hbX.frozen (p := ⟨k, 0, none⟩) hk
set_option maxRecDepth 100000 in
set_option maxHeartbeats 4000000 in
theorem find_in (n : Nat) (hn : Hid (6 ≤ n)) (v : Value) (es : List Ent) (c s : Int) (w : World) (hl : es.length ≤ 1000) (hv : LogB w v es) :
  CallsIn Fence.wide n Tryz.prog 135 #[v, .int .i64 c, .int .i64 s] w fun e w' => e = .returned (.tuple #[.int .i64 (findAt es c s), .bool (es.any (isIt c s))]) ∧ Below w.heap.size w w' := by
 have hv1 := hv
 obtain ⟨a, cc, rfl⟩ := hv1.shape
 have Hh := hideA (fit_head (isIt c s) es)
 obtain ⟨N, hN⟩ : ∃ N, N = w.heap.size := ⟨_, rfl⟩
 refine callsIn_of_wp_marks Tryz.func135 rfl trivial ?_ rfl
 simp only [Tryz.ntmps135, List.size_toArray, List.length_cons, List.length_nil, Nat.reduceAdd, Nat.reduceSub, Array.replicate_succ, Array.replicate_zero, List.push_toArray, List.append_toArray, List.nil_append, List.cons_append]
 gi_wp2_with fail
 refine ⟨trivial, by simp [Fence.wide], (fitting_any _ _ _ _ a es.length cc rfl _).mono ?_⟩
 rintro e W ⟨rfl, rfl⟩
 obtain ⟨X1, hX1, hb1, hs1, c1, f1, -, -, -⟩ := box_more (Below.refl _ w) (.int .i64 c) 3
 rw [hX1]
 obtain ⟨X2, hX2, hb2, hs2, c2, f2, k2, fr2, -⟩ := box_more hb1 (.int .i64 s) 3
 rw [hX2]
 obtain ⟨X3, hX3, hb3, hs3, c3, f3, k3, fr3, -⟩ := box_more hb2 (.int .i64 0) 3
 rw [hX3]
 obtain ⟨X4, hX4, hb4, hs4, c4, f4, k4, fr4, -⟩ := box_more hb3 (.bool false) 4
 rw [hX4]
 obtain ⟨X5, hX5, hb5, hs5, c5, f5, k5, fr5, -⟩ := box_more hb4 (.slice a es.length cc) 47
 rw [hX5]
 obtain ⟨X, hX, hb, hs6, c6, f6, k6, fr6, -⟩ := box_more hb5 (.func (.func 142) #[] #[.pointer (some ⟨w.heap.size, 0, none⟩), .pointer (some ⟨w.heap.size + 1, 0, none⟩)]) 108
 rw [hX]
 clear hX hX1 hX2 hX3 hX4 hX5
 rw [hs5, hs4, hs3, hs2, hs1] at c6 f6
 rw [hs4, hs3, hs2, hs1] at c5
 rw [hs3, hs2, hs1] at c4 f4
 rw [hs2, hs1] at c3 f3
 rw [hs1] at c2
 have e1 := k6 _ _ (k5 _ _ (k4 _ _ (k3 _ _ (k2 _ _ c1))))
 have e2 := k6 _ _ (k5 _ _ (k4 _ _ (k3 _ _ c2)))
 have e3 := k6 _ _ (k5 _ _ (k4 _ _ c3))
 have g3 := (fr6 _ _ (k5 _ _ (k4 _ _ c3))).trans ((fr5 _ _ (k4 _ _ c3)).trans ((fr4 _ _ c3).trans f3))
 have e4 := k6 _ _ (k5 _ _ c4)
 have g4 := (fr6 _ _ (k5 _ _ c4)).trans ((fr5 _ _ c4).trans f4)
 have e5 := k6 _ _ c5
 have hsz : X.heap.size = w.heap.size + 6 := by omega
 have hX4s : X4.heap.size = w.heap.size + 1 + 1 + 1 + 1 := by omega
 rw [hX4s]
 have hvX := hideA (hv.below hb)
 clear k2 k3 k4 k5 k6 fr2 fr3 fr4 fr5 fr6 c1 c2 c3 c4 c5 f1 f2 f3 f4 f5 f6 hb1 hb2 hb3 hb4 hb5 hs1 hs2 hs3 hs4 hs5 hs6 hX4s hv hv1
 have hps : Hid (CellsOK ((⟨w.heap.size + 1 + 1 + 1 + 1 + 1, 0, none⟩, .func (.func 142) #[] #[.pointer (some ⟨w.heap.size, 0, none⟩), .pointer (some ⟨w.heap.size + 1, 0, none⟩)]) :: [(⟨w.heap.size, 0, none⟩, .int .i64 c), (⟨w.heap.size + 1, 0, none⟩, .int .i64 s)]) X) := hideA (by
  intro q hq
  simp only [List.mem_cons, List.not_mem_nil, or_false] at hq
  rcases hq with rfl | rfl | rfl
  ·exact c6
  ·exact e1
  ·exact e2)
 gi_wp2_with fail
 refine wpIn_rangeFunc_ownF rfl (by have := hn.out; omega) (gf := 148) (lb := #[.pointer (some ⟨w.heap.size + 1 + 1 + 1 + 1, 0, none⟩), .pointer (some ⟨w.heap.size + 1 + 1 + 1 + 1 + 1, 0, none⟩)]) rfl trivial (enters_of Tryz.func148 (by kernel_rfl) rfl)
  (fitting_stops (n - 1) (w.heap.size + 1 + 1 + 1 + 1) (w.heap.size + 1 + 1 + 1 + 1 + 1) (.slice a es.length cc) es 142 #[.pointer (some ⟨w.heap.size, 0, none⟩), .pointer (some ⟨w.heap.size + 1, 0, none⟩)] (isIt c s) [(⟨w.heap.size, 0, none⟩, .int .i64 c), (⟨w.heap.size + 1, 0, none⟩, .int .i64 s)] X hl (enters_of Tryz.func142 (by kernel_rfl) rfl)
   (fun W1 e h => callsIn_wide.2 (find1_any c s w.heap.size (w.heap.size + 1) e W1 (h _ List.mem_cons_self) (h _ (List.mem_cons_of_mem _ List.mem_cons_self)))) e5 hps.out hvX.out)
  KeepF.trans (fun W l o o' _ hl hc _ => keepF_put _ W l o o' hl hc) (Below.refl _ _) (fun _ => rfl)
  (fun pre W => (pre = [] ∧ W.cell? ⟨w.heap.size + 1 + 1, 0, none⟩ = some (.int .i64 0) ∧ W.frozen? ⟨w.heap.size + 1 + 1, 0, none⟩ = false ∧ W.cell? ⟨w.heap.size + 1 + 1 + 1, 0, none⟩ = some (.bool false) ∧ W.frozen? ⟨w.heap.size + 1 + 1 + 1, 0, none⟩ = false) ∧ Below w.heap.size w W)
  (fun c pre W => (c = .ret ∧ ∃ y : Nat × Ent, pre = [y] ∧ W.cell? ⟨w.heap.size + 1 + 1, 0, none⟩ = some (.int .i64 (y.1 : Int)) ∧ W.cell? ⟨w.heap.size + 1 + 1 + 1, 0, none⟩ = some (.bool true)) ∧ Below w.heap.size w W)
  (OwnFrom.and (Own.from (fun s A B row hs hg hr => ⟨hs.1, cell_kept hs.2.1 hg hr, (frozen_kept hs.2.1 hg hr).trans hs.2.2.1, cell_kept hs.2.2.2.1 hg hr, (frozen_kept hs.2.2.2.1 hg hr).trans hs.2.2.2.2⟩) _) (ownFrom_below (Nat.le_refl _) (by omega)))
  (fun c => OwnFrom.and (Own.from (fun s A B row hs hg hr => by obtain ⟨h1, y, h2, h3, h4⟩ := hs; exact ⟨h1, y, h2, cell_kept h3 hg hr, cell_kept h4 hg hr⟩) _) (ownFrom_below (Nat.le_refl _) (by omega)))
  ⟨⟨rfl, e3, g3, e4, g4⟩, hb⟩
  (fun x => { tmps := #[.slice a es.length cc, .int .i64 c, .int .i64 s, undef, .pointer (some ⟨w.heap.size, 0, none⟩), .pointer (some ⟨w.heap.size + 1, 0, none⟩), .pointer (some ⟨w.heap.size + 1 + 1, 0, none⟩), .pointer (some ⟨w.heap.size + 1 + 1 + 1, 0, none⟩),
   .func (.func 142) #[] #[.pointer (some ⟨w.heap.size, 0, none⟩), .pointer (some ⟨w.heap.size + 1, 0, none⟩)], .int .i64 (x.1 : Int), .func (.func 142) #[] #[.pointer (some ⟨w.heap.size, 0, none⟩), .pointer (some ⟨w.heap.size + 1, 0, none⟩)], .slice a es.length cc, .func (.func 142) #[] #[.pointer (some ⟨w.heap.size, 0, none⟩), .pointer (some ⟨w.heap.size + 1, 0, none⟩)],
   .func (.func 148) #[] #[.pointer (some ⟨w.heap.size + 1 + 1 + 1 + 1, 0, none⟩), .pointer (some ⟨w.heap.size + 1 + 1 + 1 + 1 + 1, 0, none⟩)], .int .i64 (x.1 : Int), entV x.2, undef], defers := [] }) ?assign ?body ?done ?stop
 case assign =>
  intro l x W K hK
  gi_wp2
  exact hK
 case body =>
  rintro l pre x W ⟨⟨rfl, hca, hfa, hcb, hfb⟩, hB⟩ _
  gi_wp2_with fail
  have h2 := two_set (.int .i64 (x.1 : Int)) (.bool true) (by omega) hca hcb
  exact ⟨(KeepsOthers.setCell _ _ _).trans (KeepsOthers.setCell _ _ _), ⟨rfl, x, rfl, h2.1, h2.2⟩, (hB.setCell (p := ⟨w.heap.size + 1 + 1, 0, none⟩) (by simp; omega) _).setCell (p := ⟨w.heap.size + 1 + 1 + 1, 0, none⟩) (by simp; omega) _⟩
 case done =>
  rintro D ys W hD hys ⟨⟨rfl, hca, hfa, hcb, hfb⟩, hB⟩ hK
  have hany : Hid (findAt es c s = 0 ∧ es.any (isIt c s) = false) := hideA (by
   have h := Hh.out
   rw [← hys] at h
   by_cases h2 : es.any (isIt c s) = true
   ·rw [if_pos h2] at h; cases h
   ·exact ⟨by unfold findAt; rw [if_neg h2], by simpa using h2⟩)
  gi_wp2
  have hK' := ((KeepsOthers.setCell W ⟨w.heap.size + 1 + 1, 0, none⟩ (.int .i64 0)).trans (KeepsOthers.setCell _ ⟨w.heap.size + 1 + 1 + 1, 0, none⟩ (.bool false))).same D _ hK rfl
  have h2 := two_set (.int .i64 0) (.bool false) (by omega) hca hcb
  refine ⟨by simp, .inl ⟨_, _, rfl, run_takeDeferred hK', ?_⟩⟩
  have hc5 := cell_kept h2.1 (grownBy_putObj' _ D (.deferred none)) (fun r e => by cases e; exact ⟨_, hK', rfl⟩)
  have hc6 := cell_kept h2.2 (grownBy_putObj' _ D (.deferred none)) (fun r e => by cases e; exact ⟨_, hK', rfl⟩)
  refine ⟨.tuple #[.int .i64 0, .bool false], ?_, by rw [hany.out.1, hany.out.2], ((hB.setCell (p := ⟨w.heap.size + 1 + 1, 0, none⟩) (by simp; omega) _).setCell (p := ⟨w.heap.size + 1 + 1 + 1, 0, none⟩) (by simp; omega) _).trans (belowK_b (w := w) (Nat.le_refl _) _ D _ _ (by omega) hK' rfl rfl)⟩
  simp [results, Tryz.f135, go_sem, hc5, hc6]
 case stop =>
  rintro D c' pre W hD hpre ⟨⟨rfl, y, rfl, hca, hcb⟩, hB⟩ hK
  have HL : Hid (findAt es c s = y.1 ∧ es.any (isIt c s) = true) := hideA (by
   have h := Hh.out
   obtain ⟨t, ht⟩ := hpre
   rw [← ht] at h
   by_cases h2 : es.any (isIt c s) = true
   ·rw [if_pos h2] at h
    injection h with h
    exact ⟨by unfold findAt; rw [if_pos h2, h], h2⟩
   ·rw [if_neg h2] at h; cases h)
  gi_wp2
  refine ⟨by simp, .inl ⟨_, _, rfl, run_takeDeferred hK, ?_⟩⟩
  have hc5 := cell_kept hca (grownBy_putObj' _ D (.deferred none)) (fun r e => by cases e; exact ⟨_, hK, rfl⟩)
  have hc6 := cell_kept hcb (grownBy_putObj' _ D (.deferred none)) (fun r e => by cases e; exact ⟨_, hK, rfl⟩)
  refine ⟨.tuple #[.int .i64 (y.1 : Int), .bool true], ?_, by rw [HL.out.1, HL.out.2], hB.trans (belowK_b (w := w) (Nat.le_refl _) W D _ _ (by omega) hK rfl rfl)⟩
  simp [results, Tryz.f135, go_sem, hc5, hc6]
end Go.Proofs.YtlminmokpmdgoabGreat
namespace Go.Proofs.YtlminmokpmdgoabGreat
open Go.RowKit Go.Shelf
attribute [local go_sem] Oper.semAt_some
def accOf (pre : List (Nat × Ent)) : Int := pre.foldl (fun _ y => y.2.value) (-1)
theorem acc_put (key : Int) (es : List Ent) (k : Nat) (hk : k ≤ es.length) : accOf (fitTo (isPut key) es k) = lastPut key (es.take k) := by
 induction k with
 | zero => rfl
 | succ k ih =>
  have hlt : k < es.length := by omega
  rw [fitTo_succ, take_snoc_ents es k hlt]
  have ih := ih (by omega)
  unfold accOf lastPut at *
  rw [List.foldl_append, List.foldl_append, ih]
  unfold isPut
  by_cases h : (es.getD k Ent.zero).kind = 1 ∧ (es.getD k Ent.zero).key = key
  ·rw [if_pos (by rw [decide_eq_true h.1, decide_eq_true h.2]; rfl)]
   show _ = if _ then _ else _
   rw [if_pos h]
   rfl
  ·rw [if_neg (by intro h2; apply h; simpa using h2)]
   show _ = if _ then _ else _
   rw [if_neg h]
   rfl
theorem keepF_set {ps : List (Addr × Value)} {W : World} {B : Nat} {cs : Array Value} {T : TypeId} (v : Value) (hB : W.heap[B]? = some (.cells cs T)) (hT : T ≠ 46) (hps : ∀ q ∈ ps, q.1.block ≠ B) : KeepF ps W (W.setCell ⟨B, 0, none⟩ v) := by
 refine ⟨fun k cs' T' fz hS hk => ?_, fun h q hq => ?_⟩
 ·have hne : k ≠ B := by
   intro e
   subst e
   rw [hB] at hk
   injection hk with hk
   injection hk with _ hk
   subst hk
   simp [entT] at hS
   exact hT hS
  rw [Below.heap_setCell _ _ _ k hne]
  exact hk
 ·rw [World.cell?_setCell_other _ _ _ _ (by intro e; exact hps q hq (by rw [← e]))]
  exact h q hq
set_option maxRecDepth 100000 in
set_option maxHeartbeats 4000000 in
theorem answer_in (n : Nat) (hn : Hid (6 ≤ n)) (g c : Nat) (es : List Ent) (P : Nat) (w : World) (hl : es.length ≤ 1000) (hP : P < es.length) (hcap : es.length ≤ c) (hv : RowIs w g es) :
  CallsIn Fence.wide n Tryz.prog 149 #[.slice (some ⟨g, 0, none⟩) es.length c, .int .i64 (P : Int)] w fun e w' => e = .returned (.int .i64 (answerAt es P)) ∧ Below w.heap.size w w' := by
 obtain ⟨cur, fz, hg, hc⟩ := hv
 obtain ⟨c0, c1, c2, c3, c4⟩ := hc P hP
 have Hv : Hid (RowIs w g es) := ⟨cur, fz, hg, hc⟩
 have HA : Hid (answerAt es P = accOf (fitList (isPut (es.getD P Ent.zero).key) (es.take P))) := hideA (by
  unfold answerAt fitList
  rw [acc_put _ _ _ (Nat.le_refl _), List.take_length])
 clear hc hg c0 c1 c2 c4
 generalize (es.getD P Ent.zero).key = key at *
 have hPc : P ≤ c := by omega
 have hPc' : (P : Int) ≤ (c : Int) := by omega
 refine callsIn_of_wp_marks Tryz.func149 rfl trivial ?_ rfl
 simp only [Tryz.ntmps149, List.size_toArray, List.length_cons, List.length_nil, Nat.reduceAdd, Nat.reduceSub, Array.replicate_succ, Array.replicate_zero, List.push_toArray, List.append_toArray, List.nil_append, List.cons_append]
 gi_wp2_with fail
 refine ⟨trivial, by simp [Fence.wide], (fitting_any _ _ _ _ (some ⟨g, 0, none⟩) P c rfl _).mono ?_⟩
 rintro e W ⟨rfl, rfl⟩
 obtain ⟨X1, hX1, hb1, hs1, c1, f1, -, -, -⟩ := box_more (Below.refl _ w) (.int .i64 key) 3
 rw [hX1]
 obtain ⟨X2, hX2, hb2, hs2, c2, f2, k2, fr2, -⟩ := box_more hb1 (.int .i64 (-1)) 3
 rw [hX2]
 obtain ⟨X5, hX5, hb5, hs5, c5, f5, k5, fr5, -⟩ := box_more hb2 (.slice (some ⟨g, 0, none⟩) P c) 47
 rw [hX5]
 obtain ⟨X, hX, hb, hs6, c6, f6, k6, fr6, -⟩ := box_more hb5 (.func (.func 151) #[] #[.pointer (some ⟨w.heap.size, 0, none⟩)]) 108
 rw [hX]
 have HX2 : X.heap[w.heap.size + 1]? = some (.cells #[.int .i64 (-1)] 3) := by
  rw [← hX, Below.heap_alloc _ _ _ (by omega), ← hX5, Below.heap_alloc _ _ _ (by omega), ← hX2, ← hs1]
  exact heap_new _ _
 clear hX hX1 hX2 hX5
 rw [hs5, hs2, hs1] at c6
 rw [hs2, hs1] at c5
 rw [hs1] at c2
 have e1 := k6 _ _ (k5 _ _ (k2 _ _ c1))
 have e5 := k6 _ _ c5
 have hsz : X.heap.size = w.heap.size + 4 := by omega
 have hX2s : X2.heap.size = w.heap.size + 1 + 1 := by omega
 rw [hX2s]
 have hvX : Hid (LogB X (.slice (some ⟨g, 0, none⟩) P c) (es.take P)) := hideA (.inr ⟨g, c, by rw [List.length_take, Nat.min_eq_left (by omega)], (Hv.out.keepS (KeepS.below hb)).take P⟩)
 clear k2 k5 k6 fr2 fr5 fr6 c1 c2 c5 f1 f2 f5 f6 hb1 hb2 hb5 hs1 hs2 hs5 hs6 hX2s
 have hps : Hid (CellsOK ((⟨w.heap.size + 1 + 1 + 1, 0, none⟩, .func (.func 151) #[] #[.pointer (some ⟨w.heap.size, 0, none⟩)]) :: [(⟨w.heap.size, 0, none⟩, .int .i64 key)]) X) := hideA (by
  intro q hq
  simp only [List.mem_cons, List.not_mem_nil, or_false] at hq
  rcases hq with rfl | rfl
  ·exact c6
  ·exact e1)
 gi_wp2_with fail
 refine wpIn_rangeFunc_ownH rfl (by have := hn.out; omega) (gf := 148) (lb := #[.pointer (some ⟨w.heap.size + 1 + 1, 0, none⟩), .pointer (some ⟨w.heap.size + 1 + 1 + 1, 0, none⟩)]) rfl trivial (enters_of Tryz.func148 (by kernel_rfl) rfl)
  (fitting_stops (n - 1) (w.heap.size + 1 + 1) (w.heap.size + 1 + 1 + 1) (.slice (some ⟨g, 0, none⟩) P c) (es.take P) 151 #[.pointer (some ⟨w.heap.size, 0, none⟩)] (isPut key) [(⟨w.heap.size, 0, none⟩, .int .i64 key)] X (by rw [List.length_take]; omega) (enters_of Tryz.func151 (by kernel_rfl) rfl)
   (fun W1 e h => callsIn_wide.2 (answer1_any key w.heap.size e W1 (h _ List.mem_cons_self))) e5 hps.out hvX.out)
  KeepF.trans (fun W l o o' _ hl hc _ => keepF_put _ W l o o' hl hc) (Below.refl _ _) (fun _ => rfl)
  (fun pre W => (Boxed W (w.heap.size + 1) 3 (.int .i64 (accOf pre))) ∧ Below w.heap.size w W)
  (fun _ _ _ => False)
  (OwnFrom.and (Own.from (boxed_own (w.heap.size + 1) 3 (fun pre => .int .i64 (accOf pre))) _) (ownFrom_below (Nat.le_refl _) (by omega)))
  (fun c => ownFrom_pure _ _)
  ⟨HX2, hb⟩
  (fun x a' W => ∃ b, W.cell? ⟨b, 4, none⟩ = some (.int .i64 x.2.value) ∧ a' = { tmps := #[.slice (some ⟨g, 0, none⟩) es.length c, .int .i64 (P : Int), undef, undef, .int .i64 0, .pointer (some ⟨w.heap.size, 0, none⟩), .func (.func 151) #[] #[.pointer (some ⟨w.heap.size, 0, none⟩)],
   .pointer (some ⟨w.heap.size + 1, 0, none⟩), undef, .pointer (some ⟨b, 0, none⟩), .slice (some ⟨g, 0, none⟩) es.length c, .int .i64 (P : Int), .pointer (some ⟨g, P * 5, none⟩), .pointer (some ⟨g, P * 5 + 3, none⟩), .int .i64 key, .func (.func 151) #[] #[.pointer (some ⟨w.heap.size, 0, none⟩)],
   .slice (some ⟨g, 0, none⟩) es.length c, .int .i64 (P : Int), .slice (some ⟨g, 0, none⟩) P c, .func (.func 151) #[] #[.pointer (some ⟨w.heap.size, 0, none⟩)],
   .func (.func 148) #[] #[.pointer (some ⟨w.heap.size + 1 + 1, 0, none⟩), .pointer (some ⟨w.heap.size + 1 + 1 + 1, 0, none⟩)], .int .i64 (x.1 : Int), entV x.2, undef, undef, undef], defers := [] })
  (fun x a' => Own.from (fun s A B row hs hg hr => by obtain ⟨b, h1, h2⟩ := hs; exact ⟨b, cell_kept h1 hg hr, h2⟩) _) ?assign ?body ?done ?stop
 case assign =>
  rintro l pre x W K ⟨hbx, hB⟩ hK
  unfold entV
  gi_wp2
  refine hK _ _ ((KeepsOthers.alloc _ _).from _) (KeepF.below ((Below.refl _ _).alloc (Nat.le_refl _) _)) ⟨?_, hB.alloc hB.size _⟩ ⟨W.heap.size, ?_, rfl⟩
  ·exact (Below.heap_alloc _ _ _ (by have := (Array.getElem?_eq_some_iff.1 (show W.heap[w.heap.size + 1]? = _ from hbx)).1; omega)).trans hbx
  ·rw [cell_of_heap (heap_new _ _)]; rfl
 case body =>
  rintro l pre x a' W hl2 - ⟨hbx, hB⟩ ⟨b, hcb, rfl⟩ _
  have hbh : W.heap[w.heap.size + 1]? = some (.cells #[.int .i64 (accOf pre)] 3) := hbx
  have hc7 : W.cell? ⟨w.heap.size + 1, 0, none⟩ = some (.int .i64 (accOf pre)) := cell_of_heap hbh 0
  have hf7 : W.frozen? ⟨w.heap.size + 1, 0, none⟩ = false := frozen_of_heap hbh 0
  have HB := hideA hbh
  clear hbh hbx
  gi_wp2
  refine ⟨(KeepsOthers.setCell _ _ _).from _, keepF_set _ HB.out (by decide) ?_, ?_, hB.setCell (p := ⟨w.heap.size + 1, 0, none⟩) (by simp) _⟩
  ·intro q hq
   simp only [List.mem_cons, List.not_mem_nil, or_false] at hq
   rcases hq with rfl | rfl
   ·show w.heap.size + 1 + 1 + 1 ≠ w.heap.size + 1; omega
   ·show w.heap.size ≠ w.heap.size + 1; omega
  ·show (W.setCell _ _).heap[w.heap.size + 1]? = _
   rw [heap_setCell_same W _ 0 _ _ _ HB.out, show accOf (pre ++ [x]) = x.2.value by simp [accOf]]
   rfl
 case done =>
  rintro D ys W hD rfl ⟨hbx, hB⟩ hK
  have hbh : W.heap[w.heap.size + 1]? = some (.cells #[.int .i64 (accOf (fitList (isPut key) (es.take P)))] 3) := hbx
  have hc7 : W.cell? ⟨w.heap.size + 1, 0, none⟩ = some (.int .i64 (accOf (fitList (isPut key) (es.take P)))) := cell_of_heap hbh 0
  clear hbh hbx
  gi_wp2
  refine ⟨by simp, .inl ⟨_, _, rfl, run_takeDeferred hK, ?_⟩⟩
  refine ⟨_, ?_, by rw [HA.out], hB.trans (belowK_b (w := w) (Nat.le_refl _) W D _ _ (by omega) hK rfl rfl)⟩
  simp [results, Tryz.f149, go_sem]
 case stop =>
  rintro D c' pre W hD hpre hF hK
  exact hF.elim
end Go.Proofs.YtlminmokpmdgoabGreat
