import Derived.Test.YtgieeeeeiggoeaaP21
namespace Go.Proofs.Ytgieeeeeiggoeaa
open Go.RowKit Go.Shelf
theorem fresh_log {w w' : World} {B base : Nat} {x0 x5 : Value} {b : Bk} {vI vL vT vA vI' u : Value} {l4 : List (Value × Nat)} {n : Nat} {xs : List Value} (h : BookIn w B base x0 x5 b vI vL vT vA) (h' : BookIn w' B base x0 x5 { b with lI := b.lI ++ l4 } vI' vL vT vA) (hu : w'.ownsRow w.heap.size 59 5 u n xs) :
  ∀ k, u.ownBlock = some k → ¬ ({ b with lI := b.lI ++ l4 } : Bk).own vI' vL vT vA k := by
 intro k hk ho
 rcases ho with q | q | q | q | ⟨p, hp, q⟩ | ⟨p, hp, q⟩ | ⟨p, hp, q⟩ | ⟨p, hp, q⟩
 ·exact owns_two hu h'.rI (by decide) k hk q
 ·exact owns_two hu h'.rL (by decide) k hk q
 ·exact owns_two hu h'.rT (by decide) k hk q
 ·exact owns_two hu h'.rA (by decide) k hk q
 ·obtain ⟨i, hi, rfl⟩ := List.getElem_of_mem hp
  exact owns_two hu (h'.eI i _ (List.getElem?_eq_getElem hi)).2 (by decide) k hk q
 ·have h1 := (hu.lt k hk).1
  have h2 : k < w.heap.size := Bk.lt h (.inr (.inr (.inr (.inr (.inr (.inl ⟨p, hp, q⟩))))))
  omega
 ·obtain ⟨i, hi, rfl⟩ := List.getElem_of_mem hp
  exact owns_two hu (h'.eT i _ (List.getElem?_eq_getElem hi)).2 (by decide) k hk q
 ·obtain ⟨i, hi, rfl⟩ := List.getElem_of_mem hp
  exact owns_two hu (h'.eA i _ (List.getElem?_eq_getElem hi)).2 (by decide) k hk q
set_option maxRecDepth 100000 in
set_option maxHeartbeats 8000000 in
theorem lawStatus_any {w0 w : World} {B : Nat} {x5 : Value} {M : Nat} {ps : List Pr} {p : Pr} {E : Int} {g : Gh} (d : Int) (h : LawAt w0 w B x5 M ps) (hp : p ∈ ps) (hg : Good p.c E g) (hM : M ≤ 999999990) (hi : -9223372036854775808 ≤ d ∧ d ≤ 9223372036854775807) :
  Calls Try.prog 47 #[.pointer (some ⟨B, 0, none⟩), .pointer (some ⟨p.q, 0, none⟩), .int .i64 d] w fun e w' => e = .returned (.bool true) ∧ LawAt w0 w' B x5 (M + 8) ps := by
 obtain ⟨b, vC, vI, vL, vT, vA, h⟩ := h
 obtain ⟨FX, FY, hq, hX, hY, hF, hXY, hlt⟩ := h.prs p hp
 have q0 : w.cell? ⟨p.q, 0, none⟩ = some (.pointer (some ⟨p.x, 0, none⟩)) := cell_of_heap hq 0
 have q1 : w.cell? ⟨p.q, 1, none⟩ = some (.pointer (some ⟨p.y, 0, none⟩)) := cell_of_heap hq 1
 obtain ⟨up, ep, sl, cm, l, es, code, hl, hes, hc1, hc2⟩ := status_both d hX hg hi
 have HB := hideA hc1
 have HR := hideA hc2
 have HY := hideA hY
 have HL := hideA h
 have Hlt : Hid (∀ p ∈ ps, ∀ k, p.F k → k < w.heap.size) := hideA fun p hp k hk => by obtain ⟨_, _, _, _, _, _, _, h6⟩ := h.prs p hp; exact h6 k hk
 clear hq hX hY hF hXY hlt h hg hc1 hc2
 go_enter Try.func47, Try.ntmps47
 go_wp2_with fail
 refine HB.out.mono ?_
 rintro e W1 ⟨av, cv, al, cl, rfl, hv, hvl, hb1⟩
 obtain ⟨X1, hX1, hbX1, hM1⟩ := box_more1 W1 #[.bool up, .int .i64 ep, .int .i64 sl, .int .i64 cm, .slice av l.length cv, .slice al es.length cl] 136
 have hb1X := hb1.trans (hbX1.mono hb1.size)
 have q1' := cell_later hb1X q1
 have HV := hideA (And.intro (owns_kept hv fun k _ hk => hbX1.block k hk) (owns_kept hvl fun k _ hk => hbX1.block k hk))
 have HR2 := hideA (HR.out X1 FY p.y (HY.out.keep fun k hk => hb1X.block k (by obtain ⟨_, _, _, _, _, _, _, h6⟩ := HY.out; exact h6.lt k hk)))
 have HM1 := hideA hM1
 have hX1s : W1.heap.size < X1.heap.size := (Array.getElem?_eq_some_iff.1 hM1).1
 clear hv hvl q0 q1 hM1
 go_wp2_with fail
 refine HR2.out.mono ?_
 rintro e W2 ⟨a2, c2, a3, c3, rfl, hv2, hv3, hb2⟩
 obtain ⟨X2, hX2, hbX2, hM2⟩ := box_more1 W2 #[.bool up, .int .i64 ep, .int .i64 sl, .int .i64 cm, .slice a2 l.length c2, .slice a3 es.length c3] 136
 have hbb := hb2.trans (hbX2.mono hb2.size)
 have hb2X := hb1X.trans (hbb.mono hb1X.size)
 have hM1' := (hbb.block _ hX1s).trans HM1.out
 have hs2 := hb2.size
 have hne1 : ¬ W1.heap.size = W2.heap.size := by omega
 have hne2 : ¬ W2.heap.size = W1.heap.size := by omega
 have b4 := cell_of_heap hM1' 4
 have b5 := cell_of_heap hM1' 5
 have d4 := cell_of_heap hM2 4
 have d5 := cell_of_heap hM2 5
 have hvX2 := owns_kept HV.out.1 fun k _ hk => hbb.block k hk
 have hvL2 := owns_kept HV.out.2 fun k _ hk => hbb.block k hk
 have HS := hideA (cordonlaw_sameInts (.slice av l.length cv) (.slice a2 l.length c2) l X2 (IntsAt.of_owns hvX2) (hv2.below hbX2) (by omega))
 have HS2 : Hid (∀ q, Calls Try.prog 33 #[.slice al es.length cl, .slice a3 es.length c3] (X2.drewN q) fun e w' => e = .returned (.bool true) ∧ ∃ q', w' = (X2.drewN q).drewN q') := hideA fun q => cordonlaw_sameLogs _ _ es _ ((LogAt.of_owns hvL2).below (below_drewN (Below.refl _ _) q)) ((hv3.below hbX2).below (below_drewN (Below.refl _ _) q)) (by omega)
 have HV2 := hideA (And.intro hvX2 hvL2)
 have HMM := hideA (And.intro hM1' hM2)
 clear hv2 hv3 hvX2 hvL2 q1' hM1' hM2
 go_wp2_with fail
 refine HS.out.mono ?_
 rintro e W3 ⟨rfl, q8, rfl⟩
 go_wp2_with fail
 refine (HS2.out q8).mono ?_
 rintro e W3 ⟨rfl, q9, rfl⟩
 have hb3 : Below w.heap.size w ((X2.drewN q8).drewN q9) := below_drewN (below_drewN hb2X q8) q9
 have hBl : B + 1 ≤ w.heap.size := HL.out.book.bs
 have hV9 : ((X2.drewN q8).drewN q9).ownsRow w.heap.size 3 1 (.slice av l.length cv) l.length (ints l) ∧ ((X2.drewN q8).drewN q9).ownsRow w.heap.size 59 5 (.slice al es.length cl) es.length (ints (entsNums es)) := HV2.out
 have hM9 : ((X2.drewN q8).drewN q9).heap[W1.heap.size]? = some (.cells #[.bool up, .int .i64 ep, .int .i64 sl, .int .i64 cm, .slice av l.length cv, .slice al es.length cl] 136) ∧ ((X2.drewN q8).drewN q9).heap[W2.heap.size]? = some (.cells #[.bool up, .int .i64 ep, .int .i64 sl, .int .i64 cm, .slice a2 l.length c2, .slice a3 es.length c3] 136) := HMM.out
 have e4 : ((X2.drewN q8).drewN q9).cell? ⟨W1.heap.size, 4, none⟩ = some (.slice av l.length cv) := cell_of_heap hM9.1 4
 generalize (X2.drewN q8).drewN q9 = Y at *
 have HK : Hid (∀ W, W = Y.drew → Calls Try.prog 17 #[.pointer (some ⟨B, 1, none⟩), .slice av l.length cv] W fun e w' => e = .returned (.tuple #[]) ∧ (∃ l4 u', LawIn w0 w' B x5 (M + 4) { b with lI := b.lI ++ l4 } ps vC u' vL vT vA) ∧ w'.ownsRow w.heap.size 59 5 (.slice al es.length cl) es.length (ints (entsNums es)) ∧ w'.heap[W1.heap.size]? = some (.cells #[.bool up, .int .i64 ep, .int .i64 sl, .int .i64 cm, .slice av l.length cv, .slice al es.length cl] 136) ∧ w'.heap[W2.heap.size]? = some (.cells #[.bool up, .int .i64 ep, .int .i64 sl, .int .i64 cm, .slice a2 l.length c2, .slice a3 es.length c3] 136) ∧ w.heap.size ≤ w'.heap.size) := hideA fun W hW => by
  subst hW
  have hL3 := HL.out.below hb3.drew
  have hvi : Y.drew.ownsRow w.heap.size 3 1 (.slice av l.length cv) l.length (ints l) := hV9.1
  have hvl : Y.drew.ownsRow w.heap.size 59 5 (.slice al es.length cl) es.length (ints (entsNums es)) := hV9.2
  refine (hL3.book.keepInts _ l hvi hBl (by have := hb3.size; exact this) (fun k hk ho => by
   have h1 := (hvi.lt k hk).1
   have h2 := Bk.lt HL.out.book ho
   omega) (by have := hL3.small.1; omega) (by omega)).mono ?_
  rintro e W4 ⟨rfl, u', l4, hl4, hbook, hMv, hown⟩
  have hbx : ∀ {k : Nat} {cs : Array Value}, Y.drew.heap[k]? = some (.cells cs 136) → W4.heap[k]? = some (.cells cs 136) := fun {k cs} e => by
   refine (hMv.block k (Array.getElem?_eq_some_iff.1 e).1 fun hS => ?_).trans e
   rcases hS with q | q | q
   ·rw [q, hL3.book.blk] at e
    injection e with e
    injection e with e1 e2
    exact absurd e2 (by decide)
   ·exact blk_type e hvi (by decide) q
   ·exact blk_type e hL3.book.rI (by decide) q
  refine ⟨rfl, ⟨l4, u', ?_⟩, hMv.owns hvl (fun k hk hS => ?_), hbx hM9.1, hbx hM9.2, ?_⟩
  ·obtain ⟨s1, s2, s3, s4⟩ := hL3.small
   refine hL3.turned hbook hMv hL3.book.rI (fun k e => .inl e) (by decide) hvi (by decide) Hlt.out hBl hown ⟨?_, ?_, ?_, ?_⟩
   ·show (b.lI ++ l4).length ≤ M + 4
    rw [List.length_append]; omega
   ·show b.lL.length ≤ M + 4; omega
   ·show b.lT.length ≤ M + 4; omega
   ·show b.lA.length ≤ M + 4; omega
  ·rcases hS with q | q | q
   ·exact blk_type hL3.book.blk hvl (by decide) (q ▸ hk)
   ·exact owns_two hvl hvi (by decide) k hk q
   ·exact owns_two hvl hL3.book.rI (by decide) k hk q
  ·have h1 := hMv.size
   have h2 := hb3.size
   exact Nat.le_trans h2 h1
 clear b4 b5 d4 d5
 go_wp2_with fail
 go_region_held3 (fun w' => w'.cell? ⟨W1.heap.size, 4, none⟩ = some (.slice av l.length cv)) (first | assumption | (simp [go_sem, *]; done))
  (first | (go_at_call 17; refine (HK.out _ rfl).mono ?_; rintro e W4 ⟨rfl, hfin, hlog, hm1, hm2, hsz⟩; have HF := hideA (And.intro hfin (And.intro hlog (And.intro hm1 (And.intro hm2 hsz)))); have z4 := cell_of_heap hm1 4; have z5 := cell_of_heap hm1 5; clear hm1 hm2 hfin hlog hsz))
 all_goals (
  clear e4 HK
  have HK2 : Hid (∀ W, W = W4.drew → Calls Try.prog 18 #[.pointer (some ⟨B, 1, none⟩), .slice al es.length cl] W fun e w' => e = .returned (.tuple #[]) ∧ LawAt w0 w' B x5 (M + 8) ps ∧ w'.heap[W1.heap.size]? = some (.cells #[.bool up, .int .i64 ep, .int .i64 sl, .int .i64 cm, .slice av l.length cv, .slice al es.length cl] 136) ∧ w'.heap[W2.heap.size]? = some (.cells #[.bool up, .int .i64 ep, .int .i64 sl, .int .i64 cm, .slice a2 l.length c2, .slice a3 es.length c3] 136)) := hideA fun W hW => by
   subst hW
   obtain ⟨⟨l4, u', hL4⟩, hlog, hm1, hm2, hsz⟩ := HF.out
   have hL5 := hL4.below (Below.refl _ _).drew
   have hvl : W4.drew.ownsRow w.heap.size 59 5 (.slice al es.length cl) es.length (ints (entsNums es)) := hlog
   refine (hL5.book.keepLog _ es hvl hBl hsz (fresh_log HL.out.book hL5.book hvl) (by have := hL5.small.2.1; show b.lL.length ≤ _; have h9 : b.lL.length ≤ M + 4 := this; omega) (by omega)).mono ?_
   rintro e W6 ⟨rfl, v', m4, hm4, hbook, hMv, hown⟩
   have hbx : ∀ {k : Nat} {cs : Array Value}, W4.drew.heap[k]? = some (.cells cs 136) → W6.heap[k]? = some (.cells cs 136) := fun {k cs} e => by
    refine (hMv.block k (Array.getElem?_eq_some_iff.1 e).1 fun hS => ?_).trans e
    rcases hS with q | q | q
    ·rw [q, hL5.book.blk] at e
     injection e with e
     injection e with e1 e2
     exact absurd e2 (by decide)
    ·exact blk_type e hvl (by decide) q
    ·exact blk_type e hL5.book.rL (by decide) q
   refine ⟨rfl, ?_, hbx hm1, hbx hm2⟩
   obtain ⟨s1, s2, s3, s4⟩ := hL5.small
   have s1' : (b.lI ++ l4).length ≤ M + 4 := s1
   have s2' : b.lL.length ≤ M + 4 := s2
   have s3' : b.lT.length ≤ M + 4 := s3
   have s4' : b.lA.length ≤ M + 4 := s4
   refine ⟨_, vC, u', v', vT, vA, hL5.turned hbook hMv hL5.book.rL (fun k e => .inr (.inl e)) (by decide) hvl (by decide) Hlt.out hBl hown ⟨?_, ?_, ?_, ?_⟩⟩
   ·show (b.lI ++ l4).length ≤ M + 4 + 4; omega
   ·show (b.lL ++ m4).length ≤ M + 4 + 4
    rw [List.length_append]; omega
   ·show b.lT.length ≤ M + 4 + 4; omega
   ·show b.lA.length ≤ M + 4 + 4; omega
  go_wp2_with fail
  go_region_held3 (fun w' => w'.cell? ⟨W1.heap.size, 5, none⟩ = some (.slice al es.length cl)) (first | assumption | (simp [go_sem, *]; done))
   (first | (go_at_call 18; refine (HK2.out _ rfl).mono ?_; rintro e W6 ⟨rfl, hfin, hm1, hm2⟩; have HF2 := hideA hfin; have y0 := cell_of_heap hm1 0; have y1 := cell_of_heap hm1 1; have y2 := cell_of_heap hm1 2; have y3 := cell_of_heap hm1 3; have y5 := cell_of_heap hm1 5; have u0 := cell_of_heap hm2 0; have u1 := cell_of_heap hm2 1; have u2 := cell_of_heap hm2 2; have u3 := cell_of_heap hm2 3; clear hm1 hm2 hfin))
  all_goals (
   clear z4 z5
   go_wp2_with fail
   go_ret
   exact ⟨rfl, HF2.out⟩))
end Go.Proofs.Ytgieeeeeiggoeaa
