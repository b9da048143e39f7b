import Derived.Test.YtgieeeeeiggoeaaP20
namespace Go.Proofs.Ytgieeeeeiggoeaa
open Go.RowKit Go.Shelf
theorem ballots_both {w : World} {F : Nat → Prop} {x : Nat} {c : Clu} {E : Int} {g : Gh} (d : Int) (h : CAt w F x c) (hg : Good c E g) (hi : -9223372036854775808 ≤ d ∧ d ≤ 9223372036854775807) :
  ∃ (up : Bool) (ep : Int) (l : List Int) (code : Int), l.length ≤ 1000 ∧
   (Calls Try.prog 74 #[.pointer (some ⟨x, 0, none⟩), .int .i64 d] w fun r w' => ∃ a c', r = .returned (.tuple #[.agg #[.bool up, .int .i64 ep, .slice a l.length c'], .int .i64 code]) ∧ w'.ownsRow w.heap.size 3 1 (.slice a l.length c') l.length (ints l) ∧ Below w.heap.size w w') ∧
   ∀ (W : World) (FY : Nat → Prop) (y : Nat), RefAt W FY y c → Calls Try.prog 75 #[.pointer (some ⟨y, 0, none⟩), .int .i64 d] W fun r w' => ∃ a c', r = .returned (.tuple #[.agg #[.bool up, .int .i64 ep, .slice a l.length c'], .int .i64 code]) ∧ IntsAt w' (.slice a l.length c') l ∧ Below W.heap.size W w' := by
 by_cases hd : isAcc d
 ·refine ⟨(c.acc d).up, (c.acc d).epoch, (c.acc d).mems, 0, ?_, ?_, fun W FY y hY => ?_⟩
  ·have h1 := memsOk_length (hg.nodes.A d hd).mems
   have h2 := hg.nodes.n5
   omega
  ·refine (cluBallots_any d h hg hd).mono ?_
   rintro e w' ⟨vm, rfl, h1, h2⟩
   obtain ⟨a, c', rfl⟩ := owns_shape h1
   exact ⟨a, c', rfl, h1, h2⟩
  ·refine (refBallots_any d hY hg.nodes.n5 hd).mono ?_
   rintro e w' ⟨vm, rfl, h1, h2⟩
   obtain ⟨a, c', rfl⟩ := owns_shape h1
   exact ⟨a, c', rfl, (IntsAt.of_owns h1).below h2, h2⟩
 ·refine ⟨false, 0, [], 4, by simp, ?_, fun W FY y hY => ?_⟩
  ·refine (cluBallots_no d h hd hi).mono ?_
   rintro e w' ⟨rfl, h2⟩
   exact ⟨none, 0, rfl, World.ownsRow_nil _ _ _ _, h2⟩
  ·refine (refBallots_no d hY hg.nodes.n5 hd hi).mono ?_
   rintro e w' ⟨rfl, h2⟩
   exact ⟨none, 0, rfl, ⟨none, 0, rfl, fun i hi => absurd hi (Nat.not_lt_zero _)⟩, h2⟩
theorem status_both {w : World} {F : Nat → Prop} {x : Nat} {c : Clu} {E : Int} {g : Gh} (d : Int) (h : CAt w F x c) (hg : Good c E g) (hi : -9223372036854775808 ≤ d ∧ d ≤ 9223372036854775807) :
  ∃ (up : Bool) (ep sl cm : Int) (l : List Int) (es : List Ent) (code : Int), l.length ≤ 1000 ∧ es.length ≤ 1000 ∧
   (Calls Try.prog 72 #[.pointer (some ⟨x, 0, none⟩), .int .i64 d] w fun r w' => ∃ a c' a2 c2, r = .returned (.tuple #[.agg #[.bool up, .int .i64 ep, .int .i64 sl, .int .i64 cm, .slice a l.length c', .slice a2 es.length c2], .int .i64 code]) ∧ w'.ownsRow w.heap.size 3 1 (.slice a l.length c') l.length (ints l) ∧ w'.ownsRow w.heap.size 59 5 (.slice a2 es.length c2) es.length (ints (entsNums es)) ∧ Below w.heap.size w w') ∧
   ∀ (W : World) (FY : Nat → Prop) (y : Nat), RefAt W FY y c → Calls Try.prog 73 #[.pointer (some ⟨y, 0, none⟩), .int .i64 d] W fun r w' => ∃ a c' a2 c2, r = .returned (.tuple #[.agg #[.bool up, .int .i64 ep, .int .i64 sl, .int .i64 cm, .slice a l.length c', .slice a2 es.length c2], .int .i64 code]) ∧ IntsAt w' (.slice a l.length c') l ∧ LogAt w' (.slice a2 es.length c2) es ∧ Below W.heap.size W w' := by
 by_cases hd : c.isRep d
 ·have hwf := hg.nodes.R d hd
  have h5 := hg.nodes.n5
  refine ⟨(c.rep d).up, (c.rep d).epoch, (c.rep d).lock, ((c.rep d).commit : Int), (c.rep d).mems, (c.rep d).log, 0, ?_, ?_, ?_, fun W FY y hY => ?_⟩
  ·have h1 := memsOk_length hwf.mems
   omega
  ·have := hwf.log.1
   omega
  ·refine (cluStatus_any d h hg hd).mono ?_
   rintro e w' ⟨vm, vl, rfl, h1, h2, h3⟩
   obtain ⟨a, c', rfl⟩ := owns_shape h1
   obtain ⟨a2, c2, rfl⟩ := owns_shape h2
   exact ⟨a, c', a2, c2, rfl, h1, h2, h3⟩
  ·refine (refStatus_any d hY hg.nodes.n5 hd).mono ?_
   rintro e w' ⟨vm, vl, rfl, h1, h2, h3⟩
   obtain ⟨a, c', rfl⟩ := owns_shape h1
   obtain ⟨a2, c2, rfl⟩ := owns_shape h2
   exact ⟨a, c', a2, c2, rfl, (IntsAt.of_owns h1).below h3, (LogAt.of_owns h2).below h3, h3⟩
 ·refine ⟨false, 0, 0, 0, [], [], 4, by simp, by simp, ?_, fun W FY y hY => ?_⟩
  ·refine (cluStatus_no d h hd hi).mono ?_
   rintro e w' ⟨rfl, h2⟩
   exact ⟨none, 0, none, 0, rfl, World.ownsRow_nil _ _ _ _, World.ownsRow_nil _ _ _ _, h2⟩
  ·refine (refStatus_no d hY hg.nodes.n5 hd hi).mono ?_
   rintro e w' ⟨rfl, h2⟩
   exact ⟨none, 0, none, 0, rfl, ⟨none, 0, rfl, fun i hi => absurd hi (Nat.not_lt_zero _)⟩, ⟨none, 0, rfl, fun i hi => absurd hi (Nat.not_lt_zero _)⟩, h2⟩
set_option maxRecDepth 100000 in
set_option maxHeartbeats 4000000 in
theorem lawBallots_any {w0 w : World} {B : Nat} {x5 : Value} {M : Nat} {ps : List Pr} {p : Pr} {E : Int} {g : Gh} (d : Int) (h : LawAt w0 w B x5 M ps) (hp : p ∈ ps) (hg : Good p.c E g) (hM : M ≤ 1000000000) (hi : -9223372036854775808 ≤ d ∧ d ≤ 9223372036854775807) :
  Calls Try.prog 48 #[.pointer (some ⟨B, 0, none⟩), .pointer (some ⟨p.q, 0, none⟩), .int .i64 d] w fun e w' => e = .returned (.bool true) ∧ LawAt w0 w' B x5 (M + 4) ps := by
 obtain ⟨b, vC, vI, vL, vT, vA, h⟩ := h
 obtain ⟨FX, FY, hq, hX, hY, hF, hXY, hlt⟩ := h.prs p hp
 have q0 : w.cell? ⟨p.q, 0, none⟩ = some (.pointer (some ⟨p.x, 0, none⟩)) := cell_of_heap hq 0
 have q1 : w.cell? ⟨p.q, 1, none⟩ = some (.pointer (some ⟨p.y, 0, none⟩)) := cell_of_heap hq 1
 obtain ⟨up, ep, l, code, hl, hc1, hc2⟩ := ballots_both d hX hg hi
 have HB := hideA hc1
 have HR := hideA hc2
 have HY := hideA hY
 have HL := hideA h
 have Hlt : Hid (∀ p ∈ ps, ∀ k, p.F k → k < w.heap.size) := hideA fun p hp k hk => by obtain ⟨_, _, _, _, _, _, _, h6⟩ := h.prs p hp; exact h6 k hk
 clear hq hX hY hF hXY hlt h hg hc1 hc2
 go_enter Try.func48, Try.ntmps48
 go_wp2_with fail
 refine HB.out.mono ?_
 rintro e W1 ⟨av, cv, rfl, hv, hb1⟩
 obtain ⟨X1, hX1, hbX1, hM1⟩ := box_more1 W1 #[.bool up, .int .i64 ep, .slice av l.length cv] 140
 have hb1X := hb1.trans (hbX1.mono hb1.size)
 have q1' := cell_later hb1X q1
 have HV := hideA (owns_kept hv fun k _ hk => hbX1.block k hk)
 have HR2 := hideA (HR.out X1 FY p.y (HY.out.keep fun k hk => hb1X.block k (by obtain ⟨_, _, _, _, _, _, _, h6⟩ := HY.out; exact h6.lt k hk)))
 have HM1 := hideA hM1
 have hX1s : W1.heap.size < X1.heap.size := (Array.getElem?_eq_some_iff.1 hM1).1
 clear hv q0 q1 hM1
 go_wp2_with fail
 refine HR2.out.mono ?_
 rintro e W2 ⟨a2, c2, rfl, hv2, hb2⟩
 obtain ⟨X2, hX2, hbX2, hM2⟩ := box_more1 W2 #[.bool up, .int .i64 ep, .slice a2 l.length c2] 140
 have hbb := hb2.trans (hbX2.mono hb2.size)
 have hb2X := hb1X.trans (hbb.mono hb1X.size)
 have hM1' := (hbb.block _ hX1s).trans HM1.out
 have hs2 := hb2.size
 have hne1 : ¬ W1.heap.size = W2.heap.size := by omega
 have hne2 : ¬ W2.heap.size = W1.heap.size := by omega
 have b0 := cell_of_heap hM1' 0
 have b1 := cell_of_heap hM1' 1
 have b2 := cell_of_heap hM1' 2
 have d0 := cell_of_heap hM2 0
 have d1 := cell_of_heap hM2 1
 have d2 := cell_of_heap hM2 2
 have hvX2 := owns_kept HV.out fun k _ hk => hbb.block k hk
 have HS := hideA (cordonlaw_sameInts (.slice av l.length cv) (.slice a2 l.length c2) l X2 (IntsAt.of_owns hvX2) (hv2.below hbX2) (by omega))
 have HV2 := hideA hvX2
 have HMM := hideA (And.intro hM1' hM2)
 clear hv2 hvX2 q1' hM1' hM2
 go_wp2_with fail
 refine HS.out.mono ?_
 rintro e W3 ⟨rfl, q9, rfl⟩
 have hb3 : Below w.heap.size w (X2.drewN q9) := below_drewN hb2X q9
 have hBl : B + 1 ≤ w.heap.size := HL.out.book.bs
 have HK : Hid (∀ W, W = (X2.drewN q9).drew → Calls Try.prog 17 #[.pointer (some ⟨B, 1, none⟩), .slice av l.length cv] W fun e w' => e = .returned (.tuple #[]) ∧ LawAt w0 w' B x5 (M + 4) ps ∧ w'.heap[W1.heap.size]? = some (.cells #[.bool up, .int .i64 ep, .slice av l.length cv] 140) ∧ w'.heap[W2.heap.size]? = some (.cells #[.bool up, .int .i64 ep, .slice a2 l.length c2] 140)) := hideA fun W hW => by
  subst hW
  have hL3 := HL.out.below hb3.drew
  have hv3 : (X2.drewN q9).drew.ownsRow w.heap.size 3 1 (.slice av l.length cv) l.length (ints l) := HV2.out
  refine (hL3.book.keepInts _ l hv3 hBl (by have := hb3.size; exact this) (fun k hk ho => by
   have h1 := (hv3.lt k hk).1
   have h2 := Bk.lt HL.out.book ho
   omega) (by have := hL3.small.1; omega) (by omega)).mono ?_
  rintro e W4 ⟨rfl, u', l4, hl4, hbook, hMv, hown⟩
  have hbx : ∀ {k : Nat} {cs : Array Value}, (X2.drewN q9).drew.heap[k]? = some (.cells cs 140) → W4.heap[k]? = some (.cells cs 140) := fun {k cs} e => by
   refine (hMv.block k (Array.getElem?_eq_some_iff.1 e).1 fun hS => ?_).trans e
   rcases hS with q | q | q
   ·rw [q, hL3.book.blk] at e
    injection e with e
    injection e with e1 e2
    exact absurd e2 (by decide)
   ·exact blk_type e hv3 (by decide) q
   ·exact blk_type e hL3.book.rI (by decide) q
  refine ⟨rfl, ?_, hbx HMM.out.1, hbx HMM.out.2⟩
  obtain ⟨s1, s2, s3, s4⟩ := hL3.small
  refine ⟨_, vC, u', vL, vT, vA, hL3.turned hbook hMv hL3.book.rI (fun k e => .inl e) (by decide) hv3 (by decide) Hlt.out hBl hown ⟨?_, ?_, ?_, ?_⟩⟩
  ·show (b.lI ++ l4).length ≤ M + 4
   rw [List.length_append]; omega
  ·show b.lL.length ≤ M + 4; omega
  ·show b.lT.length ≤ M + 4; omega
  ·show b.lA.length ≤ M + 4; omega
 go_wp2_with fail
 go_region_held3 (fun w' => w'.cell? ⟨W1.heap.size, 2, none⟩ = some (.slice av l.length cv)) (first | assumption | (simp [go_sem, *]; done))
  (first | (go_at_call 17; refine (HK.out _ rfl).mono ?_; rintro e W4 ⟨rfl, hfin, hm1, hm2⟩; have HF := hideA hfin; have z0 := cell_of_heap hm1 0; have z1 := cell_of_heap hm1 1; have z2 := cell_of_heap hm1 2; have u0 := cell_of_heap hm2 0; have u1 := cell_of_heap hm2 1; clear hm1 hm2 hfin))
 all_goals (
  clear b0 b1 b2 d0 d1 d2
  go_wp2_with fail
  go_ret
  exact ⟨rfl, HF.out⟩)
end Go.Proofs.Ytgieeeeeiggoeaa
