import Derived.Test.YtgieeeeeiggoeaaP22
import Derived.Test.YtgieeeeeiggoeaaP29
namespace Go.Proofs.Ytgieeeeeiggoeaa
open Go.RowKit Go.Shelf
theorem LawAt.less {w0 w : World} {B : Nat} {x5 : Value} {M M' : Nat} {ps : List Pr} (h : LawAt w0 w B x5 M ps) (hM : M ≤ M') : LawAt w0 w B x5 M' ps := by
 obtain ⟨b, vC, vI, vL, vT, vA, h⟩ := h
 obtain ⟨s1, s2, s3, s4⟩ := h.small
 exact ⟨b, vC, vI, vL, vT, vA, { h with small := ⟨by omega, by omega, by omega, by omega⟩ }⟩
theorem LawAt.cells {w0 w : World} {B : Nat} {x5 : Value} {M : Nat} {ps : List Pr} {p : Pr} (h : LawAt w0 w B x5 M ps) (hp : p ∈ ps) : ∃ a c, w.cell? ⟨p.q, 1, none⟩ = some (.pointer (some ⟨p.y, 0, none⟩)) ∧ w.cell? ⟨p.y, 0, none⟩ = some (.slice a p.c.reps.length c) := by
 obtain ⟨b, vC, vI, vL, vT, vA, h⟩ := h
 obtain ⟨FX, FY, hq, hX, ⟨br, ba, vr, va, vm, vb, vt, hY⟩, -, -, -⟩ := h.prs p hp
 obtain ⟨a, c, hv⟩ := owns_shape hY.rr
 subst hv
 exact ⟨a, c, cell_of_heap hq 1, cell_of_heap hY.blk 0⟩
theorem LawAt.row {w0 w : World} {B : Nat} {x5 : Value} {M : Nat} {ps : List Pr} (h : LawAt w0 w B x5 M ps) : ∃ a c, w.cell? ⟨B, 0, none⟩ = some (.slice a ps.length c) ∧ ∀ k p, ps[k]? = some p → ∃ g, a = some ⟨g, 0, none⟩ ∧ w.cell? ⟨g, k, none⟩ = some (.pointer (some ⟨p.q, 0, none⟩)) := by
 obtain ⟨b, vC, vI, vL, vT, vA, h⟩ := h
 obtain ⟨a, c, hv⟩ := owns_shape h.row
 subst hv
 refine ⟨a, c, cell_of_heap h.book.blk 0, fun k p hp => ?_⟩
 have hk := (List.getElem?_eq_some_iff.1 hp).1
 obtain ⟨g, cap, hv, -, -⟩ := h.row.form (by omega)
 cases hv
 refine ⟨g, rfl, ?_⟩
 rw [World.ownsRow.cellAt h.row k (by omega), List.getElem?_map, hp]
 rfl
set_option maxRecDepth 100000 in
set_option maxHeartbeats 4000000 in
theorem lawAsked_any {w0 w : World} {B : Nat} {x5 : Value} {M : Nat} {ps : List Pr} (h : LawAt w0 w B x5 M ps) (hg : ∀ p ∈ ps, (∃ E g, Good p.c E g) ∧ p.c.told.length ≤ 1000000000) (hn : ps.length ≤ 1000000) (hM : M ≤ 1000000) :
  Calls Try.prog 21 #[.pointer (some ⟨B, 0, none⟩)] w fun e w' => e = .returned (.bool true) ∧ Below w0.heap.size w0 w' := by
 have HL := hideA h
 have HG := hideA hg
 clear h hg
 go_enter Try.func21, Try.ntmps21
 go_wp2_with fail
 go_loopw [3] (fun i wr => ∃ k : Nat, k ≤ ps.length ∧ i = .int .i64 k ∧ LawAt w0 wr B x5 (M + 100 * k) ps) (fun i _ => ps.length - (intOf i).toNat)
 case atStart => exact ⟨0, Nat.zero_le _, rfl, HL.out⟩
 case round =>
  obtain ⟨k, hk, rfl, hL⟩ := hrel
  obtain ⟨aC, cC, hrow, hrows⟩ := hL.row
  have HLk := hideA hL
  by_cases hlt : k < ps.length
  ·have hk1 : (k : Int) < (ps.length : Int) := by omega
   have hps : ps[k]? = some ps[k] := List.getElem?_eq_getElem hlt
   obtain ⟨gC, rfl, hcell⟩ := hrows k _ hps
   have hp : ps[k] ∈ ps := List.getElem_mem hlt
   generalize ps[k] = p at *
   obtain ⟨⟨E, g, hgood⟩, htold⟩ := HG.out p hp
   have hn5 := hgood.nodes.n5
   have HB := hideA (lawBag_any hL hp hgood (by omega))
   clear hL hrows hps
   go_wp2_with fail
   refine HB.out.mono ?_
   rintro e W1 ⟨rfl, hL1⟩
   have HA := hideA (lawAnswers_any hL1 hp htold (by omega))
   clear hL1 hrow hcell
   go_wp2_with fail
   refine HA.out.mono ?_
   rintro e W2 ⟨rfl, hL2⟩
   have HL2 := hideA hL2
   clear hL2
   go_wp2_with fail
   go_loopw [7] (fun i wr => ∃ j : Nat, j ≤ p.c.reps.length + 2 ∧ i = .int .i64 ((j : Int) - 1) ∧ LawAt w0 wr B x5 (M + 100 * k + 8 + 8 * j) ps) (fun i _ => p.c.reps.length + 2 - (intOf i + 1).toNat)
   case atStart => exact ⟨0, Nat.zero_le _, rfl, HL2.out⟩
   case round =>
    obtain ⟨j, hj, rfl, hLj⟩ := hrel
    obtain ⟨ay, cy, y1, y0⟩ := hLj.cells hp
    by_cases hltj : j < p.c.reps.length + 2
    ·have hj1 : (j : Int) - 1 ≤ (p.c.reps.length : Int) := by omega
     have HS := hideA (lawStatus_any ((j : Int) - 1) hLj hp hgood (by omega) (by omega))
     have hwj : IntKind.i64.wrap ((j : Int) - 1 + 1) = ((j + 1 : Nat) : Int) - 1 := by rw [IntKind.wrap_i64]; omega
     clear hLj
     go_wp2_with fail
     refine HS.out.mono ?_
     rintro e W3 ⟨rfl, hL3⟩
     have HL3 := hideA hL3
     clear hL3 y0 y1
     go_wp2_with fail
     go_roundw
     case rel => exact ⟨j + 1, by omega, by first | rfl | (congr 1; omega) | (simp; omega), HL3.out⟩
     case measure => simp [intOf]; omega
    ·obtain rfl : j = p.c.reps.length + 2 := by omega
     have hj1 : ¬ ((p.c.reps.length + 2 : Nat) : Int) - 1 ≤ (p.c.reps.length : Int) := by omega
     have HLj := hideA hLj
     clear hLj
     go_wp2_with fail
     go_loopw [9] (fun i wr => ∃ m : Nat, m ≤ 5 ∧ i = .int .i64 (99 + (m : Int)) ∧ LawAt w0 wr B x5 (M + 100 * k + 8 + 8 * (p.c.reps.length + 2) + 4 * m) ps) (fun i _ => 104 - (intOf i).toNat)
     case atStart => exact ⟨0, Nat.zero_le _, rfl, HLj.out⟩
     case round =>
      obtain ⟨m, hm, rfl, hLm⟩ := hrel
      by_cases hltm : m < 5
      ·have hm1 : 99 + (m : Int) ≤ 103 := by omega
       have HS := hideA (lawBallots_any (99 + (m : Int)) hLm hp hgood (by omega) (by omega))
       have hwm : IntKind.i64.wrap (99 + (m : Int) + 1) = 99 + ((m + 1 : Nat) : Int) := by rw [IntKind.wrap_i64]; omega
       clear hLm
       go_wp2_with fail
       refine HS.out.mono ?_
       rintro e W4 ⟨rfl, hL4⟩
       have HL4 := hideA hL4
       clear hL4
       go_wp2_with fail
       go_roundw
       case rel => exact ⟨m + 1, by omega, by first | rfl | (congr 1; omega) | (simp; omega), HL4.out⟩
       case measure => simp [intOf]; omega
      ·obtain rfl : m = 5 := by omega
       have HLm := hideA hLm
       clear hLm
       go_wp2_with fail
       go_roundw
       case rel => exact ⟨k + 1, by omega, by go_num, HLm.out.less (by omega)⟩
       case measure => simp [intOf]; omega
  ·obtain rfl : k = ps.length := by omega
   obtain ⟨b, vC, vI, vL, vT, vA, hLi⟩ := HLk.out
   obtain ⟨s1, s2, s3, s4⟩ := hLi.small
   have HW := hideA (hLi.book.whole (by omega) (by omega) (by omega) (by omega))
   have HBe := hideA hLi.be
   clear hL hrows hLi
   go_wp2_with fail
   refine HW.out.mono ?_
   rintro e W1 ⟨rfl, hb1⟩
   have HB1 := hideA (HBe.out.trans (hb1.mono HBe.out.size))
   clear hrow
   go_wp2_with fail
   go_ret
   exact ⟨rfl, HB1.out⟩
end Go.Proofs.Ytgieeeeeiggoeaa
