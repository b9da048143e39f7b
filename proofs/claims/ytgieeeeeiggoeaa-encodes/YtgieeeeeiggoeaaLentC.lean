import Derived.Test.YtgieeeeeiggoeaaLentB
import Derived.Test.YtgieeeeeiggoeaaEncF
namespace Go.Proofs.Ytgieeeeeiggoeaa
open Go.RowKit

theorem ints_of_block {w : World} {g : Nat} {l : List Int} {z : Int} (h : w.heap[g]? = some (.cells (ints (l ++ [z])).toArray 3)) : IntsAt w (.slice (some ⟨g, 0, none⟩) l.length (l.length + 1)) l ∧ w.cell? ⟨g, l.length, none⟩ = some (.int .i64 z) := by
  refine ⟨⟨_, _, rfl, fun i hi => ⟨g, 0, rfl, ?_⟩⟩, ?_⟩
  · rw [Nat.zero_add, Joins.cell_of_block h, List.getElem?_toArray, ints_append, List.getElem?_append_left (by rw [ints_length]; exact hi)]
    simp [ints, List.getD, List.getElem?_eq_getElem hi]
  · rw [Joins.cell_of_block h, List.getElem?_toArray, ints_append, List.getElem?_append_right (by rw [ints_length]; omega), ints_length, Nat.sub_self]
    rfl

theorem ents_of_block {w : World} {g base : Nat} {l : List Ent} {z : Ent} (hb : base ≤ g) (hl : l.length + 1 ≤ maxLen) (h : w.heap[g]? = some (.cells (ints (entsNums (l ++ [z]))).toArray 59)) :
    w.ownsRow base 59 5 (.slice (some ⟨g, 0, none⟩) l.length (l.length + 1)) l.length (ints (entsNums l)) ∧ ∀ j, j < 5 → w.cell? ⟨g, l.length * 5 + j, none⟩ = (ints z.nums)[j]? := by
  have hlen : (ints (entsNums l)).length = l.length * 5 := by rw [ints_length, entsNums_length]; omega
  refine ⟨⟨hlen, .inr ⟨g, l.length + 1, _, rfl, hb, h, by omega, hl, ?_, ?_⟩⟩, fun j hj => ?_⟩
  · rw [List.size_toArray, ints_length, entsNums_length, List.length_append]
    simp
    omega
  · show List.take _ (ints (entsNums (l ++ [z]))) = _
    rw [entsNums_append, ints_append, ← hlen, List.take_left]
  · rw [Joins.cell_of_block h, List.getElem?_toArray, entsNums_append, ints_append, List.getElem?_append_right (by rw [hlen]; omega), hlen, Nat.add_sub_cancel_left, entsNums_one]

set_option maxHeartbeats 4000000 in
set_option maxRecDepth 100000 in
theorem Encodes_any (k f t ep ba vo po va : Int) (mem log : Value) (ms : List Int) (es : List Ent) (w : World) (hm : IntsAt w mem ms) (hl : LogAt w log es) (hm1 : ms.length ≤ 17592186043904) (hl1 : es.length ≤ 3518437208780) :
    Calls Try.prog 3 #[.agg #[.int .i64 k, .int .i64 f, .int .i64 t, .int .i64 ep, .int .i64 ba, .int .i64 vo, .int .i64 po, .int .i64 va, mem, log]] w fun e w' => e = .returned (.bool true) ∧ Below w.heap.size w w' := by
  have hm0 := hm
  have hl0 := hl
  obtain ⟨am, cm, rfl, -⟩ := hm0
  obtain ⟨al, cl, rfl, -⟩ := hl0
  obtain ⟨W1, hW1, hb1, hs1, q1, -⟩ := boxed w #[.int .i64 k, .int .i64 f, .int .i64 t, .int .i64 ep, .int .i64 ba, .int .i64 vo, .int .i64 po, .int .i64 va, .slice am ms.length cm, .slice al es.length cl] 25
  have m0 : W1.cell? ⟨w.heap.size, 0, none⟩ = some (.int .i64 k) := q1 0
  have m1 : W1.cell? ⟨w.heap.size, 1, none⟩ = some (.int .i64 f) := q1 1
  have m2 : W1.cell? ⟨w.heap.size, 2, none⟩ = some (.int .i64 t) := q1 2
  have m3 : W1.cell? ⟨w.heap.size, 3, none⟩ = some (.int .i64 ep) := q1 3
  have m4 : W1.cell? ⟨w.heap.size, 4, none⟩ = some (.int .i64 ba) := q1 4
  have m5 : W1.cell? ⟨w.heap.size, 5, none⟩ = some (.int .i64 vo) := q1 5
  have m6 : W1.cell? ⟨w.heap.size, 6, none⟩ = some (.int .i64 po) := q1 6
  have m7 : W1.cell? ⟨w.heap.size, 7, none⟩ = some (.int .i64 va) := q1 7
  have m8 : W1.cell? ⟨w.heap.size, 8, none⟩ = some (.slice am ms.length cm) := q1 8
  have m9 : W1.cell? ⟨w.heap.size, 9, none⟩ = some (.slice al es.length cl) := q1 9
  clear q1
  go_enter Try.func3, Try.ntmps3
  go_wp2_with fail
  clear hW1
  obtain ⟨W2, hW2, hb2, hs2, q2, fo⟩ := boxed W1 #[.int .i64 k, .int .i64 f, .int .i64 t, .int .i64 ep, .int .i64 ba, .int .i64 vo, .int .i64 po, .int .i64 va, .slice am ms.length cm, .slice al es.length cl] 25
  rw [hW2]
  rw [hs1] at q2 hs2 fo
  have o0 : W2.cell? ⟨w.heap.size + 1, 0, none⟩ = some (.int .i64 k) := q2 0
  have o1 : W2.cell? ⟨w.heap.size + 1, 1, none⟩ = some (.int .i64 f) := q2 1
  have o2 : W2.cell? ⟨w.heap.size + 1, 2, none⟩ = some (.int .i64 t) := q2 2
  have o3 : W2.cell? ⟨w.heap.size + 1, 3, none⟩ = some (.int .i64 ep) := q2 3
  have o4 : W2.cell? ⟨w.heap.size + 1, 4, none⟩ = some (.int .i64 ba) := q2 4
  have o5 : W2.cell? ⟨w.heap.size + 1, 5, none⟩ = some (.int .i64 vo) := q2 5
  have o6 : W2.cell? ⟨w.heap.size + 1, 6, none⟩ = some (.int .i64 po) := q2 6
  have o7 : W2.cell? ⟨w.heap.size + 1, 7, none⟩ = some (.int .i64 va) := q2 7
  have o8 : W2.cell? ⟨w.heap.size + 1, 8, none⟩ = some (.slice am ms.length cm) := q2 8
  have o9 : W2.cell? ⟨w.heap.size + 1, 9, none⟩ = some (.slice al es.length cl) := q2 9
  clear q2 hW2
  have n0 := cell_later hb2 m0
  have n1 := cell_later hb2 m1
  have n2 := cell_later hb2 m2
  have n3 := cell_later hb2 m3
  have n4 := cell_later hb2 m4
  have n5 := cell_later hb2 m5
  have n6 := cell_later hb2 m6
  have n7 := cell_later hb2 m7
  have n8 := cell_later hb2 m8
  have n9 := cell_later hb2 m9
  clear m0 m1 m2 m3 m4 m5 m6 m7 m8 m9
  have hbw2 : Below w.heap.size w W2 := hb1.trans (hb2.mono hb1.size)
  have hm2 := hm.below hbw2
  have hl2 := hl.below hbw2
  refine (lentInts_any _ ms W2 hm2 hm1).mono ?_
  rintro e W3 ⟨rfl, hb3, hg3⟩
  have p0 := cell_later hb3 n0
  have p1 := cell_later hb3 n1
  have p2 := cell_later hb3 n2
  have p3 := cell_later hb3 n3
  have p4 := cell_later hb3 n4
  have p5 := cell_later hb3 n5
  have p6 := cell_later hb3 n6
  have p7 := cell_later hb3 n7
  have p8 := cell_later hb3 n8
  have p9 := cell_later hb3 n9
  have r0 := cell_later hb3 o0
  have r1 := cell_later hb3 o1
  have r2 := cell_later hb3 o2
  have r3 := cell_later hb3 o3
  have r4 := cell_later hb3 o4
  have r5 := cell_later hb3 o5
  have r6 := cell_later hb3 o6
  have r7 := cell_later hb3 o7
  have r8 := cell_later hb3 o8
  have r9 := cell_later hb3 o9
  clear n0 n1 n2 n3 n4 n5 n6 n7 n8 n9
  clear o0 o1 o2 o3 o4 o5 o6 o7 o8 o9
  have f8 : W3.frozen? ⟨w.heap.size + 1, 8, none⟩ = false := (hb3.frozen (p := ⟨w.heap.size + 1, 8, none⟩) (by show w.heap.size + 1 < _; omega)).trans (fo 8)
  have f9 : W3.frozen? ⟨w.heap.size + 1, 9, none⟩ = false := (hb3.frozen (p := ⟨w.heap.size + 1, 9, none⟩) (by show w.heap.size + 1 < _; omega)).trans (fo 9)
  have hbw3 : Below w.heap.size w W3 := hbw2.trans (hb3.mono hbw2.size)
  have hs3 := hb3.size
  rw [hs2] at hg3
  have hs3' := (Array.getElem?_eq_some_iff.1 hg3).1
  have HG3 := hideA hg3
  clear hg3 fo
  go_wp2_with fail
  have hG4 : (W3.setCell ⟨w.heap.size + 1, 8, none⟩ (.slice (some ⟨w.heap.size + 1 + 1, 0, none⟩) ms.length (ms.length + 1))).heap[w.heap.size + 1 + 1]? = some (.cells (ints (ms ++ [-77])).toArray 3) := (Below.heap_setCell _ _ _ _ (by show w.heap.size + 1 + 1 ≠ w.heap.size + 1; omega)).trans HG3.out
  have hbw4 : Below w.heap.size w (W3.setCell ⟨w.heap.size + 1, 8, none⟩ (.slice (some ⟨w.heap.size + 1 + 1, 0, none⟩) ms.length (ms.length + 1))) := hbw3.setCell (by show w.heap.size ≤ w.heap.size + 1; omega) _
  have f94 : (W3.setCell ⟨w.heap.size + 1, 8, none⟩ (.slice (some ⟨w.heap.size + 1 + 1, 0, none⟩) ms.length (ms.length + 1))).frozen? ⟨w.heap.size + 1, 9, none⟩ = false := (World.frozen?_setCell _ _ _ _).trans f9
  have hs4 : (W3.setCell ⟨w.heap.size + 1, 8, none⟩ (.slice (some ⟨w.heap.size + 1 + 1, 0, none⟩) ms.length (ms.length + 1))).heap.size = W3.heap.size := by simp
  have a0 := (World.cell?_setCell_other W3 ⟨w.heap.size + 1, 8, none⟩ ⟨w.heap.size, 0, none⟩ (.slice (some ⟨w.heap.size + 1 + 1, 0, none⟩) ms.length (ms.length + 1)) (by intro e; injection e with e; omega)).trans p0
  have a1 := (World.cell?_setCell_other W3 ⟨w.heap.size + 1, 8, none⟩ ⟨w.heap.size, 1, none⟩ (.slice (some ⟨w.heap.size + 1 + 1, 0, none⟩) ms.length (ms.length + 1)) (by intro e; injection e with e; omega)).trans p1
  have a2 := (World.cell?_setCell_other W3 ⟨w.heap.size + 1, 8, none⟩ ⟨w.heap.size, 2, none⟩ (.slice (some ⟨w.heap.size + 1 + 1, 0, none⟩) ms.length (ms.length + 1)) (by intro e; injection e with e; omega)).trans p2
  have a3 := (World.cell?_setCell_other W3 ⟨w.heap.size + 1, 8, none⟩ ⟨w.heap.size, 3, none⟩ (.slice (some ⟨w.heap.size + 1 + 1, 0, none⟩) ms.length (ms.length + 1)) (by intro e; injection e with e; omega)).trans p3
  have a4 := (World.cell?_setCell_other W3 ⟨w.heap.size + 1, 8, none⟩ ⟨w.heap.size, 4, none⟩ (.slice (some ⟨w.heap.size + 1 + 1, 0, none⟩) ms.length (ms.length + 1)) (by intro e; injection e with e; omega)).trans p4
  have a5 := (World.cell?_setCell_other W3 ⟨w.heap.size + 1, 8, none⟩ ⟨w.heap.size, 5, none⟩ (.slice (some ⟨w.heap.size + 1 + 1, 0, none⟩) ms.length (ms.length + 1)) (by intro e; injection e with e; omega)).trans p5
  have a6 := (World.cell?_setCell_other W3 ⟨w.heap.size + 1, 8, none⟩ ⟨w.heap.size, 6, none⟩ (.slice (some ⟨w.heap.size + 1 + 1, 0, none⟩) ms.length (ms.length + 1)) (by intro e; injection e with e; omega)).trans p6
  have a7 := (World.cell?_setCell_other W3 ⟨w.heap.size + 1, 8, none⟩ ⟨w.heap.size, 7, none⟩ (.slice (some ⟨w.heap.size + 1 + 1, 0, none⟩) ms.length (ms.length + 1)) (by intro e; injection e with e; omega)).trans p7
  have a8 := (World.cell?_setCell_other W3 ⟨w.heap.size + 1, 8, none⟩ ⟨w.heap.size, 8, none⟩ (.slice (some ⟨w.heap.size + 1 + 1, 0, none⟩) ms.length (ms.length + 1)) (by intro e; injection e with e; omega)).trans p8
  have a9 := (World.cell?_setCell_other W3 ⟨w.heap.size + 1, 8, none⟩ ⟨w.heap.size, 9, none⟩ (.slice (some ⟨w.heap.size + 1 + 1, 0, none⟩) ms.length (ms.length + 1)) (by intro e; injection e with e; omega)).trans p9
  have b0 := (cell_set_other W3 (w.heap.size + 1) (k := 8) (j := 0) (.slice (some ⟨w.heap.size + 1 + 1, 0, none⟩) ms.length (ms.length + 1)) (by omega)).trans r0
  have b1 := (cell_set_other W3 (w.heap.size + 1) (k := 8) (j := 1) (.slice (some ⟨w.heap.size + 1 + 1, 0, none⟩) ms.length (ms.length + 1)) (by omega)).trans r1
  have b2 := (cell_set_other W3 (w.heap.size + 1) (k := 8) (j := 2) (.slice (some ⟨w.heap.size + 1 + 1, 0, none⟩) ms.length (ms.length + 1)) (by omega)).trans r2
  have b3 := (cell_set_other W3 (w.heap.size + 1) (k := 8) (j := 3) (.slice (some ⟨w.heap.size + 1 + 1, 0, none⟩) ms.length (ms.length + 1)) (by omega)).trans r3
  have b4 := (cell_set_other W3 (w.heap.size + 1) (k := 8) (j := 4) (.slice (some ⟨w.heap.size + 1 + 1, 0, none⟩) ms.length (ms.length + 1)) (by omega)).trans r4
  have b5 := (cell_set_other W3 (w.heap.size + 1) (k := 8) (j := 5) (.slice (some ⟨w.heap.size + 1 + 1, 0, none⟩) ms.length (ms.length + 1)) (by omega)).trans r5
  have b6 := (cell_set_other W3 (w.heap.size + 1) (k := 8) (j := 6) (.slice (some ⟨w.heap.size + 1 + 1, 0, none⟩) ms.length (ms.length + 1)) (by omega)).trans r6
  have b7 := (cell_set_other W3 (w.heap.size + 1) (k := 8) (j := 7) (.slice (some ⟨w.heap.size + 1 + 1, 0, none⟩) ms.length (ms.length + 1)) (by omega)).trans r7
  have b8 := World.cell?_setCell_same' W3 ⟨w.heap.size + 1, 8, none⟩ (.slice (some ⟨w.heap.size + 1 + 1, 0, none⟩) ms.length (ms.length + 1)) (by rw [r8]; rfl)
  have b9 := (cell_set_other W3 (w.heap.size + 1) (k := 8) (j := 9) (.slice (some ⟨w.heap.size + 1 + 1, 0, none⟩) ms.length (ms.length + 1)) (by omega)).trans r9
  clear p0 p1 p2 p3 p4 p5 p6 p7 p8 p9
  clear r0 r1 r2 r3 r4 r5 r6 r7 r8 r9
  clear f8 f9
  generalize W3.setCell ⟨w.heap.size + 1, 8, none⟩ (.slice (some ⟨w.heap.size + 1 + 1, 0, none⟩) ms.length (ms.length + 1)) = V at *
  clear hbw3
  refine (lentLog_any _ es V (hl.below hbw4) hl1).mono ?_
  rintro e W4 ⟨rfl, hb4, hg4⟩
  rw [hs4] at hg4
  have hs4' := (Array.getElem?_eq_some_iff.1 hg4).1
  have HG4 := hideA hg4
  have HGm : Hid (W4.heap[w.heap.size + 1 + 1]? = some (.cells (ints (ms ++ [-77])).toArray 3)) := hideA ((hb4.block _ (by omega)).trans hG4)
  clear hg4 hG4
  have c0 := cell_later hb4 a0
  have c1 := cell_later hb4 a1
  have c2 := cell_later hb4 a2
  have c3 := cell_later hb4 a3
  have c4 := cell_later hb4 a4
  have c5 := cell_later hb4 a5
  have c6 := cell_later hb4 a6
  have c7 := cell_later hb4 a7
  have c8 := cell_later hb4 a8
  have c9 := cell_later hb4 a9
  have d0 := cell_later hb4 b0
  have d1 := cell_later hb4 b1
  have d2 := cell_later hb4 b2
  have d3 := cell_later hb4 b3
  have d4 := cell_later hb4 b4
  have d5 := cell_later hb4 b5
  have d6 := cell_later hb4 b6
  have d7 := cell_later hb4 b7
  have d8 := cell_later hb4 b8
  have d9 := cell_later hb4 b9
  clear a0 a1 a2 a3 a4 a5 a6 a7 a8 a9
  clear b0 b1 b2 b3 b4 b5 b6 b7 b8 b9
  have f95 : W4.frozen? ⟨w.heap.size + 1, 9, none⟩ = false := (hb4.frozen (p := ⟨w.heap.size + 1, 9, none⟩) (by show w.heap.size + 1 < _; omega)).trans f94
  clear f94
  have hs5 := hb4.size
  have hbw5 := hbw4.trans (hb4.mono hbw4.size)
  go_wp2_with fail
  have hbw6 : Below w.heap.size w (W4.setCell ⟨w.heap.size + 1, 9, none⟩ (.slice (some ⟨W3.heap.size, 0, none⟩) es.length (es.length + 1))) := hbw5.setCell (by show w.heap.size ≤ w.heap.size + 1; omega) _
  have hs6 : (W4.setCell ⟨w.heap.size + 1, 9, none⟩ (.slice (some ⟨W3.heap.size, 0, none⟩) es.length (es.length + 1))).heap.size = W4.heap.size := by simp
  have HG6 : Hid ((W4.setCell ⟨w.heap.size + 1, 9, none⟩ (.slice (some ⟨W3.heap.size, 0, none⟩) es.length (es.length + 1))).heap[W3.heap.size]? = some (.cells (ints (entsNums (es ++ [lentE]))).toArray 59)) := hideA ((Below.heap_setCell _ _ _ _ (by show W3.heap.size ≠ w.heap.size + 1; omega)).trans HG4.out)
  have HGm6 : Hid ((W4.setCell ⟨w.heap.size + 1, 9, none⟩ (.slice (some ⟨W3.heap.size, 0, none⟩) es.length (es.length + 1))).heap[w.heap.size + 1 + 1]? = some (.cells (ints (ms ++ [-77])).toArray 3)) := hideA ((Below.heap_setCell _ _ _ _ (by show w.heap.size + 1 + 1 ≠ w.heap.size + 1; omega)).trans HGm.out)
  have a0 := (World.cell?_setCell_other W4 ⟨w.heap.size + 1, 9, none⟩ ⟨w.heap.size, 0, none⟩ (.slice (some ⟨W3.heap.size, 0, none⟩) es.length (es.length + 1)) (by intro e; injection e with e; omega)).trans c0
  have a1 := (World.cell?_setCell_other W4 ⟨w.heap.size + 1, 9, none⟩ ⟨w.heap.size, 1, none⟩ (.slice (some ⟨W3.heap.size, 0, none⟩) es.length (es.length + 1)) (by intro e; injection e with e; omega)).trans c1
  have a2 := (World.cell?_setCell_other W4 ⟨w.heap.size + 1, 9, none⟩ ⟨w.heap.size, 2, none⟩ (.slice (some ⟨W3.heap.size, 0, none⟩) es.length (es.length + 1)) (by intro e; injection e with e; omega)).trans c2
  have a3 := (World.cell?_setCell_other W4 ⟨w.heap.size + 1, 9, none⟩ ⟨w.heap.size, 3, none⟩ (.slice (some ⟨W3.heap.size, 0, none⟩) es.length (es.length + 1)) (by intro e; injection e with e; omega)).trans c3
  have a4 := (World.cell?_setCell_other W4 ⟨w.heap.size + 1, 9, none⟩ ⟨w.heap.size, 4, none⟩ (.slice (some ⟨W3.heap.size, 0, none⟩) es.length (es.length + 1)) (by intro e; injection e with e; omega)).trans c4
  have a5 := (World.cell?_setCell_other W4 ⟨w.heap.size + 1, 9, none⟩ ⟨w.heap.size, 5, none⟩ (.slice (some ⟨W3.heap.size, 0, none⟩) es.length (es.length + 1)) (by intro e; injection e with e; omega)).trans c5
  have a6 := (World.cell?_setCell_other W4 ⟨w.heap.size + 1, 9, none⟩ ⟨w.heap.size, 6, none⟩ (.slice (some ⟨W3.heap.size, 0, none⟩) es.length (es.length + 1)) (by intro e; injection e with e; omega)).trans c6
  have a7 := (World.cell?_setCell_other W4 ⟨w.heap.size + 1, 9, none⟩ ⟨w.heap.size, 7, none⟩ (.slice (some ⟨W3.heap.size, 0, none⟩) es.length (es.length + 1)) (by intro e; injection e with e; omega)).trans c7
  have a8 := (World.cell?_setCell_other W4 ⟨w.heap.size + 1, 9, none⟩ ⟨w.heap.size, 8, none⟩ (.slice (some ⟨W3.heap.size, 0, none⟩) es.length (es.length + 1)) (by intro e; injection e with e; omega)).trans c8
  have a9 := (World.cell?_setCell_other W4 ⟨w.heap.size + 1, 9, none⟩ ⟨w.heap.size, 9, none⟩ (.slice (some ⟨W3.heap.size, 0, none⟩) es.length (es.length + 1)) (by intro e; injection e with e; omega)).trans c9
  have b8 := (cell_set_other W4 (w.heap.size + 1) (k := 9) (j := 8) (.slice (some ⟨W3.heap.size, 0, none⟩) es.length (es.length + 1)) (by omega)).trans d8
  have b9 := World.cell?_setCell_same' W4 ⟨w.heap.size + 1, 9, none⟩ (.slice (some ⟨W3.heap.size, 0, none⟩) es.length (es.length + 1)) (by rw [d9]; rfl)
  clear c0 c1 c2 c3 c4 c5 c6 c7 c8 c9
  clear d0 d1 d2 d3 d4 d5 d6 d7 d8 d9
  clear f95 HG4 HGm
  generalize W4.setCell ⟨w.heap.size + 1, 9, none⟩ (.slice (some ⟨W3.heap.size, 0, none⟩) es.length (es.length + 1)) = X at *
  have hI6 := ints_of_block HGm6.out
  have hL6 := ents_of_block (base := 0) (Nat.zero_le _) (by unfold maxLen; omega) HG6.out
  refine (wireEncode_any k f t ep ba vo po va _ _ ms es 0 X hI6.1 hL6.1).mono ?_
  rintro e W7 ⟨hb7, rfl⟩
  clear hI6 hL6
  have c0 := cell_later hb7 a0
  have c1 := cell_later hb7 a1
  have c2 := cell_later hb7 a2
  have c3 := cell_later hb7 a3
  have c4 := cell_later hb7 a4
  have c5 := cell_later hb7 a5
  have c6 := cell_later hb7 a6
  have c7 := cell_later hb7 a7
  have c8 := cell_later hb7 a8
  have c9 := cell_later hb7 a9
  have d8 := cell_later hb7 b8
  have d9 := cell_later hb7 b9
  clear a0 a1 a2 a3 a4 a5 a6 a7 a8 a9
  clear b8 b9
  have hbw7 := hbw6.trans (hb7.mono hbw6.size)
  go_wp2_with fail
  refine (refEncode_any k f t ep ba vo po va _ _ ms es W7 (hm.below hbw7) (hl.below hbw7)).mono ?_
  rintro e W8 ⟨hb8, rfl⟩
  have a8 := cell_later hb8 c8
  have a9 := cell_later hb8 c9
  have b8 := cell_later hb8 d8
  have b9 := cell_later hb8 d9
  clear c0 c1 c2 c3 c4 c5 c6 c7 c8 c9
  clear d8 d9
  have hbw8 := hbw7.trans (hb8.mono hbw7.size)
  have hb68 : Below X.heap.size X W8 := hb7.trans (hb8.mono hb7.size)
  have hGm8 : W8.heap[w.heap.size + 1 + 1]? = some (.cells (ints (ms ++ [-77])).toArray 3) := (hb68.block _ (by omega)).trans HGm6.out
  have hG8 : W8.heap[W3.heap.size]? = some (.cells (ints (entsNums (es ++ [lentE]))).toArray 59) := (hb68.block _ (by omega)).trans HG6.out
  have hI8 := ints_of_block hGm8
  have hL8 := ents_of_block (base := 0) (Nat.zero_le _) (by unfold maxLen; omega) hG8
  have HI8 := hideA hI8
  have HL8 := hideA hL8
  clear hGm8 hG8 hI8 hL8
  generalize (encOf k [f, t, ep, ba, vo, po, va] ms es).1 = E1
  generalize (encOf k [f, t, ep, ba, vo, po, va] ms es).2 = E2
  go_wp2_with fail
  refine (keptInts_any (w.heap.size + 1 + 1) _ ms W8 HI8.out.1 (hm.below hbw8) HI8.out.2 hm1).mono ?_
  rintro e W9 ⟨rfl, q9, rfl⟩
  have hbw9 := below_drewN hbw8 q9
  go_wp2_with fail
  refine (keptLog_any W3.heap.size _ es (W8.drewN q9) (LogAt.of_owns HL8.out.1) (hl.below hbw9) (HL8.out.2 0 (by omega)) (HL8.out.2 1 (by omega)) (HL8.out.2 2 (by omega)) (HL8.out.2 3 (by omega)) (HL8.out.2 4 (by omega)) hl1).mono ?_
  rintro e W10 ⟨rfl, q10, rfl⟩
  go_wp2_with fail
  go_ret
  exact ⟨rfl, below_drewN hbw8 _⟩
end Go.Proofs.Ytgieeeeeiggoeaa
