import Derived.Test.YtgieeeeeiggoeaaEncE
import Derived.Test.YtgieeeeeiggoeaaEncD
namespace Go.Proofs.Ytgieeeeeiggoeaa
open Go.RowKit Go.Shelf

set_option maxRecDepth 100000 in
set_option maxHeartbeats 1000000 in
theorem wireEncode_slices (k f t ep ba vo po va : Int) (am al : Option Addr) (cm cl : Nat) (ms : List Int) (es : List Ent) (base : Nat) (w : World) (hmem : IntsAt w (.slice am ms.length cm) ms)
    (hlog : w.ownsRow base 59 5 (.slice al es.length cl) es.length (ints (entsNums es))) :
    Calls Try.prog 10 #[.agg #[.int .i64 k, .int .i64 f, .int .i64 t, .int .i64 ep, .int .i64 ba, .int .i64 vo, .int .i64 po, .int .i64 va, .slice am ms.length cm, .slice al es.length cl]] w fun e w' => Below w.heap.size w w' ∧ e = .returned (.tuple #[.string (bs (encOf k [f, t, ep, ba, vo, po, va] ms es).1), .int .i64 (encOf k [f, t, ep, ba, vo, po, va] ms es).2]) := by
  obtain ⟨W, hW, hbW, hsW, q, -⟩ := boxed w #[.int .i64 k, .int .i64 f, .int .i64 t, .int .i64 ep, .int .i64 ba, .int .i64 vo, .int .i64 po, .int .i64 va, .slice am ms.length cm, .slice al es.length cl] 25
  have hmemW := hmem.below hbW
  have hlogW := owns_kept hlog fun k _ hk => hbW.block k hk
  have q0 := q 0
  have q1 := q 1
  have q2 := q 2
  have q3 := q 3
  have q4 := q 4
  have q5 := q 5
  have q6 := q 6
  have q7 := q 7
  have q8 := q 8
  have q9 := q 9
  have hws : w.heap.size < W.heap.size := by omega
  clear q hsW
  by_cases hlong : 1 ≤ k ∧ k ≤ 16 ∧ ms.length ≤ 5 ∧ es.length ≤ 24
  · obtain ⟨h1, h2, h3, h4⟩ := hlong
    go_enter Try.func10, Try.ntmps10
    go_wp2_with fail
    clear hW
    refine (callsIn_wide.1 (hasBytes_in 3 (hideA (by omega)) k f t ep ba vo po va _ _ ms es base W hmemW hlogW h1 h2 h3 h4)).mono ?_
    rintro e W2 ⟨rfl, hb2⟩
    have hbw2 := hbW.trans (hb2.mono hbW.size)
    cases hok : msgOk k [f, t, ep, ba, vo, po, va] ms es with
    | false =>
      have hE : Hid (encOf k [f, t, ep, ba, vo, po, va] ms es = ([], 1)) := encOf_no hok
      clear hok q0 q1 q2 q3 q4 q5 q6 q7 q8 q9
      go_wp2_with fail
      go_ret2
      exact ⟨hbw2, ret_no hE rfl⟩
    | true =>
      have hE : Hid (encOf k [f, t, ep, ba, vo, po, va] ms es = (body k [f, t, ep, ba, vo, po, va] ms es ++ sumOf (body k [f, t, ep, ba, vo, po, va] ms es), 0)) := encOf_yes hok
      have r0 := cell_later hb2 q0
      have r1 := cell_later hb2 q1
      have r2 := cell_later hb2 q2
      have r3 := cell_later hb2 q3
      have r4 := cell_later hb2 q4
      have r5 := cell_later hb2 q5
      have r6 := cell_later hb2 q6
      have r7 := cell_later hb2 q7
      have r8 := cell_later hb2 q8
      have r9 := cell_later hb2 q9
      have Hok := hideA hok
      clear hok q0 q1 q2 q3 q4 q5 q6 q7 q8 q9
      go_wp2_with fail
      refine (callsIn_wide.1 (writeBody_in 3 (hideA (by omega)) k f t ep ba vo po va am al cm cl ms es base _ (hmemW.below hb2) (owns_kept hlogW fun k _ hk => hb2.block k hk) Hok)).mono ?_
      rintro e W3 ⟨rfl, hb3⟩
      have hbd := body_length k [f, t, ep, ba, vo, po, va] ms es
      have hl1 : (body k [f, t, ep, ba, vo, po, va] ms es).length ≤ 1000 := by rw [hbd]; simp only [List.length_cons, List.length_nil]; omega
      clear hbd r0 r1 r2 r3 r4 r5 r6 r7 r8 r9
      have hadd := add_bs (body k [f, t, ep, ba, vo, po, va] ms es) (sumOf (body k [f, t, ep, ba, vo, po, va] ms es)) (by rw [sumOf_length]; omega)
      generalize body k [f, t, ep, ba, vo, po, va] ms es = BD at *
      go_wp2_with fail
      refine (sumBytes_any (bs BD) _ (by rw [bs_size]; unfold maxLen; omega)).mono ?_
      rintro e W4 ⟨rfl, hb4⟩
      rw [bs_list]
      go_wp2_with fail
      go_ret2
      refine ⟨hbw2.trans ((hb3.trans (hb4.mono hb3.size)).mono hbw2.size), ?_⟩
      rw [hE.out]
      rfl
  · have hE : Hid (encOf k [f, t, ep, ba, vo, po, va] ms es = ([], 1)) := encOf_no (msgOk_false fun h => hlong h.1)
    go_enter Try.func10, Try.ntmps10
    go_wp2_with fail
    clear hW
    refine (hasBytes_short k f t ep ba vo po va am al ms.length cm es.length cl W hlong).mono ?_
    rintro e W2 ⟨rfl, hb2⟩
    clear q0 q1 q2 q3 q4 q5 q6 q7 q8 q9
    go_wp2_with fail
    go_ret2
    exact ⟨hbW.trans (hb2.mono hbW.size), ret_no hE rfl⟩

theorem wireEncode_any (k f t ep ba vo po va : Int) (mem log : Value) (ms : List Int) (es : List Ent) (base : Nat) (w : World) (hmem : IntsAt w mem ms) (hlog : w.ownsRow base 59 5 log es.length (ints (entsNums es))) :
    Calls Try.prog 10 #[.agg #[.int .i64 k, .int .i64 f, .int .i64 t, .int .i64 ep, .int .i64 ba, .int .i64 vo, .int .i64 po, .int .i64 va, mem, log]] w fun e w' => Below w.heap.size w w' ∧ e = .returned (.tuple #[.string (bs (encOf k [f, t, ep, ba, vo, po, va] ms es).1), .int .i64 (encOf k [f, t, ep, ba, vo, po, va] ms es).2]) := by
  have hmem1 := hmem
  obtain ⟨am, cm, rfl, -⟩ := hmem1
  obtain ⟨al, cl, rfl⟩ := owns_shape hlog
  exact wireEncode_slices k f t ep ba vo po va am al cm cl ms es base w hmem hlog
end Go.Proofs.Ytgieeeeeiggoeaa
