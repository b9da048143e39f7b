import Derived.Test.YtgieeeeeiggoeaaRefB
import Derived.Deep.RegionHeld3
namespace Go.Proofs.Ytgieeeeeiggoeaa
open Go.RowKit

theorem ret_si {a c : ByteArray} {b d : Int} (h : a = c) (h2 : b = d) : Ending.returned (.tuple #[.string a, .int .i64 b]) = .returned (.tuple #[.string c, .int .i64 d]) := by rw [h, h2]

theorem ret_no {a : ByteArray} {p : List UInt8 × Int} (h : Hid (p = ([], 1))) (ha : a = bs []) : Ending.returned (.tuple #[.string a, .int .i64 1]) = .returned (.tuple #[.string (bs p.1), .int .i64 p.2]) := by rw [h.out, ha]

set_option maxHeartbeats 1000000 in
set_option maxRecDepth 100000 in
theorem refEncode_short (k f t ep ba vo po va : Int) (mem log : Value) (ms : List Int) (es : List Ent) (w : World) (hmem : IntsAt w mem ms) (hlog : LogAt w log es)
    (hno : ¬ (1 ≤ k ∧ k ≤ 16 ∧ ms.length ≤ 5 ∧ es.length ≤ 24)) : Calls Try.prog 11 #[.agg #[.int .i64 k, .int .i64 f, .int .i64 t, .int .i64 ep, .int .i64 ba, .int .i64 vo, .int .i64 po, .int .i64 va, mem, log]] w fun e w' => Below w.heap.size w w' ∧ e = .returned (.tuple #[.string (bs (encOf k [f, t, ep, ba, vo, po, va] ms es).1), .int .i64 (encOf k [f, t, ep, ba, vo, po, va] ms es).2]) := by
  obtain ⟨am, cm, rfl, -⟩ := hmem
  obtain ⟨al, cl, rfl, -⟩ := hlog
  have hb0 := (Below.refl w.heap.size w).alloc (Nat.le_refl _) (.cells #[.int .i64 k, .int .i64 f, .int .i64 t, .int .i64 ep, .int .i64 ba, .int .i64 vo, .int .i64 po, .int .i64 va, .slice am ms.length cm, .slice al es.length cl] 25)
  have hE : Hid (encOf k [f, t, ep, ba, vo, po, va] ms es = ([], 1)) := encOf_no (msgOk_false fun h => hno h.1)
  by_cases h1 : k < 1
  · go_enter Try.func11, Try.ntmps11
    go_wp2_with fail
    go_ret2
    exact ⟨hb0, ret_no hE rfl⟩
  by_cases h2 : 16 < k
  · go_enter Try.func11, Try.ntmps11
    go_wp2_with fail
    go_ret2
    exact ⟨hb0, ret_no hE rfl⟩
  by_cases h3 : 5 < ms.length
  · go_enter Try.func11, Try.ntmps11
    go_wp2_with fail
    go_ret2
    exact ⟨hb0, ret_no hE rfl⟩
  have h4 : 24 < es.length := by omega
  go_enter Try.func11, Try.ntmps11
  go_wp2_with fail
  go_ret2
  exact ⟨hb0, ret_no hE rfl⟩

theorem add_bs (l m : List UInt8) (h : l.length + m.length ≤ 9223372036854775807) : ∀ w, (Op.stringOp .add (bs l) (bs m)).run Try.prog w = .ok (.string (bs (l ++ m))) w := by
  intro w
  rw [run_string_add_sum w (bs l) (bs m) (by rw [bs_size, bs_size]; omega), bs_append]

theorem writtenOf_yes {l : List Int} (h : l.all numOk = true) : writtenOf l = (numsBytes l, true) := by unfold writtenOf; rw [if_pos h]
theorem writtenOf_not {l : List Int} (h : l.all numOk = false) : writtenOf l = ([], false) := by unfold writtenOf; rw [h]; rfl

set_option maxHeartbeats 1000000 in
set_option maxRecDepth 100000 in
theorem refEncode_long (k f t ep ba vo po va : Int) (mem log : Value) (ms : List Int) (es : List Ent) (w : World) (hmem : IntsAt w mem ms) (hlog : LogAt w log es)
    (h1 : 1 ≤ k) (h2 : k ≤ 16) (h3 : ms.length ≤ 5) (h4 : es.length ≤ 24) : Calls Try.prog 11 #[.agg #[.int .i64 k, .int .i64 f, .int .i64 t, .int .i64 ep, .int .i64 ba, .int .i64 vo, .int .i64 po, .int .i64 va, mem, log]] w fun e w' => Below w.heap.size w w' ∧ e = .returned (.tuple #[.string (bs (encOf k [f, t, ep, ba, vo, po, va] ms es).1), .int .i64 (encOf k [f, t, ep, ba, vo, po, va] ms es).2]) := by
  have hmem1 := hmem
  have hlog1 := hlog
  obtain ⟨am, cm, rfl, -⟩ := hmem1
  obtain ⟨al, cl, rfl, -⟩ := hlog1
  obtain ⟨W, hW, hb0, hsz, q, -⟩ := boxed w #[.int .i64 k, .int .i64 f, .int .i64 t, .int .i64 ep, .int .i64 ba, .int .i64 vo, .int .i64 po, .int .i64 va, .slice am ms.length cm, .slice al es.length cl] 25
  have hlogW := hlog.below hb0
  have hmemW := hmem.below hb0
  have q0 : W.cell? ⟨w.heap.size, 0, none⟩ = some (.int .i64 k) := q 0
  have q1 : W.cell? ⟨w.heap.size, 1, none⟩ = some (.int .i64 f) := q 1
  have q2 : W.cell? ⟨w.heap.size, 2, none⟩ = some (.int .i64 t) := q 2
  have q3 : W.cell? ⟨w.heap.size, 3, none⟩ = some (.int .i64 ep) := q 3
  have q4 : W.cell? ⟨w.heap.size, 4, none⟩ = some (.int .i64 ba) := q 4
  have q5 : W.cell? ⟨w.heap.size, 5, none⟩ = some (.int .i64 vo) := q 5
  have q6 : W.cell? ⟨w.heap.size, 6, none⟩ = some (.int .i64 po) := q 6
  have q7 : W.cell? ⟨w.heap.size, 7, none⟩ = some (.int .i64 va) := q 7
  have q8 : W.cell? ⟨w.heap.size, 8, none⟩ = some (.slice am ms.length cm) := q 8
  have q9 : W.cell? ⟨w.heap.size, 9, none⟩ = some (.slice al es.length cl) := q 9
  have hsz' : w.heap.size < W.heap.size := by omega
  clear q hsz
  go_enter Try.func11, Try.ntmps11
  go_wp2_with fail
  clear hW
  refine (numbers_any k f t ep ba vo po va _ _ es _ hlogW h4).mono ?_
  rintro e w1 ⟨hb1, hd, lg, rfl, hhd, hlg⟩
  have hmem1 := hmemW.below hb1
  go_wp2_with fail
  refine (written_any hd _ _ hhd (by simp)).mono ?_
  rintro e w2 ⟨hb2, rfl⟩
  go_wp2_with fail
  refine (written_any _ _ _ (hmem1.below hb2) (by omega)).mono ?_
  rintro e w3 ⟨hb3, rfl⟩
  have hlg3 := (hlg.below hb2).below hb3
  go_wp2_with fail
  refine (written_any _ _ _ hlg3 (by rw [entsNums_length]; omega)).mono ?_
  rintro e w4 ⟨hb4, rfl⟩
  have hb14 : Below W.heap.size W w4 := hb1.trans ((hb2.trans ((hb3.trans (hb4.mono hb3.size)).mono hb2.size)).mono hb1.size)
  have hb04 : Below w.heap.size w w4 := hb0.trans (hb14.mono hb0.size)
  by_cases g1 : (List.all [f, t, ep, ba, vo, po, va] numOk) = true
  · by_cases g2 : ms.all numOk = true
    · by_cases g3 : (entsNums es).all numOk = true
      · rw [writtenOf_yes g1, writtenOf_yes g2, writtenOf_yes g3]
        have r0 := cell_later hb14 q0
        have r9 := cell_later hb14 q9
        have t1 := numsBytes_length [f, t, ep, ba, vo, po, va]
        have t2 := numsBytes_length ms
        have t3 := numsBytes_length (entsNums es)
        have t4 := entsNums_length es
        have t5 : ([f, t, ep, ba, vo, po, va] : List Int).length = 7 := rfl
        have t6 := oneB_length k.toNat
        have t7 := oneB_length ms.length
        have t8 := oneB_length es.length
        have a1 := add_bs (oneB k.toNat) (numsBytes [f, t, ep, ba, vo, po, va]) (by omega)
        have a2 := add_bs (oneB k.toNat ++ numsBytes [f, t, ep, ba, vo, po, va]) (oneB ms.length) (by simp only [List.length_append]; omega)
        have a3 := add_bs (oneB k.toNat ++ (numsBytes [f, t, ep, ba, vo, po, va] ++ oneB ms.length)) (numsBytes ms) (by simp only [List.length_append]; omega)
        have a4 := add_bs (oneB k.toNat ++ (numsBytes [f, t, ep, ba, vo, po, va] ++ (oneB ms.length ++ numsBytes ms))) (oneB es.length) (by simp only [List.length_append]; omega)
        have a5 := add_bs (oneB k.toNat ++ (numsBytes [f, t, ep, ba, vo, po, va] ++ (oneB ms.length ++ (numsBytes ms ++ oneB es.length)))) (numsBytes (entsNums es)) (by simp only [List.length_append]; omega)
        simp only [List.append_assoc] at a1 a2 a3 a4 a5
        clear t1 t2 t3 t4 t5 t6 t7 t8
        clear q0 q1 q2 q3 q4 q5 q6 q7 q8 q9
        go_wp2_with fail
        go_region_held3 (fun w' => w'.cell? ⟨w.heap.size, 0, none⟩ = some (.int .i64 k) ∧ w'.cell? ⟨w.heap.size, 9, none⟩ = some (.slice al es.length cl) ∧ Below w.heap.size w w')
          (first | exact ⟨r0, r9, hb04.drew⟩ | (go_split_ands; exact ⟨cell_later hbn (by assumption), cell_later hbn (by assumption), Below.trans (by assumption) (hbn.mono (Below.size (by assumption)))⟩))
          ((go_at_call 30; refine (one_any _ _ ?_).mono ?_; (omega); rintro e wn ⟨rfl, hbn⟩))
        have hBl := body_length k [f, t, ep, ba, vo, po, va] ms es
        have hyes : Hid (encOf k [f, t, ep, ba, vo, po, va] ms es = (body k [f, t, ep, ba, vo, po, va] ms es ++ sumOf (body k [f, t, ep, ba, vo, po, va] ms es), 0)) := encOf_yes ((msgOk_iff _ _ _ _).2 ⟨⟨h1, h2, h3, h4⟩, g1, g2, g3⟩)
        have hBd : oneB k.toNat ++ (numsBytes [f, t, ep, ba, vo, po, va] ++ (oneB ms.length ++ (numsBytes ms ++ (oneB es.length ++ numsBytes (entsNums es))))) = body k [f, t, ep, ba, vo, po, va] ms es := rfl
        rw [hBd]
        clear hBd a1 a2 a3 a4 a5
        generalize body k [f, t, ep, ba, vo, po, va] ms es = B at *
        have hBl' : B.length ≤ 1000 := by rw [hBl]; simp only [List.length_cons, List.length_nil]; omega
        clear hBl
        have hcl := crc_lt B
        have b1 := add_bs B (oneB (crc B)) (by rw [oneB_length]; omega)
        have b2 := add_bs (B ++ oneB (crc B)) (oneB (crc B / 256)) (by simp only [List.length_append, oneB_length]; omega)
        have b3 := add_bs (B ++ (oneB (crc B) ++ oneB (crc B / 256))) (oneB (crc B / 65536)) (by simp only [List.length_append, oneB_length]; omega)
        have b4 := add_bs (B ++ (oneB (crc B) ++ (oneB (crc B / 256) ++ oneB (crc B / 65536)))) (oneB (crc B / 16777216)) (by simp only [List.length_append, oneB_length]; omega)
        simp only [List.append_assoc] at b1 b2 b3 b4
        go_wp2_with fail
        refine (Sum_any _ _ (by rw [bs_size]; unfold maxLen; omega)).mono ?_
        rintro e w5 ⟨rfl, rfl⟩
        rw [bs_list]
        go_wp2_with fail
        refine (one_any _ _ (by omega)).mono ?_
        rintro e w6 ⟨rfl, hb6⟩
        rw [show ((crc B : Nat) : Int).toNat = crc B by omega]
        go_wp2_with fail
        refine (one_any _ _ (by omega)).mono ?_
        rintro e w7 ⟨rfl, hb7⟩
        rw [show (((crc B : Nat) : Int) / 256).toNat = crc B / 256 by omega]
        go_wp2_with fail
        refine (one_any _ _ (by omega)).mono ?_
        rintro e w8 ⟨rfl, hb8⟩
        rw [show (((crc B : Nat) : Int) / 65536).toNat = crc B / 65536 by omega]
        go_wp2_with fail
        refine (one_any _ _ (by omega)).mono ?_
        rintro e w9 ⟨rfl, hb9⟩
        rw [show (((crc B : Nat) : Int) / 16777216).toNat = crc B / 16777216 by omega]
        go_wp2_with fail
        go_ret2
        have hH := ‹w5.cell? _ = _ ∧ w5.cell? _ = _ ∧ Below w.heap.size w w5›
        refine ⟨hH.2.2.trans ((hb6.trans ((hb7.trans ((hb8.trans (hb9.mono hb8.size)).mono hb7.size)).mono hb6.size)).mono hH.2.2.size), ?_⟩
        rw [hyes.out]
        rfl
      · have g3' : (entsNums es).all numOk = false := by simpa using g3
        rw [writtenOf_yes g1, writtenOf_yes g2, writtenOf_not g3']
        have hE : Hid (encOf k [f, t, ep, ba, vo, po, va] ms es = ([], 1)) := encOf_no (msgOk_false fun h => g3 h.2.2.2)
        clear q0 q1 q2 q3 q4 q5 q6 q7 q8 q9
        go_wp2_with fail
        go_ret2
        exact ⟨hb04, ret_no hE rfl⟩
    · have g2' : ms.all numOk = false := by simpa using g2
      rw [writtenOf_yes g1, writtenOf_not g2']
      have hE : Hid (encOf k [f, t, ep, ba, vo, po, va] ms es = ([], 1)) := encOf_no (msgOk_false fun h => g2 h.2.2.1)
      clear q0 q1 q2 q3 q4 q5 q6 q7 q8 q9
      go_wp2_with fail
      go_ret2
      exact ⟨hb04, ret_no hE rfl⟩
  · have g1' : (List.all [f, t, ep, ba, vo, po, va] numOk) = false := by simpa using g1
    rw [writtenOf_not g1']
    have hE : Hid (encOf k [f, t, ep, ba, vo, po, va] ms es = ([], 1)) := encOf_no (msgOk_false fun h => g1 h.2.1)
    clear q0 q1 q2 q3 q4 q5 q6 q7 q8 q9
    go_wp2_with fail
    go_ret2
    exact ⟨hb04, ret_no hE rfl⟩

theorem refEncode_any (k f t ep ba vo po va : Int) (mem log : Value) (ms : List Int) (es : List Ent) (w : World) (hmem : IntsAt w mem ms) (hlog : LogAt w log es) : Calls Try.prog 11 #[.agg #[.int .i64 k, .int .i64 f, .int .i64 t, .int .i64 ep, .int .i64 ba, .int .i64 vo, .int .i64 po, .int .i64 va, mem, log]] w fun e w' => Below w.heap.size w w' ∧ e = .returned (.tuple #[.string (bs (encOf k [f, t, ep, ba, vo, po, va] ms es).1), .int .i64 (encOf k [f, t, ep, ba, vo, po, va] ms es).2]) := by
  by_cases h : 1 ≤ k ∧ k ≤ 16 ∧ ms.length ≤ 5 ∧ es.length ≤ 24
  · exact refEncode_long k f t ep ba vo po va mem log ms es w hmem hlog h.1 h.2.1 h.2.2.1 h.2.2.2
  · exact refEncode_short k f t ep ba vo po va mem log ms es w hmem hlog h
end Go.Proofs.Ytgieeeeeiggoeaa
