/-
  A message comes back out of its bytes: nothing of the program here.
-/
import Derived.Test.YtgieeeeeiggoeaaFlipList
namespace Go.Proofs.Ytgieeeeeiggoeaa

theorem getD_append_left (a b : List UInt8) (i : Nat) (h : i < a.length) : byteAt (a ++ b) i = byteAt a i := by
  unfold byteAt; rw [List.getD, List.getElem?_append_left h, List.getD]

theorem getD_append_right (a b : List UInt8) (i : Nat) : byteAt (a ++ b) (a.length + i) = byteAt b i := by
  unfold byteAt; rw [List.getD, List.getElem?_append_right (by omega), List.getD, Nat.add_sub_cancel_left]

theorem byteAt_one (n : Nat) (h : n < 256) : byteAt (oneB n) 0 = n := by
  unfold byteAt oneB lowByte
  simp
  omega

theorem numAt_bytes (n : Int) (h : -1 ≤ n ∧ n ≤ 65534) : numAt (numBytes n) 0 = n := by
  unfold numAt byteAt numBytes lowByte
  simp
  omega

theorem numAt_left (a b : List UInt8) (i : Nat) (h : i + 1 < a.length) : numAt (a ++ b) i = numAt a i := by
  unfold numAt; rw [getD_append_left a b i (by omega), getD_append_left a b (i + 1) h]

theorem numAt_right (a b : List UInt8) (i : Nat) : numAt (a ++ b) (a.length + i) = numAt b i := by
  unfold numAt; rw [getD_append_right, Nat.add_assoc, getD_append_right]

/-- Numbers come back out of their bytes. -/
theorem numsFrom_bytes (a b : List UInt8) (l : List Int) (h : l.all numOk = true) : numsFrom (a ++ (numsBytes l ++ b)) a.length l.length = l := by
  induction l generalizing a with
  | nil => rfl
  | cons x l ih =>
    rw [List.all_cons, Bool.and_eq_true] at h
    have hx := (numOk_iff x).1 h.1
    have e : numsBytes (x :: l) = numBytes x ++ numsBytes l := rfl
    have key : numsFrom (a ++ (numsBytes (x :: l) ++ b)) a.length (l.length + 1) = numAt (a ++ (numsBytes (x :: l) ++ b)) a.length :: numsFrom (a ++ (numsBytes (x :: l) ++ b)) (a.length + 2) l.length := by
      unfold numsFrom
      rw [List.range_succ_eq_map, List.map_cons, List.map_map]
      congr 1
      apply List.map_congr_left
      intro i _
      show numAt _ _ = numAt _ _
      congr 1
      show a.length + 2 * (i + 1) = a.length + 2 + 2 * i
      omega
    rw [List.length_cons, key, e]
    have h1 : numAt (a ++ (numBytes x ++ numsBytes l ++ b)) a.length = x := by
      have := numAt_right a (numBytes x ++ numsBytes l ++ b) 0
      rw [Nat.add_zero] at this
      rw [this, List.append_assoc, numAt_left _ _ 0 (by rw [numBytes_length]; omega), numAt_bytes x hx]
    have h2 : numsFrom (a ++ (numBytes x ++ numsBytes l ++ b)) (a.length + 2) l.length = l := by
      have := ih (a ++ numBytes x) h.2
      rw [List.length_append, numBytes_length] at this
      rw [show a ++ (numBytes x ++ numsBytes l ++ b) = a ++ numBytes x ++ (numsBytes l ++ b) by simp only [List.append_assoc]]
      exact this
    rw [h1, h2]

theorem ents_inj : ∀ (a b : List Ent), entsNums a = entsNums b → a = b
  | [], [], _ => rfl
  | [], y :: b, h => by
    have := congrArg List.length h
    rw [entsNums_length, entsNums_length] at this
    simp at this
  | x :: a, [], h => by
    have := congrArg List.length h
    rw [entsNums_length, entsNums_length] at this
    simp at this
  | x :: a, y :: b, h => by
    have e1 : entsNums (x :: a) = x.client :: x.seq :: x.kind :: x.key :: x.value :: entsNums a := rfl
    have e2 : entsNums (y :: b) = y.client :: y.seq :: y.kind :: y.key :: y.value :: entsNums b := rfl
    rw [e1, e2] at h
    injection h with h1 h
    injection h with h2 h
    injection h with h3 h
    injection h with h4 h
    injection h with h5 h
    rw [ents_inj a b h]
    obtain ⟨a1, a2, a3, a4, a5⟩ := x
    obtain ⟨b1, b2, b3, b4, b5⟩ := y
    simp only at h1 h2 h3 h4 h5
    rw [h1, h2, h3, h4, h5]

/-- A message comes back out of its bytes. -/
theorem parse_body (k : Int) (hd ms : List Int) (es : List Ent) (h7 : hd.length = 7) (hok : msgOk k hd ms es = true) :
    pKind (body k hd ms es) = k ∧ pHead (body k hd ms es) = hd ∧ pMems (body k hd ms es) = ms ∧ pEnts (body k hd ms es) = es ∧ byteAt (body k hd ms es) 15 = ms.length ∧ byteAt (body k hd ms es) (16 + 2 * ms.length) = es.length := by
  obtain ⟨⟨h1, h2, h3, h4⟩, g1, g2, g3⟩ := (msgOk_iff _ _ _ _).1 hok
  have e0 : byteAt (body k hd ms es) 0 = k.toNat := by
    unfold body
    rw [getD_append_left _ _ 0 (by rw [oneB_length]; omega), byteAt_one _ (by omega)]
  have e1 : numsFrom (body k hd ms es) 1 7 = hd := by
    have := numsFrom_bytes (oneB k.toNat) (oneB ms.length ++ (numsBytes ms ++ (oneB es.length ++ numsBytes (entsNums es)))) hd g1
    rw [oneB_length, h7] at this
    exact this
  have e2 : byteAt (body k hd ms es) 15 = ms.length := by
    have hb : body k hd ms es = (oneB k.toNat ++ numsBytes hd) ++ (oneB ms.length ++ (numsBytes ms ++ (oneB es.length ++ numsBytes (entsNums es)))) := by unfold body; simp only [List.append_assoc]
    have hl : (oneB k.toNat ++ numsBytes hd).length = 15 := by rw [List.length_append, oneB_length, numsBytes_length, h7]
    have := getD_append_right (oneB k.toNat ++ numsBytes hd) (oneB ms.length ++ (numsBytes ms ++ (oneB es.length ++ numsBytes (entsNums es)))) 0
    rw [hl, ← hb, Nat.add_zero] at this
    rw [this, getD_append_left _ _ 0 (by rw [oneB_length]; omega), byteAt_one _ (by omega)]
  have e3 : numsFrom (body k hd ms es) 16 ms.length = ms := by
    have hb : body k hd ms es = (oneB k.toNat ++ numsBytes hd ++ oneB ms.length) ++ (numsBytes ms ++ (oneB es.length ++ numsBytes (entsNums es))) := by unfold body; simp only [List.append_assoc]
    have hl : (oneB k.toNat ++ numsBytes hd ++ oneB ms.length).length = 16 := by rw [List.length_append, List.length_append, oneB_length, oneB_length, numsBytes_length, h7]
    have := numsFrom_bytes (oneB k.toNat ++ numsBytes hd ++ oneB ms.length) (oneB es.length ++ numsBytes (entsNums es)) ms g2
    rw [hl, ← hb] at this
    exact this
  have e4 : byteAt (body k hd ms es) (16 + 2 * ms.length) = es.length := by
    have hb : body k hd ms es = (oneB k.toNat ++ numsBytes hd ++ oneB ms.length ++ numsBytes ms) ++ (oneB es.length ++ numsBytes (entsNums es)) := by unfold body; simp only [List.append_assoc]
    have hl : (oneB k.toNat ++ numsBytes hd ++ oneB ms.length ++ numsBytes ms).length = 16 + 2 * ms.length := by rw [List.length_append, List.length_append, List.length_append, oneB_length, oneB_length, numsBytes_length, numsBytes_length, h7]
    have := getD_append_right (oneB k.toNat ++ numsBytes hd ++ oneB ms.length ++ numsBytes ms) (oneB es.length ++ numsBytes (entsNums es)) 0
    rw [hl, ← hb, Nat.add_zero] at this
    rw [this, getD_append_left _ _ 0 (by rw [oneB_length]; omega), byteAt_one _ (by omega)]
  have e5 : numsFrom (body k hd ms es) (17 + 2 * ms.length) (es.length * 5) = entsNums es := by
    have hb : body k hd ms es = (oneB k.toNat ++ numsBytes hd ++ oneB ms.length ++ numsBytes ms ++ oneB es.length) ++ (numsBytes (entsNums es) ++ []) := by unfold body; simp only [List.append_assoc, List.append_nil]
    have hl : (oneB k.toNat ++ numsBytes hd ++ oneB ms.length ++ numsBytes ms ++ oneB es.length).length = 17 + 2 * ms.length := by rw [List.length_append, List.length_append, List.length_append, List.length_append, oneB_length, oneB_length, oneB_length, numsBytes_length, numsBytes_length, h7]; omega
    have := numsFrom_bytes (oneB k.toNat ++ numsBytes hd ++ oneB ms.length ++ numsBytes ms ++ oneB es.length) [] (entsNums es) g3
    rw [hl, ← hb, entsNums_length, Nat.mul_comm 5 es.length] at this
    exact this
  refine ⟨?_, e1, ?_, ?_, e2, e4⟩
  · unfold pKind; rw [e0]; omega
  · unfold pMems; rw [e2]; exact e3
  · apply ents_inj
    unfold pEnts
    rw [e2, e4, entsFrom_nums, e5]

/-- What Decode answers of a message's own bytes. -/
theorem decOf_frame (k f t ep ba vo po va : Int) (ms : List Int) (es : List Ent) (hok : msgOk k [f, t, ep, ba, vo, po, va] ms es = true) :
    decOf (frame k [f, t, ep, ba, vo, po, va] ms es) = ⟨k, f, t, ep, ba, vo, po, va, ms, es, 0⟩ := by
  obtain ⟨p1, p2, p3, p4, p5, p6⟩ := parse_body k [f, t, ep, ba, vo, po, va] ms es rfl hok
  have hT : (frame k [f, t, ep, ba, vo, po, va] ms es).take ((frame k [f, t, ep, ba, vo, po, va] ms es).length - 4) = body k [f, t, ep, ba, vo, po, va] ms es := by
    unfold frame
    rw [List.length_append, sumOf_length, Nat.add_sub_cancel, List.take_left]
  have hD : (frame k [f, t, ep, ba, vo, po, va] ms es).drop ((frame k [f, t, ep, ba, vo, po, va] ms es).length - 4) = sumOf (body k [f, t, ep, ba, vo, po, va] ms es) := by
    unfold frame
    rw [List.length_append, sumOf_length, Nat.add_sub_cancel, List.drop_left]
  have hl : (frame k [f, t, ep, ba, vo, po, va] ms es).length = 21 + 2 * ms.length + 10 * es.length := by
    unfold frame
    rw [List.length_append, sumOf_length, body_length]
    simp only [List.length_cons, List.length_nil]
    omega
  have hdo : decOk (body k [f, t, ep, ba, vo, po, va] ms es) = true :=
    (decOk_iff _ _ rfl).2 (by rw [p1, p2, p3, p4]; exact encOf_yes hok)
  have h := decOf_d (L := frame k [f, t, ep, ba, vo, po, va] ms es) (by omega) (by rw [hT, hD]; simp) (by rw [hT]; exact hdo)
  rw [h, hT]
  unfold Dec.yes
  rw [p1, p3, p4]
  unfold pHead at p2
  injection p2 with q1 p2
  injection p2 with q2 p2
  injection p2 with q3 p2
  injection p2 with q4 p2
  injection p2 with q5 p2
  injection p2 with q6 p2
  injection p2 with q7 p2
  rw [q1, q2, q3, q4, q5, q6, q7]

theorem frame_length (k f t ep ba vo po va : Int) (ms : List Int) (es : List Ent) : (frame k [f, t, ep, ba, vo, po, va] ms es).length = 21 + 2 * ms.length + 10 * es.length := by
  unfold frame
  rw [List.length_append, sumOf_length, body_length]
  simp only [List.length_cons, List.length_nil]
  omega

theorem byteAt_take (T : List UInt8) (n i : Nat) (h : i < n) : byteAt (T.take n) i = byteAt T i := by
  unfold byteAt; rw [List.getD, List.getElem?_take_of_lt h, List.getD]

/-- Cut bytes are none. -/
theorem decOf_cut (k f t ep ba vo po va : Int) (ms : List Int) (es : List Ent) (hok : msgOk k [f, t, ep, ba, vo, po, va] ms es = true) (c : Nat) (hc : c < (frame k [f, t, ep, ba, vo, po, va] ms es).length) :
    ∃ e, decOf ((frame k [f, t, ep, ba, vo, po, va] ms es).take c) = Dec.no e ∧ e ≠ 0 := by
  obtain ⟨p1, p2, p3, p4, p5, p6⟩ := parse_body k [f, t, ep, ba, vo, po, va] ms es rfl hok
  have hl := frame_length k f t ep ba vo po va ms es
  have hbl := body_length k [f, t, ep, ba, vo, po, va] ms es
  simp only [List.length_cons, List.length_nil] at hbl
  generalize hP : (frame k [f, t, ep, ba, vo, po, va] ms es).take c = P
  have hPl : P.length = c := by rw [← hP, List.length_take]; omega
  by_cases h : P.length < 21
  · exact ⟨1, decOf_a h, by decide⟩
  · by_cases h2 : P.drop (P.length - 4) ≠ sumOf (P.take (P.length - 4))
    · exact ⟨2, decOf_b h h2, by decide⟩
    · by_cases h3 : decOk (P.take (P.length - 4)) = true
      · exfalso
        obtain ⟨_, q5, q24, ql, _⟩ := decOk_parts h3
        have hPT : P.take (P.length - 4) = (body k [f, t, ep, ba, vo, po, va] ms es).take (c - 4) := by
          rw [hPl, ← hP, List.take_take, Nat.min_eq_left (by omega)]
          unfold frame
          rw [List.take_append_of_le_length (by omega)]
        rw [hPT] at q5 q24 ql
        have b15 : byteAt ((body k [f, t, ep, ba, vo, po, va] ms es).take (c - 4)) 15 = ms.length := by rw [byteAt_take _ _ _ (by omega), p5]
        rw [b15] at ql q24
        rw [List.length_take, Nat.min_eq_left (by omega)] at ql
        have b16 : byteAt ((body k [f, t, ep, ba, vo, po, va] ms es).take (c - 4)) (16 + 2 * ms.length) = es.length := by rw [byteAt_take _ _ _ (by omega), p6]
        rw [b16] at ql
        omega
      · exact ⟨1, decOf_c h h2 h3, by decide⟩
end Go.Proofs.Ytgieeeeeiggoeaa
