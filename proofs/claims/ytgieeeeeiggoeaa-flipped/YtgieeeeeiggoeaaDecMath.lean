/-
  What Decode answers, as a plain function on bytes; that the program's way and the document's say the same.
-/
import Derived.Test.YtgieeeeeiggoeaaMath
namespace Go.Proofs.Ytgieeeeeiggoeaa

def kindOk (k : Int) : Bool := decide (1 ≤ k) && decide (k ≤ 16)

/-- Is what stands ahead of the sum a message? -/
def decOk (T : List UInt8) : Bool := kindOk (byteAt T 0 : Nat) && (measOf T).2.2

theorem decOk_parts {T : List UInt8} (h : decOk T = true) : kindOk (byteAt T 0 : Nat) = true ∧ byteAt T 15 ≤ 5 ∧ byteAt T (16 + 2 * byteAt T 15) ≤ 24 ∧ T.length = 17 + 2 * byteAt T 15 + 10 * byteAt T (16 + 2 * byteAt T 15) ∧
    measOf T = (byteAt T 15, byteAt T (16 + 2 * byteAt T 15), true) := by
  unfold decOk at h
  rw [Bool.and_eq_true] at h
  by_cases hc : byteAt T 15 ≤ 5 ∧ 16 + 2 * byteAt T 15 < T.length
  · have hm := measOf_in hc
    have h2 := h.2
    rw [hm] at h2
    simp only [Bool.and_eq_true, decide_eq_true_eq] at h2
    refine ⟨h.1, hc.1, h2.1, h2.2, ?_⟩
    rw [hm]
    simp [h2.1, ← h2.2]
  · have h2 := h.2
    rw [measOf_no hc] at h2
    cases h2

theorem decOk_mk {T : List UInt8} (h : kindOk (byteAt T 0 : Nat) = true) (h5 : byteAt T 15 ≤ 5) (h24 : byteAt T (16 + 2 * byteAt T 15) ≤ 24) (hl : T.length = 17 + 2 * byteAt T 15 + 10 * byteAt T (16 + 2 * byteAt T 15)) : decOk T = true := by
  unfold decOk
  rw [h, Bool.true_and, measOf_in ⟨h5, by omega⟩]
  simp [h24, ← hl]

theorem decOk_kind {T : List UInt8} (h : ¬ decOk T = true) (hm : (measOf T).2.2 = true) : kindOk (byteAt T 0 : Nat) = false := by
  unfold decOk at h
  rw [hm, Bool.and_true] at h
  simpa using h

theorem lowByte_toNat (b : UInt8) : lowByte b.toNat = b := by
  unfold lowByte; exact UInt8.ofNat_toNat

theorem oneB_at (T : List UInt8) (p : Nat) (h : p < T.length) : oneB (byteAt T p) = (T.drop p).take 1 := by
  unfold oneB byteAt
  rw [lowByte_toNat, List.getD, List.getElem?_eq_getElem h, List.drop_eq_getElem_cons h]
  rfl

theorem chunk (T : List UInt8) (p a : Nat) : (T.drop p).take a ++ T.drop (p + a) = T.drop p := by
  rw [← List.drop_drop, List.take_append_drop]

theorem numBytes_at (T : List UInt8) (p : Nat) (h : p + 1 < T.length) : numBytes (numAt T p) = (T.drop p).take 2 := by
  have h1 := byteAt_lt T p
  have h2 := byteAt_lt T (p + 1)
  have e : numBytes (numAt T p) = oneB (byteAt T p) ++ oneB (byteAt T (p + 1)) := by
    unfold numBytes oneB numAt
    have a1 : (256 * (byteAt T p : Int) + byteAt T (p + 1) - 1 + 1).toNat = 256 * byteAt T p + byteAt T (p + 1) := by omega
    rw [a1, show (256 * byteAt T p + byteAt T (p + 1)) / 256 = byteAt T p by omega]
    have a2 : lowByte (256 * byteAt T p + byteAt T (p + 1)) = lowByte (byteAt T (p + 1)) := by
      unfold lowByte
      apply UInt8.toNat_inj.1
      simp only [UInt8.toNat_ofNat']
      omega
    rw [a2]
    rfl
  rw [e, oneB_at T p (by omega), oneB_at T (p + 1) h, ← List.drop_drop]
  have : (T.drop p).take 2 = (T.drop p).take (1 + 1) := rfl
  rw [this, List.take_add]

theorem numsBytes_from (T : List UInt8) (p n : Nat) (h : p + 2 * n ≤ T.length) : numsBytes (numsFrom T p n) = (T.drop p).take (2 * n) := by
  induction n with
  | zero => simp [numsFrom, numsBytes]
  | succ n ih =>
    rw [numsFrom_succ, numsBytes_append, numsBytes_one, ih (by omega), numBytes_at T _ (by omega), show 2 * (n + 1) = 2 * n + 2 by omega, List.take_add, List.drop_drop]

theorem entsFrom_nums (T : List UInt8) (p n : Nat) : entsNums (entsFrom T p n) = numsFrom T p (n * 5) := by
  induction n with
  | zero => rfl
  | succ n ih =>
    rw [entsFrom_succ, entsNums_append, entsNums_one, ih, show (n + 1) * 5 = n * 5 + 1 + 1 + 1 + 1 + 1 by omega, numsFrom_succ, numsFrom_succ, numsFrom_succ, numsFrom_succ, numsFrom_succ]
    simp only [List.append_assoc, entAt, Ent.nums]
    rw [show p + 2 * (n * 5) = p + 10 * n by omega, show p + 2 * (n * 5 + 1) = p + 10 * n + 2 by omega, show p + 2 * (n * 5 + 1 + 1) = p + 10 * n + 4 by omega, show p + 2 * (n * 5 + 1 + 1 + 1) = p + 10 * n + 6 by omega, show p + 2 * (n * 5 + 1 + 1 + 1 + 1) = p + 10 * n + 8 by omega]
    rfl

theorem pHead_from (T : List UInt8) : pHead T = numsFrom T 1 7 := rfl

theorem pMems_length (T : List UInt8) : (pMems T).length = byteAt T 15 := numsFrom_length _ _ _
theorem pEnts_length (T : List UInt8) : (pEnts T).length = byteAt T (16 + 2 * byteAt T 15) := entsFrom_length _ _ _

theorem numsFrom_ok (T : List UInt8) (p n : Nat) : (numsFrom T p n).all numOk = true := by
  rw [List.all_eq_true]
  intro x hx
  simp only [numsFrom, List.mem_map] at hx
  obtain ⟨i, _, rfl⟩ := hx
  exact (numOk_iff _).2 (numAt_ok T _)

/-- A message's bytes are those that it was read from. -/
theorem body_parse {T : List UInt8} (hl : T.length = 17 + 2 * byteAt T 15 + 10 * byteAt T (16 + 2 * byteAt T 15)) : body (pKind T) (pHead T) (pMems T) (pEnts T) = T := by
  unfold body
  rw [pMems_length, pEnts_length]
  have e0 : (pKind T).toNat = byteAt T 0 := by unfold pKind; omega
  have e1 : numsBytes (entsNums (pEnts T)) = T.drop (17 + 2 * byteAt T 15) := by
    unfold pEnts
    rw [entsFrom_nums, numsBytes_from T _ _ (by omega)]
    exact List.take_of_length_le (by rw [List.length_drop]; omega)
  have e2 : numsBytes (pMems T) = (T.drop 16).take (2 * byteAt T 15) := numsBytes_from T _ _ (by omega)
  have e3 : numsBytes (pHead T) = (T.drop 1).take 14 := numsBytes_from T 1 7 (by omega)
  rw [e0, e1, e2, e3, oneB_at T 0 (by omega), oneB_at T 15 (by omega), oneB_at T (16 + 2 * byteAt T 15) (by omega)]
  rw [show 17 + 2 * byteAt T 15 = 16 + 2 * byteAt T 15 + 1 by omega, chunk T (16 + 2 * byteAt T 15) 1, chunk T 16 (2 * byteAt T 15), chunk T 15 1, chunk T 1 14, chunk T 0 1, List.drop_zero]

theorem sumOf_length (l : List UInt8) : (sumOf l).length = 4 := rfl

/-- The program's test and the document's are one. -/
theorem decOk_iff (T L : List UInt8) (hL : T ++ sumOf T = L) : decOk T = true ↔ encOf (pKind T) (pHead T) (pMems T) (pEnts T) = (L, 0) := by
  constructor
  · intro h
    obtain ⟨hk, h5, h24, hl, _⟩ := decOk_parts h
    have hb := body_parse hl
    have hok : msgOk (pKind T) (pHead T) (pMems T) (pEnts T) = true := by
      rw [msgOk_iff]
      unfold kindOk at hk
      simp only [Bool.and_eq_true, decide_eq_true_eq] at hk
      refine ⟨⟨hk.1, hk.2, by rw [pMems_length]; exact h5, by rw [pEnts_length]; exact h24⟩, numsFrom_ok T 1 7, numsFrom_ok T _ _, ?_⟩
      unfold pEnts
      rw [entsFrom_nums]
      exact numsFrom_ok T _ _
    rw [encOf_yes hok]
    unfold frame
    rw [hb, hL]
  · intro h
    by_cases hok : msgOk (pKind T) (pHead T) (pMems T) (pEnts T) = true
    · rw [encOf_yes hok] at h
      have hf : frame (pKind T) (pHead T) (pMems T) (pEnts T) = L := congrArg Prod.fst h
      have hlen : (frame (pKind T) (pHead T) (pMems T) (pEnts T)).length = (T ++ sumOf T).length := by rw [hf, hL]
      unfold frame at hlen
      rw [List.length_append, List.length_append, sumOf_length, sumOf_length, body_length, pMems_length, pEnts_length] at hlen
      have h7 : (pHead T).length = 7 := rfl
      rw [h7] at hlen
      obtain ⟨⟨k1, k2, k3, k4⟩, _⟩ := (msgOk_iff _ _ _ _).1 hok
      rw [pMems_length] at k3
      rw [pEnts_length] at k4
      refine decOk_mk ?_ k3 k4 (by omega)
      unfold kindOk
      have e : pKind T = (byteAt T 0 : Nat) := rfl
      rw [e] at k1 k2
      simp only [Bool.and_eq_true, decide_eq_true_eq]
      exact ⟨k1, k2⟩
    · rw [encOf_no (by simpa using hok)] at h
      have h2 : (1 : Int) = 0 := congrArg Prod.snd h
      exact absurd h2 (by decide)

theorem sum_iff (L T : List UInt8) (h : 4 ≤ L.length) (hT : T = L.take (L.length - 4)) : T ++ sumOf T = L ↔ L.drop (L.length - 4) = sumOf T := by
  subst hT
  constructor
  · intro e
    have := congrArg (List.drop (L.length - 4)) e
    rw [List.drop_append_of_le_length (by rw [List.length_take]; omega), List.drop_of_length_le (by rw [List.length_take]; omega), List.nil_append] at this
    exact this.symm
  · intro e
    rw [← e, List.take_append_drop]

/-- What Decode answers: the message's numbers, its lists, the error. -/
structure Dec where
  k : Int
  f : Int
  t : Int
  ep : Int
  ba : Int
  vo : Int
  po : Int
  va : Int
  ms : List Int
  es : List Ent
  err : Int

def Dec.no (e : Int) : Dec := ⟨0, 0, 0, 0, 0, 0, 0, 0, [], [], e⟩

def Dec.yes (T : List UInt8) : Dec := ⟨pKind T, numAt T 1, numAt T 3, numAt T 5, numAt T 7, numAt T 9, numAt T 11, numAt T 13, pMems T, pEnts T, 0⟩

def decOf (L : List UInt8) : Dec :=
  if L.length < 21 then Dec.no 1
  else if L.drop (L.length - 4) ≠ sumOf (L.take (L.length - 4)) then Dec.no 2
  else if decOk (L.take (L.length - 4)) then Dec.yes (L.take (L.length - 4))
  else Dec.no 1

theorem decOf_a {L : List UInt8} (h : L.length < 21) : decOf L = Dec.no 1 := by unfold decOf; rw [if_pos h]
theorem decOf_b {L : List UInt8} (h : ¬ L.length < 21) (h2 : L.drop (L.length - 4) ≠ sumOf (L.take (L.length - 4))) : decOf L = Dec.no 2 := by unfold decOf; rw [if_neg h, if_pos h2]
theorem decOf_c {L : List UInt8} (h : ¬ L.length < 21) (h2 : ¬ L.drop (L.length - 4) ≠ sumOf (L.take (L.length - 4))) (h3 : ¬ decOk (L.take (L.length - 4)) = true) : decOf L = Dec.no 1 := by unfold decOf; rw [if_neg h, if_neg h2, if_neg h3]
theorem decOf_d {L : List UInt8} (h : ¬ L.length < 21) (h2 : ¬ L.drop (L.length - 4) ≠ sumOf (L.take (L.length - 4))) (h3 : decOk (L.take (L.length - 4)) = true) : decOf L = Dec.yes (L.take (L.length - 4)) := by unfold decOf; rw [if_neg h, if_neg h2, if_pos h3]

theorem decOf_ms (L : List UInt8) : (decOf L).ms.length ≤ 5 ∧ (decOf L).es.length ≤ 24 := by
  by_cases h : L.length < 21
  · rw [decOf_a h]; exact ⟨Nat.zero_le _, Nat.zero_le _⟩
  · by_cases h2 : L.drop (L.length - 4) ≠ sumOf (L.take (L.length - 4))
    · rw [decOf_b h h2]; exact ⟨Nat.zero_le _, Nat.zero_le _⟩
    · by_cases h3 : decOk (L.take (L.length - 4)) = true
      · rw [decOf_d h h2 h3]
        obtain ⟨_, h5, h24, _⟩ := decOk_parts h3
        exact ⟨by show (pMems _).length ≤ 5; rw [pMems_length]; exact h5, by show (pEnts _).length ≤ 24; rw [pEnts_length]; exact h24⟩
      · rw [decOf_c h h2 h3]; exact ⟨Nat.zero_le _, Nat.zero_le _⟩

end Go.Proofs.Ytgieeeeeiggoeaa
