import Derived.Test.YtgieeeeeiggoeaaFlipMath
namespace Go.Proofs.Ytgieeeeeiggoeaa

/-- A bit of a text turned: bit 8 i + j is the one of value 2^j of byte i. -/
def flipL (L : List UInt8) (k : Nat) : List UInt8 := L.set (k / 8) (L.getD (k / 8) 0 ^^^ UInt8.ofNat (2 ^ (k % 8)))

theorem flipL_length (L : List UInt8) (k : Nat) : (flipL L k).length = L.length := by simp [flipL]

theorem flipL_twice (L : List UInt8) (k : Nat) (h : k < 8 * L.length) : flipL (flipL L k) k = L := by
  have hi : k / 8 < L.length := by omega
  unfold flipL
  rw [List.set_set]
  have e : (L.set (k / 8) (L.getD (k / 8) 0 ^^^ UInt8.ofNat (2 ^ (k % 8)))).getD (k / 8) 0 = L.getD (k / 8) 0 ^^^ UInt8.ofNat (2 ^ (k % 8)) := by
    rw [List.getD, List.getElem?_set_self hi]; rfl
  rw [e, UInt8.xor_assoc, UInt8.xor_self, UInt8.xor_zero]
  rw [List.getD, List.getElem?_eq_getElem hi]
  exact List.set_getElem_self hi

theorem crcFrom_xor (x y : Nat) (B : List UInt8) : crcFrom (x ^^^ y) B = crcFrom x B ^^^ crcBits (8 * B.length) y := by
  induction B generalizing x y with
  | nil => rfl
  | cons b B ih =>
    show crcFrom (crcByte (x ^^^ y) b.toNat) B = crcFrom (crcByte x b.toNat) B ^^^ crcBits (8 * (B.length + 1)) y
    have e : crcByte (x ^^^ y) b.toNat = crcByte x b.toNat ^^^ crcBits 8 y := by
      unfold crcByte
      rw [Nat.xor_assoc, Nat.xor_comm y, ← Nat.xor_assoc, crcBits_xor]
    rw [e, ih, show 8 * (B.length + 1) = 8 + 8 * B.length by omega, crcBits_add]

theorem crcFrom_set (c : Nat) (L : List UInt8) (i : Nat) (d : UInt8) (h : i < L.length) : crcFrom c (L.set i (L.getD i 0 ^^^ d)) = crcFrom c L ^^^ crcBits (8 * (L.length - i)) d.toNat := by
  induction L generalizing c i with
  | nil => simp at h
  | cons b L ih =>
    cases i with
    | zero =>
      show crcFrom (crcByte c (b ^^^ d).toNat) L = crcFrom (crcByte c b.toNat) L ^^^ crcBits (8 * (L.length + 1)) d.toNat
      have e : crcByte c (b ^^^ d).toNat = crcByte c b.toNat ^^^ crcBits 8 d.toNat := by
        unfold crcByte
        rw [UInt8.toNat_xor, ← Nat.xor_assoc, crcBits_xor]
      rw [e, crcFrom_xor, show 8 * (L.length + 1) = 8 + 8 * L.length by omega, crcBits_add]
    | succ i =>
      have h' : i < L.length := by simpa using h
      show crcFrom (crcByte c b.toNat) (L.set i (L.getD i 0 ^^^ d)) = crcFrom (crcByte c b.toNat) L ^^^ crcBits (8 * (L.length + 1 - (i + 1))) d.toNat
      rw [ih _ i h', Nat.add_sub_add_right]

theorem crcBits_unit (j : Nat) (h : j < 8) : crcBits j (UInt8.ofNat (2 ^ j)).toNat = 1 := by
  have h8 : j = 0 ∨ j = 1 ∨ j = 2 ∨ j = 3 ∨ j = 4 ∨ j = 5 ∨ j = 6 ∨ j = 7 := by omega
  rcases h8 with rfl | rfl | rfl | rfl | rfl | rfl | rfl | rfl <;> decide

/-- What a turned bit does to the sum. -/
theorem crcFrom_flip (c : Nat) (L : List UInt8) (k : Nat) (h : k < 8 * L.length) : crcFrom c (flipL L k) = crcFrom c L ^^^ uOf (8 * L.length - k) := by
  unfold flipL
  rw [crcFrom_set c L (k / 8) _ (by omega), show 8 * (L.length - k / 8) = k % 8 + (8 * L.length - k) by omega, crcBits_add, crcBits_unit _ (by omega)]
  rfl

theorem crcBits_byte (y : Nat) : crcBits 8 (256 * y) = y := by
  have e : ∀ z, crcBit (2 * z) = z := by
    intro z
    unfold crcBit
    rw [if_neg (by omega)]
    omega
  have h : 256 * y = 2 * (2 * (2 * (2 * (2 * (2 * (2 * (2 * y))))))) := by omega
  rw [h]
  show crcBit (crcBit (crcBit (crcBit (crcBit (crcBit (crcBit (crcBit (2 * (2 * (2 * (2 * (2 * (2 * (2 * (2 * y))))))))))))))) = y
  rw [e, e, e, e, e, e, e, e]

theorem crcBits_step (c x : Nat) : crcBits 8 (c ^^^ x) = crcByte c (x % 256) ^^^ (x / 256) := by
  have hx : x = (x % 256) ^^^ (256 * (x / 256)) := by
    apply Nat.eq_of_testBit_eq
    intro i
    rw [Nat.testBit_xor, show (256 : Nat) = 2 ^ 8 from rfl, Nat.testBit_mod_two_pow, Nat.testBit_two_pow_mul]
    by_cases h : i < 8
    · simp [h, Nat.not_le.2 h]
    · have h8 : 8 ≤ i := Nat.le_of_not_lt h
      simp only [h, h8, decide_true, decide_false, Bool.false_and, Bool.false_xor, Bool.true_and]
      rw [Nat.testBit_div_two_pow, Nat.sub_add_cancel h8]
  have h1 : crcBits 8 (c ^^^ x) = crcBits 8 (c ^^^ ((x % 256) ^^^ (256 * (x / 256)))) := by rw [← hx]
  rw [h1, ← Nat.xor_assoc, crcBits_xor, crcBits_byte]
  rfl

theorem lowByte_nat (n : Nat) : (lowByte n).toNat = n % 256 := by unfold lowByte; simp

/-- What the sum of all of a frame comes to. -/
def resid : Nat := crcBits 32 4294967295

theorem xor_ones' (c : Nat) (h : c < 4294967296) : c ^^^ (4294967295 - c) = 4294967295 := by
  have h1 : (2 ^ 32 - (c + 1)) = 4294967295 - c := by omega
  apply Nat.eq_of_testBit_eq
  intro i
  rw [Nat.testBit_xor, ← h1, Nat.testBit_two_pow_sub_succ (by omega), show (4294967295 : Nat) = 2 ^ 32 - 1 from rfl, Nat.testBit_two_pow_sub_one]
  by_cases hi : i < 32
  · simp [hi]
  · have hc : c.testBit i = false := Nat.testBit_lt_two_pow (Nat.lt_of_lt_of_le (show c < 2 ^ 32 by omega) (Nat.pow_le_pow_right (by omega) (by omega)))
    simp [hi, hc]

theorem resid_sum (T : List UInt8) : crcFrom 4294967295 (T ++ sumOf T) = resid := by
  rw [crcFrom_append]
  have hc : crcFrom 4294967295 T < 4294967296 := crcRaw_lt T
  have hs : crc T = 4294967295 - crcFrom 4294967295 T := rfl
  unfold sumOf
  generalize hx : crc T = x at *
  have hxl : x < 4294967296 := by omega
  generalize crcFrom 4294967295 T = c at *
  show crcByte (crcByte (crcByte (crcByte c (lowByte x).toNat) (lowByte (x / 256)).toNat) (lowByte (x / 65536)).toNat) (lowByte (x / 16777216)).toNat = resid
  have h1 : resid = crcBits (8 + (8 + (8 + 8))) (c ^^^ x) := by rw [hs, xor_ones' c hc]; rfl
  rw [h1, crcBits_add, crcBits_add, crcBits_add, crcBits_step, crcBits_step, crcBits_step, crcBits_step, lowByte_nat, lowByte_nat, lowByte_nat, lowByte_nat]
  rw [Nat.div_div_eq_div_mul, Nat.div_div_eq_div_mul, Nat.div_div_eq_div_mul]
  rw [show x / (256 * 256 * 256 * 256) = 0 from Nat.div_eq_of_lt (by omega), Nat.xor_zero]

theorem decOf_resid {L : List UInt8} (h : 21 ≤ L.length) (hr : crcFrom 4294967295 L ≠ resid) : decOf L = Dec.no 2 := by
  refine decOf_b (by omega) ?_
  intro h2
  apply hr
  have := resid_sum (L.take (L.length - 4))
  rw [← h2, List.take_append_drop] at this
  exact this

theorem xor_cancel {a b : Nat} (h : a ^^^ b = a) : b = 0 := by
  have h2 := congrArg (fun x => a ^^^ x) h
  simpa [← Nat.xor_assoc] using h2

def flips (F : List UInt8) (ks : List Nat) : List UInt8 := ks.foldl flipL F

theorem flips_length (F : List UInt8) (ks : List Nat) : (flips F ks).length = F.length := by
  unfold flips
  induction ks generalizing F with
  | nil => rfl
  | cons k ks ih =>
    rw [List.foldl_cons, ih, flipL_length]

theorem flips_snoc (F : List UInt8) (ks : List Nat) (k : Nat) : flips F (ks ++ [k]) = flipL (flips F ks) k := by
  unfold flips; rw [List.foldl_append]; rfl

/-- At most three turned bits of a frame: it is as it was, or it is corrupt. -/
theorem flips_told (F : List UInt8) (hres : crcFrom 4294967295 F = resid) (h0 : 21 ≤ F.length) (h1 : F.length ≤ 271) (ks : List Nat) (h3 : ks.length ≤ 3) (hk : ∀ k ∈ ks, k < 8 * F.length) :
    flips F ks = F ∨ decOf (flips F ks) = Dec.no 2 := by
  match ks, h3, hk with
  | [], _, _ => exact .inl rfl
  | [a], _, hk =>
    have ha := hk a (by simp)
    refine .inr (decOf_resid (by rw [flips_length]; exact h0) ?_)
    show crcFrom 4294967295 (flipL F a) ≠ resid
    rw [crcFrom_flip _ F a ha, hres]
    intro h
    exact uOf_ne _ (xor_cancel h)
  | [a, b], _, hk =>
    have ha := hk a (by simp)
    have hb := hk b (by simp)
    by_cases hab : a = b
    · subst hab
      exact .inl (flipL_twice F a ha)
    · refine .inr (decOf_resid (by rw [flips_length]; exact h0) ?_)
      show crcFrom 4294967295 (flipL (flipL F a) b) ≠ resid
      rw [crcFrom_flip _ _ b (by rw [flipL_length]; exact hb), crcFrom_flip _ F a ha, hres, flipL_length, Nat.xor_assoc]
      intro h
      have := uOf_inj (by omega) (by omega) (by omega) (by omega) (xor_cancel h)
      omega
  | [a, b, c], _, hk =>
    have ha := hk a (by simp)
    have hb := hk b (by simp)
    have hc := hk c (by simp)
    refine .inr (decOf_resid (by rw [flips_length]; exact h0) ?_)
    show crcFrom 4294967295 (flipL (flipL (flipL F a) b) c) ≠ resid
    rw [crcFrom_flip _ _ c (by rw [flipL_length, flipL_length]; exact hc), crcFrom_flip _ _ b (by rw [flipL_length]; exact hb), crcFrom_flip _ F a ha, hres, flipL_length, flipL_length, flipL_length, Nat.xor_assoc, Nat.xor_assoc, ← Nat.xor_assoc (uOf _)]
    intro h
    exact uOf_three (by omega) (by omega) (by omega) (by omega) (by omega) (by omega) (xor_cancel h)
  | a :: b :: c :: d :: ks, h3, _ => simp at h3

end Go.Proofs.Ytgieeeeeiggoeaa
