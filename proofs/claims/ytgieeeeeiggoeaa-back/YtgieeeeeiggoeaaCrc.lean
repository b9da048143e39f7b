import Derived.Test.YtgieeeeeiggoeaaMath
import Derived.Test.YtgieeeeeiggoeaaProg
import Derived.WalkKit
import Derived.WalkSpells
import Derived.WalkLawsBesides
namespace Go.Proofs.Ytgieeeeeiggoeaa
open Go.RowKit

theorem ret_int {k : IntKind} {a b : Int} (h : a = b) : Ending.returned (.int k a) = .returned (.int k b) := by rw [h]

theorem and_one_u32 (c : Nat) (h : c < 4294967296) : bits .and .u32 (c : Int) 1 = ((c % 2 : Nat) : Int) := by
  have := u32_and_nat c 1 h (by omega)
  rw [show ((1 : Int) = ((1 : Nat) : Int)) from rfl, this, Nat.and_one_is_mod]

theorem xor_poly_u32 (c : Nat) (h : c < 4294967296) : bits .xor .u32 (c : Int) 3988292384 = ((c ^^^ 3988292384 : Nat) : Int) := by
  have := u32_xor_nat c 3988292384 h (by omega)
  exact this

theorem wrap_i64_nat (n : Nat) (h : n < 9223372036854775808) : IntKind.i64.wrap (n : Int) = (n : Int) := by
  have e : IntKind.i64.wrap (n : Int) = if (true && decide ((n : Int) % 18446744073709551616 ≥ 9223372036854775808)) = true then (n : Int) % 18446744073709551616 - 18446744073709551616 else (n : Int) % 18446744073709551616 := rfl
  rw [e]
  have : ((n : Int) % 18446744073709551616) = n := by omega
  simp only [this]
  rw [if_neg]
  simp only [Bool.true_and, decide_eq_true_eq]
  omega

theorem i64_xor_nat (a b : Nat) (ha : a < 9223372036854775808) (hb : b < 9223372036854775808) : bits .xor .i64 (a : Int) (b : Int) = ((a ^^^ b : Nat) : Int) := by
  have hx : a ^^^ b < 2 ^ 63 := Nat.xor_lt_two_pow (by omega) (by omega)
  have h1 : (BitVec.ofInt 64 (a : Int)).toNat = a := by
    rw [BitVec.ofInt_natCast, BitVec.toNat_ofNat]; exact Nat.mod_eq_of_lt (by omega)
  have h2 : (BitVec.ofInt 64 (b : Int)).toNat = b := by
    rw [BitVec.ofInt_natCast, BitVec.toNat_ofNat]; exact Nat.mod_eq_of_lt (by omega)
  show IntKind.i64.wrap ((BitVec.ofInt 64 (a : Int) ^^^ BitVec.ofInt 64 (b : Int)).toNat : Int) = _
  rw [BitVec.toNat_xor, h1, h2]
  exact wrap_i64_nat _ (by omega)

set_option maxHeartbeats 400000 in
theorem shift_any (c : Nat) (w : World) (h1 : c < 4294967296) :
    Calls Try.prog 77 #[.int .u32 (c : Int)] w fun e w' => e = .returned (.int .u32 (crcBit c : Nat)) ∧ w' = w := by
  have ha := and_one_u32 c h1
  have hx := xor_poly_u32 (c / 2) (by omega)
  have hx' : bits .xor .u32 ((c : Int) / 2) 3988292384 = ((c / 2 ^^^ 3988292384 : Nat) : Int) := by rw [← hx]; rfl
  have H1 : Hid (bits .and .u32 (c : Int) 1 = ((c % 2 : Nat) : Int)) := ha
  have H2 : Hid (bits .xor .u32 ((c : Int) / 2) 3988292384 = ((c / 2 ^^^ 3988292384 : Nat) : Int)) := hx'
  clear ha hx hx'
  go_enter Try.func77, Try.ntmps77
  go_wp2
  · go_ret
    refine ⟨ret_int ?_, rfl⟩
    rename_i h
    rw [H1.out] at h
    have hc : c % 2 = 1 := by simp at h; omega
    rw [H2.out]; unfold crcBit; rw [if_pos hc]
  · go_ret
    refine ⟨ret_int ?_, rfl⟩
    rename_i h
    rw [H1.out] at h
    have hc : ¬ c % 2 = 1 := by simp at h; omega
    unfold crcBit; rw [if_neg hc]; rfl

theorem xor_byte_u32 (c : Nat) (b : UInt8) (h : c < 4294967296) : bits .xor .u32 (c : Int) (b.toNat : Int) = ((c ^^^ b.toNat : Nat) : Int) :=
  u32_xor_nat c b.toNat h (by have := b.toNat_lt; omega)

theorem xor_ones (c : Nat) (h : c < 4294967296) : 4294967295 ^^^ c = 4294967295 - c := by
  have h2 := BitVec.toNat_not (x := BitVec.ofNat 32 c)
  have h3 : (~~~ (BitVec.ofNat 32 c)) = BitVec.allOnes 32 ^^^ BitVec.ofNat 32 c := by
    rw [BitVec.allOnes_xor]
  rw [h3, BitVec.toNat_xor, BitVec.toNat_allOnes, BitVec.toNat_ofNat, Nat.mod_eq_of_lt (by omega)] at h2
  simpa using h2

theorem not_u32 (c : Nat) (h : c < 4294967296) : bits .xor .u32 IntKind.u32.max (c : Int) = ((4294967295 - c : Nat) : Int) := by
  have e : IntKind.u32.max = ((4294967295 : Nat) : Int) := by decide
  rw [e, u32_xor_nat _ _ (by omega) h, xor_ones c h]

set_option maxHeartbeats 400000 in
theorem checksum_any (s : ByteArray) (w : World) (hs : s.size ≤ maxLen) :
    Calls Try.prog 58 #[.string s] w fun e w' => e = .returned (.int .u32 (crc s.data.toList : Nat)) ∧ w' = w := by
  unfold maxLen at hs
  go_enter Try.func58, Try.ntmps58
  go_wp2
  go_loop [3, 7] (fun c i => ∃ k : Nat, k ≤ s.size ∧ i = .int .i64 k ∧ c = .int .u32 (crcRaw (s.data.toList.take k) : Nat)) (fun _ i => s.size - (intOf i).toNat)
  case atStart => exact ⟨0, Nat.zero_le _, rfl, rfl⟩
  case round =>
    obtain ⟨k, hk, rfl, rfl⟩ := hrel
    have hlt0 := crcRaw_lt (s.data.toList.take k)
    by_cases hlt : k < s.size
    · have hsn : Hid (crcRaw (s.data.toList.take (k + 1)) = crcByte (crcRaw (s.data.toList.take k)) s[k].toNat) := by
        rw [take_snoc s k hlt]; exact crcRaw_snoc _ _
      have hbx := xor_byte_u32 (crcRaw (s.data.toList.take k)) s[k] hlt0
      have hb256 := s[k].toNat_lt
      have Hbx : Hid (bits .xor .u32 ((crcRaw (s.data.toList.take k) : Nat) : Int) (s[k].toNat : Int) = ((crcRaw (s.data.toList.take k) ^^^ s[k].toNat : Nat) : Int)) := hbx
      clear hbx
      have hlt1 : crcRaw (s.data.toList.take k) ^^^ s[k].toNat < 4294967296 := Nat.xor_lt_two_pow (n := 32) hlt0 (by omega)
      generalize crcRaw (s.data.toList.take k) = c at *
      go_wp2
      rw [Hbx.out]
      go_loop [3, 16] (fun c' i => ∃ j : Nat, j ≤ 8 ∧ i = .int .i64 j ∧ c' = .int .u32 (crcBits j (c ^^^ s[k].toNat) : Nat)) (fun _ i => 8 - (intOf i).toNat)
      case atStart => exact ⟨0, Nat.zero_le _, rfl, rfl⟩
      case round =>
        obtain ⟨j, hj, rfl, rfl⟩ := hrel
        have hcl := crcBits_lt j _ hlt1
        by_cases hj8 : j < 8
        · go_wp2_with (go_at_call 77; refine (shift_any _ _ hcl).mono ?_; rintro e w' ⟨rfl, rfl⟩)
          go_round
          case rel => exact ⟨j + 1, by omega, by go_num, rfl⟩
          case measure => simp [intOf]; omega
        · obtain rfl : j = 8 := by omega
          go_wp2
          go_round
          case rel => exact ⟨k + 1, by omega, by go_num, by rw [hsn.out]; rfl⟩
          case measure => simp [intOf]; omega
    · obtain rfl : k = s.size := by omega
      go_wp2
      go_ret
      refine ⟨ret_int ?_, rfl⟩
      have et : s.data.toList.take s.size = s.data.toList := List.take_of_length_le (by simp)
      rw [et] at hlt0
      rw [et, not_u32 _ hlt0]
      rfl

theorem xor_byte_i64 (c : Nat) (b : UInt8) (h : c < 4294967296) : bits .xor .i64 (c : Int) (b.toNat : Int) = ((c ^^^ b.toNat : Nat) : Int) :=
  i64_xor_nat c b.toNat (by omega) (by have := b.toNat_lt; omega)

theorem xor_poly_i64 (c : Nat) (h : c < 4294967296) : bits .xor .i64 (c : Int) 3988292384 = ((c ^^^ 3988292384 : Nat) : Int) := by
  have := i64_xor_nat c 3988292384 (by omega) (by omega)
  exact this

set_option maxHeartbeats 400000 in
theorem Sum_any (s : ByteArray) (w : World) (hs : s.size ≤ maxLen) :
    Calls Try.prog 31 #[.string s] w fun e w' => e = .returned (.int .i64 (crc s.data.toList : Nat)) ∧ w' = w := by
  unfold maxLen at hs
  go_enter Try.func31, Try.ntmps31
  go_wp2
  go_loop [3, 4] (fun c i => ∃ k : Nat, k ≤ s.size ∧ i = .int .i64 k ∧ c = .int .i64 (crcRaw (s.data.toList.take k) : Nat)) (fun _ i => s.size - (intOf i).toNat)
  case atStart => exact ⟨0, Nat.zero_le _, rfl, rfl⟩
  case round =>
    obtain ⟨k, hk, rfl, rfl⟩ := hrel
    have hlt0 := crcRaw_lt (s.data.toList.take k)
    by_cases hlt : k < s.size
    · have hsn : Hid (crcRaw (s.data.toList.take (k + 1)) = crcByte (crcRaw (s.data.toList.take k)) s[k].toNat) := by
        rw [take_snoc s k hlt]; exact crcRaw_snoc _ _
      have Hbx : Hid (bits .xor .i64 ((crcRaw (s.data.toList.take k) : Nat) : Int) (s[k].toNat : Int) = ((crcRaw (s.data.toList.take k) ^^^ s[k].toNat : Nat) : Int)) := xor_byte_i64 (crcRaw (s.data.toList.take k)) s[k] hlt0
      have hb256 := s[k].toNat_lt
      have hlt1 : crcRaw (s.data.toList.take k) ^^^ s[k].toNat < 4294967296 := Nat.xor_lt_two_pow (n := 32) hlt0 (by omega)
      generalize crcRaw (s.data.toList.take k) = c at *
      go_wp2
      rw [Hbx.out]
      go_loop [3, 5] (fun c' i => ∃ j : Nat, j ≤ 8 ∧ i = .int .i64 j ∧ c' = .int .i64 (crcBits j (c ^^^ s[k].toNat) : Nat)) (fun _ i => 8 - (intOf i).toNat)
      case atStart => exact ⟨0, Nat.zero_le _, rfl, rfl⟩
      case round =>
        obtain ⟨j, hj, rfl, rfl⟩ := hrel
        have hcl := crcBits_lt j _ hlt1
        by_cases hj8 : j < 8
        · have hst : Hid (crcBits (j + 1) (c ^^^ s[k].toNat) = crcBit (crcBits j (c ^^^ s[k].toNat))) := rfl
          generalize crcBits j (c ^^^ s[k].toNat) = d at *
          have hx : Hid (bits .xor .i64 ((d / 2 : Nat) : Int) 3988292384 = ((d / 2 ^^^ 3988292384 : Nat) : Int)) := xor_poly_i64 (d / 2) (by omega)
          by_cases hodd : d % 2 = 1
          · have ho : (((d : Int) % 2) == 1) = true := by rw [beq_iff_eq]; omega
            go_wp2
            go_round
            case rel => exact ⟨j + 1, by omega, by go_num, by rw [hst.out]; unfold crcBit; rw [if_pos hodd]; rw [← hx.out]; rfl⟩
            case measure => simp [intOf]; omega
          · have ho : (((d : Int) % 2) == 1) = false := by rw [beq_eq_false_iff_ne]; omega
            go_wp2
            go_round
            case rel => exact ⟨j + 1, by omega, by go_num, by rw [hst.out]; unfold crcBit; rw [if_neg hodd]; rfl⟩
            case measure => simp [intOf]; omega
        · obtain rfl : j = 8 := by omega
          go_wp2
          go_round
          case rel => exact ⟨k + 1, by omega, by go_num, by rw [hsn.out]; rfl⟩
          case measure => simp [intOf]; omega
    · obtain rfl : k = s.size := by omega
      go_wp2
      go_ret
      refine ⟨ret_int ?_, rfl⟩
      have et : s.data.toList.take s.size = s.data.toList := List.take_of_length_le (by simp)
      rw [et] at hlt0
      rw [et]
      unfold crc
      omega
end Go.Proofs.Ytgieeeeeiggoeaa
