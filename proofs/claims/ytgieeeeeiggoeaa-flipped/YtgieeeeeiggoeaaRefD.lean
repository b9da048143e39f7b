import Derived.Test.YtgieeeeeiggoeaaRefC
namespace Go.Proofs.Ytgieeeeeiggoeaa
open Go.RowKit

theorem byteAt_in (s : ByteArray) (k : Nat) (h : k < s.size) : byteAt s.data.toList k = s[k].toNat := by
  unfold byteAt
  have : s.data.toList.getD k 0 = s[k] := by
    rw [List.getD, List.getElem?_eq_getElem (by simpa using h)]
    rfl
  rw [this]

theorem byteAt_out (t : List UInt8) (k : Nat) (h : t.length ≤ k) : byteAt t k = 0 := by
  unfold byteAt
  rw [List.getD, List.getElem?_eq_none h]
  rfl

set_option maxHeartbeats 400000 in
theorem at_any (s : ByteArray) (i : Int) (w : World) (_hs : s.size ≤ maxLen) (h0 : 0 ≤ i) (h1 : i ≤ 1000000) :
    Calls Try.prog 37 #[.string s, .int .i64 i] w fun e w' => e = .returned (.int .i64 (byteAt s.data.toList i.toNat : Nat)) ∧ w' = w := by
  unfold maxLen at _hs
  obtain ⟨k, rfl⟩ := Int.eq_ofNat_of_zero_le h0
  rw [Int.toNat_natCast]
  by_cases h : k < s.size
  · have hb := byteAt_in s k h
    have H : Hid (byteAt s.data.toList k = s[k].toNat) := hb
    have hb256 := s[k].toNat_lt
    clear hb
    go_enter Try.func37, Try.ntmps37
    go_wp2_with fail
    go_ret
    exact ⟨ret_int (by rw [H.out]), rfl⟩
  · have H : Hid (byteAt s.data.toList k = 0) := byteAt_out _ _ (by simpa using h)
    go_enter Try.func37, Try.ntmps37
    go_wp2_with fail
    go_ret
    exact ⟨ret_int (by rw [H.out]; rfl), rfl⟩

set_option maxHeartbeats 400000 in
theorem num_any (s : ByteArray) (i : Int) (w : World) (hs : s.size ≤ maxLen) (h0 : 0 ≤ i) (h1 : i ≤ 100000) :
    Calls Try.prog 38 #[.string s, .int .i64 i] w fun e w' => e = .returned (.int .i64 (numAt s.data.toList i.toNat)) ∧ w' = w := by
  go_enter Try.func38, Try.ntmps38
  go_wp2_with fail
  refine (at_any s i _ hs h0 (by omega)).mono ?_
  rintro e w1 ⟨rfl, rfl⟩
  go_wp2_with fail
  refine (at_any s _ _ hs (by omega) (by omega)).mono ?_
  rintro e w1 ⟨rfl, rfl⟩
  have b1 := byteAt_lt s.data.toList i.toNat
  have b2 := byteAt_lt s.data.toList (i + 1).toNat
  go_wp2_with fail
  go_ret
  refine ⟨ret_int ?_, rfl⟩
  unfold numAt
  rw [show (i + 1).toNat = i.toNat + 1 by omega]
end Go.Proofs.Ytgieeeeeiggoeaa
