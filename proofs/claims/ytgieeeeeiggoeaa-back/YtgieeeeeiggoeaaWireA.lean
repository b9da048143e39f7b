import Derived.Test.YtgieeeeeiggoeaaRefE
import Derived.Test.YtgieeeeeiggoeaaDecMath
import Derived.Deep.RegionHeld3
import Derived.BigQuiet
import Derived.Deep.QuietTactic
namespace Go.Proofs.Ytgieeeeeiggoeaa
open Go.RowKit

theorem ret_bool {a b : Bool} (h : a = b) : Ending.returned (.bool a) = .returned (.bool b) := by rw [h]

set_option maxHeartbeats 400000 in
theorem isKind_any (k : Int) (w : World) : Calls Try.prog 35 #[.int .i64 k] w fun e w' => e = .returned (.bool (kindOk k)) ∧ w' = w := by
  by_cases h1 : 1 ≤ k
  · go_enter Try.func35, Try.ntmps35
    go_wp2
    go_ret
    exact ⟨ret_bool (by simp [kindOk, h1]), rfl⟩
  · have hd : decide (1 ≤ k) = false := by simpa using h1
    go_enter Try.func35, Try.ntmps35
    go_wp2
    go_ret
    exact ⟨ret_bool (by simp [kindOk, hd]), rfl⟩

set_option maxHeartbeats 400000 in
theorem fits_any (k : Int) (w : World) : Calls Try.prog 54 #[.int .i64 k] w fun e w' => e = .returned (.bool (numOk k)) ∧ w' = w := by
  by_cases h1 : -1 ≤ k
  · go_enter Try.func54, Try.ntmps54
    go_wp2
    go_ret
    exact ⟨ret_bool (by simp [numOk, h1]), rfl⟩
  · have hd : decide (-1 ≤ k) = false := by simpa using h1
    go_enter Try.func54, Try.ntmps54
    go_wp2
    go_ret
    exact ⟨ret_bool (by simp [numOk, hd]), rfl⟩

set_option maxHeartbeats 400000 in
theorem bodySize_any (m e : Int) (w : World) (h1 : 0 ≤ m) (h2 : m ≤ 1000) (h3 : 0 ≤ e) (h4 : e ≤ 1000) : Calls Try.prog 56 #[.int .i64 m, .int .i64 e] w fun r w' => r = .returned (.int .i64 (17 + 2 * m + 10 * e)) ∧ w' = w := by
  go_enter Try.func56, Try.ntmps56
  go_wp2
  go_ret
  exact ⟨ret_int (by omega), rfl⟩

set_option maxHeartbeats 1000000 in
set_option maxRecDepth 100000 in
theorem header_any (B : Nat) (w : World) : Calls Try.prog 53 #[.pointer (some ⟨B, 0, none⟩)] w fun e w' => Below w.heap.size w w' ∧
    e = .returned (.agg #[.pointer (some ⟨B, 1, none⟩), .pointer (some ⟨B, 2, none⟩), .pointer (some ⟨B, 3, none⟩), .pointer (some ⟨B, 4, none⟩), .pointer (some ⟨B, 5, none⟩), .pointer (some ⟨B, 6, none⟩), .pointer (some ⟨B, 7, none⟩)]) := by
  go_enter Try.func53, Try.ntmps53
  go_wp2
  go_region_held3 (fun _ => True) (trivial) (fail)
  go_wp2
  refine bodyPost_ret (v := .agg #[.pointer (some ⟨B, 1, none⟩), .pointer (some ⟨B, 2, none⟩), .pointer (some ⟨B, 3, none⟩), .pointer (some ⟨B, 4, none⟩), .pointer (some ⟨B, 5, none⟩), .pointer (some ⟨B, 6, none⟩), .pointer (some ⟨B, 7, none⟩)]) (by simp [results, Try.results53, go_sem]) rfl ⟨((Below.refl _ _).alloc (Nat.le_refl _) _).drew, rfl⟩

set_option maxHeartbeats 1000000 in
set_option maxRecDepth 100000 in
theorem fields_any (B off : Nat) (w : World) : Calls Try.prog 62 #[.pointer (some ⟨B, off, none⟩)] w fun e w' => Below w.heap.size w w' ∧
    e = .returned (.agg #[.pointer (some ⟨B, off, none⟩), .pointer (some ⟨B, off + 1, none⟩), .pointer (some ⟨B, off + 2, none⟩), .pointer (some ⟨B, off + 3, none⟩), .pointer (some ⟨B, off + 4, none⟩)]) := by
  go_enter Try.func62, Try.ntmps62
  go_wp2
  go_region_held3 (fun _ => True) (trivial) (fail)
  go_wp2
  refine bodyPost_ret (v := .agg #[.pointer (some ⟨B, off, none⟩), .pointer (some ⟨B, off + 1, none⟩), .pointer (some ⟨B, off + 2, none⟩), .pointer (some ⟨B, off + 3, none⟩), .pointer (some ⟨B, off + 4, none⟩)]) (by simp [results, Try.results62, go_sem]) rfl ⟨((Below.refl _ _).alloc (Nat.le_refl _) _).drew, rfl⟩

theorem byteAt_bs (T : List UInt8) (k : Nat) (h : k < (bs T).size) : byteAt T k = (bs T)[k].toNat := by
  have := byteAt_in (bs T) k h
  rwa [bs_list] at this

theorem ret_iib {a b : Int} {x : Bool} {a' b' : Int} {x' : Bool} (h : a = a') (h2 : b = b') (h3 : x = x') : Ending.returned (.tuple #[.int .i64 a, .int .i64 b, .bool x]) = .returned (.tuple #[.int .i64 a', .int .i64 b', .bool x']) := by rw [h, h2, h3]

theorem index_bs (T : List UInt8) (i : Int) (k : Nat) (hi : i = k) (h : k < T.length) : ∀ w, (Instr.index 9 (.string (bs T)) (.int .i64 i)).run Try.prog w = .ok (.int .u8 (byteAt T k : Nat)) w := by
  intro w
  have hk : k < (bs T).size := h
  subst hi
  rw [byteAt_bs T k hk]
  go_simp

set_option maxHeartbeats 1000000 in
set_option maxRecDepth 100000 in
theorem measure_any (T : List UInt8) (w : World) (h : 17 ≤ T.length) (hm : T.length ≤ 140737488355328) : Calls Try.prog 34 #[.string (bs T)] w fun e w' =>
    e = .returned (.tuple #[.int .i64 (measOf T).1, .int .i64 (measOf T).2.1, .bool (measOf T).2.2]) ∧ w' = w := by
  have hs := bs_size T
  have i1 := index_bs T 15 15 rfl (by omega)
  have hb := byteAt_lt T 15
  by_cases h1 : byteAt T 15 ≤ 5 ∧ 16 + 2 * byteAt T 15 < T.length
  · have hb2 := byteAt_lt T (16 + 2 * byteAt T 15)
    have i2 := index_bs T (16 + (byteAt T 15 : Nat) * 2) (16 + 2 * byteAt T 15) (by omega) (by omega)
    have HM : Hid (measOf T = _) := measOf_in h1
    obtain ⟨h1, h2⟩ := h1
    by_cases h3 : byteAt T (16 + 2 * byteAt T 15) ≤ 24
    · rw [HM.out]
      go_enter Try.func34, Try.ntmps34
      go_wp2_with fail
      refine (bodySize_any _ _ _ (by omega) (by omega) (by omega) (by omega)).mono ?_
      rintro e w1 ⟨rfl, rfl⟩
      go_wp2_with fail
      go_ret3
      refine ⟨ret_iib rfl rfl ?_, rfl⟩
      rw [Bool.eq_iff_iff]
      simp [h3]
      omega
    · rw [HM.out]
      go_enter Try.func34, Try.ntmps34
      go_wp2_with fail
      go_ret3
      exact ⟨ret_iib rfl rfl rfl, rfl⟩
  · have HM : Hid (measOf T = _) := measOf_no h1
    by_cases h3 : byteAt T 15 ≤ 5
    · have h4 : T.length ≤ 16 + 2 * byteAt T 15 := by omega
      rw [HM.out]
      clear h1
      go_enter Try.func34, Try.ntmps34
      go_wp2_with fail
      go_ret3
      exact ⟨rfl, rfl⟩
    · rw [HM.out]
      clear h1
      go_enter Try.func34, Try.ntmps34
      go_wp2_with fail
      go_ret3
      exact ⟨rfl, rfl⟩

theorem i64_or_nat (a b : Nat) (ha : a < 9223372036854775808) (hb : b < 9223372036854775808) : bits .or .i64 (a : Int) (b : Int) = ((a ||| b : Nat) : Int) := by
  have hx : a ||| b < 2 ^ 63 := Nat.or_lt_two_pow (by omega) (by omega)
  have h1 : (BitVec.ofInt 64 (a : Int)).toNat = a := by
    rw [BitVec.ofInt_natCast, BitVec.toNat_ofNat]; exact Nat.mod_eq_of_lt (by omega)
  have h2 : (BitVec.ofInt 64 (b : Int)).toNat = b := by
    rw [BitVec.ofInt_natCast, BitVec.toNat_ofNat]; exact Nat.mod_eq_of_lt (by omega)
  show IntKind.i64.wrap ((BitVec.ofInt 64 (a : Int) ||| BitVec.ofInt 64 (b : Int)).toNat : Int) = _
  rw [BitVec.toNat_or, h1, h2]
  exact wrap_i64_nat _ (by omega)

theorem or_num (a b : Nat) (ha : a < 256) (hb : b < 256) : bits .or .i64 (IntKind.i64.wrap (IntKind.i64.wrap (a : Int) * 256)) (IntKind.i64.wrap (b : Int)) = 256 * (a : Int) + b := by
  rw [wrap_i64_nat a (by omega), wrap_i64_nat b (by omega), show ((a : Int) * 256) = ((a * 256 : Nat) : Int) by omega, wrap_i64_nat (a * 256) (by omega), i64_or_nat _ _ (by omega) (by omega), nat_join 8 _ _ (by omega) (by omega)]
  omega

set_option maxHeartbeats 1000000 in
set_option maxRecDepth 100000 in
theorem skip_any (R : Nat) (i : Int) (S : List UInt8) (w : World) (h0 : 0 ≤ i) (hn : i ≤ S.length) (hR : w.cell? ⟨R, 0, none⟩ = some (.string (bs S))) (hf : w.frozen? ⟨R, 0, none⟩ = false) :
    Calls Try.prog 61 #[.pointer (some ⟨R, 0, none⟩), .int .i64 i] w fun e w' => e = .returned (.tuple #[]) ∧ ∃ q, w' = (w.setCell ⟨R, 0, none⟩ (.string (bs (S.drop i.toNat)))).drewN q := by
  obtain ⟨n, rfl⟩ := Int.eq_ofNat_of_zero_le h0
  rw [Int.toNat_natCast]
  have hs := bs_size S
  have hx := bs_drop S n
  go_enter Try.func61, Try.ntmps61
  go_wp2_with fail
  go_end0
  exact ⟨rfl, 0, rfl⟩

set_option maxHeartbeats 1000000 in
set_option maxRecDepth 100000 in
theorem number_any (R : Nat) (S : List UInt8) (w : World) (hn : 2 ≤ S.length) (hR : w.cell? ⟨R, 0, none⟩ = some (.string (bs S))) (hf : w.frozen? ⟨R, 0, none⟩ = false) :
    Calls Try.prog 60 #[.pointer (some ⟨R, 0, none⟩)] w fun e w' => e = .returned (.int .i64 (numAt S 0)) ∧ ∃ q, w' = (w.setCell ⟨R, 0, none⟩ (.string (bs (S.drop 2)))).drewN q := by
  have hs := bs_size S
  have i1 := index_bs S 0 0 rfl (by omega)
  have i2 := index_bs S 1 1 rfl (by omega)
  have b0 := byteAt_lt S 0
  have b1 := byteAt_lt S 1
  go_enter Try.func60, Try.ntmps60
  go_wp2_with fail
  go_region_held3 (fun w' => w'.cell? ⟨R, 0, none⟩ = some (.string (bs S))) (go_keep) (fail)
  all_goals
    rw [or_num _ _ b0 b1]
    go_wp2_with fail
    refine (skip_any R 2 S _ (by omega) (by omega) (by exact hR) (by exact hf)).mono ?_
    rintro e w1 ⟨rfl, q, rfl⟩
    go_wp2_with fail
    go_ret
    exact ⟨ret_int (by unfold numAt; rw [Nat.zero_add]; omega), 1 + q, rfl⟩
end Go.Proofs.Ytgieeeeeiggoeaa
