import Derived.Test.YtgieeeeeiggoeaaCrc
namespace Go.Proofs.Ytgieeeeeiggoeaa
open Go.RowKit

theorem conv1 (w : World) (x : Int) : (convert 56 9 (.slice (some ⟨w.heap.size, 0, none⟩) 1 1)).run Try.prog (w.alloc (.cells #[.int .u8 x] 5))
    = .ok (.string ⟨#[UInt8.ofNat x.toNat]⟩) (w.alloc (.cells #[.int .u8 x] 5)) := by
  have h := run_convert_bytes_arg (P := Try.prog) (w.alloc (.cells #[.int .u8 x] 5)) 56 5 Try.underlying56 Try.underlying5 w.heap.size 0 1 1 [x] rfl (fun i hi => by
    obtain rfl : i = 0 := by omega
    simp) 9 Try.underlying9
  rw [h]
  rfl

theorem conv4 (w : World) (a b c d : Int) : (convert 56 9 (.slice (some ⟨w.heap.size, 0, none⟩) 4 4)).run Try.prog (w.alloc (.cells #[.int .u8 a, .int .u8 b, .int .u8 c, .int .u8 d] 5))
    = .ok (.string ⟨#[UInt8.ofNat a.toNat, UInt8.ofNat b.toNat, UInt8.ofNat c.toNat, UInt8.ofNat d.toNat]⟩) (w.alloc (.cells #[.int .u8 a, .int .u8 b, .int .u8 c, .int .u8 d] 5)) := by
  have h := run_convert_bytes_arg (P := Try.prog) (w.alloc (.cells #[.int .u8 a, .int .u8 b, .int .u8 c, .int .u8 d] 5)) 56 5 Try.underlying56 Try.underlying5 w.heap.size 0 4 4 [a, b, c, d] rfl (fun i hi => by
    match i, hi with
    | 0, _ => simp
    | 1, _ => simp
    | 2, _ => simp
    | 3, _ => simp) 9 Try.underlying9
  rw [h]
  rfl

theorem ret_str {a b : ByteArray} (h : a = b) : Ending.returned (.string a) = .returned (.string b) := by rw [h]

theorem lowByte_mod (n : Nat) : UInt8.ofNat (n % 256) = UInt8.ofNat n := by
  apply UInt8.toNat_inj.1; simp

theorem lowByte_int (n : Nat) : UInt8.ofNat ((n : Int) % 256).toNat = lowByte n := by
  have : ((n : Int) % 256).toNat = n % 256 := by omega
  rw [this, lowByte_mod]; rfl

theorem lowByte_int' (n : Int) (h : 0 ≤ n) : UInt8.ofNat (n % 256).toNat = lowByte n.toNat := by
  have : (n % 256).toNat = n.toNat % 256 := by omega
  rw [this, lowByte_mod]; rfl

set_option maxHeartbeats 400000 in
theorem one_any (n : Int) (w : World) (h0 : 0 ≤ n) :
    Calls Try.prog 30 #[.int .i64 n] w fun e w' => e = .returned (.string (bs (oneB n.toNat))) ∧ Below w.heap.size w w' := by
  have hc := conv1
  go_enter Try.func30, Try.ntmps30
  go_wp2
  go_ret
  exact ⟨ret_str (by rw [lowByte_int' n h0]; rfl), (Below.refl _ _).alloc (Nat.le_refl _) _⟩

set_option maxHeartbeats 400000 in
theorem two_any (n : Int) (w : World) (h0 : -1 ≤ n) (h1 : n ≤ 65534) :
    Calls Try.prog 59 #[.int .i64 n] w fun e w' => e = .returned (.string (bs (numBytes n))) ∧ Below w.heap.size w w' := by
  go_enter Try.func59, Try.ntmps59
  go_wp2_with fail
  refine (one_any _ _ (by omega)).mono ?_
  rintro e w1 ⟨rfl, hb1⟩
  go_wp2_with fail
  refine (one_any _ _ (by omega)).mono ?_
  rintro e w2 ⟨rfl, hb2⟩
  go_wp2_with fail
  go_ret
  refine ⟨ret_str ?_, hb1.trans (hb2.mono hb1.size)⟩
  rw [bs_append, show ((n + 1) / 256).toNat = (n + 1).toNat / 256 by omega]
  rfl

set_option maxHeartbeats 400000 in
theorem sumBytes_any (s : ByteArray) (w : World) (hs : s.size ≤ maxLen) :
    Calls Try.prog 27 #[.string s] w fun e w' => e = .returned (.string (bs (sumOf s.data.toList))) ∧ Below w.heap.size w w' := by
  have hc := crc_lt s.data.toList
  have hc4 := conv4
  go_enter Try.func27, Try.ntmps27
  go_wp2_with (go_at_call 58; refine (checksum_any _ _ hs).mono ?_; rintro e w' ⟨rfl, rfl⟩)
  go_ret
  refine ⟨ret_str ?_, (Below.refl _ _).alloc (Nat.le_refl _) _⟩
  unfold sumOf
  generalize crc s.data.toList = c at *
  rw [lowByte_mod, lowByte_mod, lowByte_mod]
  rfl

/-- v is a slice of ints that reads l. -/
def IntsAt (w : World) (v : Value) (l : List Int) : Prop :=
  ∃ a c, v = .slice a l.length c ∧ ∀ i, i < l.length → ∃ b off, a = some ⟨b, off, none⟩ ∧ w.cell? ⟨b, off + i, none⟩ = some (.int .i64 (l.getD i 0))

theorem IntsAt.below {w w' : World} {v : Value} {l : List Int} (h : IntsAt w v l) (hb : Below w.heap.size w w') : IntsAt w' v l := by
  obtain ⟨a, c, rfl, h⟩ := h
  refine ⟨a, c, rfl, fun i hi => ?_⟩
  obtain ⟨b, off, ha, hc⟩ := h i hi
  exact ⟨b, off, ha, cell_later hb hc⟩

def writtenOf (l : List Int) : List UInt8 × Bool := if l.all numOk then (numsBytes l, true) else ([], false)

theorem writtenOf_no (l : List Int) (k : Nat) (hk : k < l.length) (h : numOk (l.getD k 0) = false) : writtenOf l = ([], false) := by
  unfold writtenOf
  rw [if_neg]
  intro ha
  rw [List.all_eq_true] at ha
  have := ha (l.getD k 0) (by simp [List.getD, List.getElem?_eq_getElem hk])
  rw [h] at this
  cases this

theorem ret_sb {a c : ByteArray} {b d : Bool} (h : a = c) (h2 : b = d) : Ending.returned (.tuple #[.string a, .bool b]) = .returned (.tuple #[.string c, .bool d]) := by rw [h, h2]

set_option maxHeartbeats 400000 in
theorem written_any (v : Value) (l : List Int) (w : World) (hv : IntsAt w v l) (hl : l.length ≤ 1000) :
    Calls Try.prog 29 #[v] w fun e w' => Below w.heap.size w w' ∧
      e = .returned (.tuple #[.string (bs (writtenOf l).1), .bool (writtenOf l).2]) := by
  obtain ⟨a, c, rfl, hv⟩ := hv
  have HV : Hid (∀ i, i < l.length → ∃ b off, a = some ⟨b, off, none⟩ ∧ w.cell? ⟨b, off + i, none⟩ = some (.int .i64 (l.getD i 0))) := hv
  clear hv
  go_enter Try.func29, Try.ntmps29
  go_wp2_with fail
  go_loopw [4, 5] (fun s i wr => ∃ k : Nat, k ≤ l.length ∧ i = .int .i64 k ∧ s = .string (bs (numsBytes (l.take k))) ∧ (l.take k).all numOk = true ∧ Below w.heap.size w wr) (fun _ i _ => l.length - (intOf i).toNat)
  case atStart => exact ⟨0, Nat.zero_le _, rfl, rfl, rfl, Below.refl _ _⟩
  case round =>
    obtain ⟨k, hk, rfl, rfl, hall, hb⟩ := hrel
    by_cases hlt : k < l.length
    · obtain ⟨b, off, rfl, hcell⟩ := HV.out k hlt
      have hcell' := cell_later hb hcell
      have ht : Hid (l.take (k + 1) = l.take k ++ [l.getD k 0]) := take_snoc_ints l k hlt
      generalize hx : l.getD k 0 = x at *
      by_cases h1 : x < -1
      · have hno : Hid (writtenOf l = ([], false)) := writtenOf_no l k hlt (by rw [hx]; simp [numOk]; omega)
        clear hx
        go_wp2_with fail
        go_ret2
        exact ⟨hb, by rw [hno.out]; rfl⟩
      · by_cases h2 : 65534 < x
        · have hno : Hid (writtenOf l = ([], false)) := writtenOf_no l k hlt (by rw [hx]; simp [numOk]; omega)
          clear hx
          go_wp2_with fail
          go_ret2
          exact ⟨hb, by rw [hno.out]; rfl⟩
        · clear hx
          have hs1 : (bs (numsBytes (l.take k))).size ≤ 2000 := by rw [bs_size, numsBytes_length, List.length_take]; omega
          have hs2 : (bs (numBytes x)).size ≤ 2 := Nat.le_refl _
          go_wp2_with fail
          refine (two_any x _ (by omega) (by omega)).mono ?_
          rintro e w1 ⟨rfl, hb1⟩
          go_wp2_with fail
          go_roundw
          case rel => exact ⟨k + 1, by omega, by go_num, by rw [bs_append, ht.out, numsBytes_append, numsBytes_one], by rw [ht.out, List.all_append, hall]; simp [numOk]; omega, hb.trans (hb1.mono hb.size)⟩
          case measure => simp [intOf]; omega
    · obtain rfl : k = l.length := by omega
      rw [List.take_length] at hall
      have hyes : Hid (writtenOf l = (numsBytes l, true)) := by unfold writtenOf; rw [if_pos hall]; exact rfl
      go_wp2_with fail
      go_ret2
      exact ⟨hb, by rw [hyes.out]; exact ret_sb (by rw [List.take_length]) rfl⟩
end Go.Proofs.Ytgieeeeeiggoeaa
