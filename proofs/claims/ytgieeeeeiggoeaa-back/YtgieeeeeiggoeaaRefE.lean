import Derived.Test.YtgieeeeeiggoeaaRefD
namespace Go.Proofs.Ytgieeeeeiggoeaa
open Go.RowKit


theorem bs_take (L : List UInt8) (n : Nat) : (bs L).extract 0 n = bs (L.take n) := by
  apply ByteArray.ext
  apply Array.toList_inj.1
  simp [bs]

theorem bs_drop (L : List UInt8) (n : Nat) : (bs L).extract n L.length = bs (L.drop n) := by
  apply ByteArray.ext
  apply Array.toList_inj.1
  simp [bs]
  exact List.take_of_length_le (by simp)

theorem toList_bs (l : List UInt8) : (bs l).toList = l := by
  rw [ByteArray.toList_eq, bs_list]

theorem eq_bs (l m : List UInt8) : ((bs l).toList == (bs m).toList) = decide (l = m) := by
  rw [toList_bs, toList_bs]
  by_cases h : l = m <;> simp [h]

theorem boxed_later {w W w' : World} {cs : Array Value} (hb : Below W.heap.size W w') (hs : W.heap.size = w.heap.size + 1) (q : ∀ j, W.cell? ⟨w.heap.size, j, none⟩ = cs[j]?) (fz : ∀ j, W.frozen? ⟨w.heap.size, j, none⟩ = false) :
    (∀ j, w'.cell? ⟨w.heap.size, j, none⟩ = cs[j]?) ∧ (∀ j, w'.frozen? ⟨w.heap.size, j, none⟩ = false) :=
  ⟨fun j => (hb.cell (p := ⟨w.heap.size, j, none⟩) (by show w.heap.size < _; omega)).trans (q j), fun j => (hb.frozen (p := ⟨w.heap.size, j, none⟩) (by show w.heap.size < _; omega)).trans (fz j)⟩

set_option maxHeartbeats 400000 in
set_option maxRecDepth 100000 in
theorem refDecode_a (L : List UInt8) (w : World) (h : L.length < 21) :
    Calls Try.prog 15 #[.string (bs L)] w fun e w' => Below w.heap.size w w' ∧ e = .returned (.tuple #[.agg #[.int .i64 0, .int .i64 0, .int .i64 0, .int .i64 0, .int .i64 0, .int .i64 0, .int .i64 0, .int .i64 0, .slice none 0 0, .slice none 0 0], .int .i64 1]) := by
  have hs := bs_size L
  go_enter Try.func15, Try.ntmps15
  go_wp2_with fail
  exact bodyPost_ret (v := .tuple #[.agg #[.int .i64 0, .int .i64 0, .int .i64 0, .int .i64 0, .int .i64 0, .int .i64 0, .int .i64 0, .int .i64 0, .slice none 0 0, .slice none 0 0], .int .i64 1]) (by simp [results, Try.results15, go_sem]) rfl ⟨(Below.refl _ _).alloc (Nat.le_refl _) _, rfl⟩

set_option maxHeartbeats 1000000 in
set_option maxRecDepth 100000 in
theorem refDecode_b (L T : List UInt8) (w : World) (h : 21 ≤ L.length) (hm : L.length ≤ 140737488355328) (hT : T = L.take (L.length - 4)) (hno : T ++ sumOf T ≠ L) :
    Calls Try.prog 15 #[.string (bs L)] w fun e w' => Below w.heap.size w w' ∧ e = .returned (.tuple #[.agg #[.int .i64 0, .int .i64 0, .int .i64 0, .int .i64 0, .int .i64 0, .int .i64 0, .int .i64 0, .int .i64 0, .slice none 0 0, .slice none 0 0], .int .i64 2]) := by
  have hs := bs_size L
  have hx : (bs L).extract 0 (L.length - 4) = bs T := by rw [bs_take, hT]
  have hTl : T.length ≤ 140737488355328 := by rw [hT, List.length_take]; omega
  clear hT
  obtain ⟨W, hW, hb0, hsz, q, fz⟩ := boxed w #[.int .i64 0, .int .i64 0, .int .i64 0, .int .i64 0, .int .i64 0, .int .i64 0, .int .i64 0, .int .i64 0, .slice none 0 0, .slice none 0 0] 25
  have hcl := crc_lt T
  have b1 := add_bs T (oneB (crc T)) (by rw [oneB_length]; omega)
  have b2 := add_bs (T ++ oneB (crc T)) (oneB (crc T / 256)) (by simp only [List.length_append, oneB_length]; omega)
  have b3 := add_bs (T ++ (oneB (crc T) ++ oneB (crc T / 256))) (oneB (crc T / 65536)) (by simp only [List.length_append, oneB_length]; omega)
  have b4 := add_bs (T ++ (oneB (crc T) ++ (oneB (crc T / 256) ++ oneB (crc T / 65536)))) (oneB (crc T / 16777216)) (by simp only [List.length_append, oneB_length]; omega)
  simp only [List.append_assoc] at b1 b2 b3 b4
  go_enter Try.func15, Try.ntmps15
  go_wp2_with fail
  refine (Sum_any _ _ (by rw [bs_size]; unfold maxLen; omega)).mono ?_
  rintro e w5 ⟨rfl, rfl⟩
  clear hW
  rw [bs_list]
  go_wp2_with fail
  refine (one_any _ _ (by omega)).mono ?_
  rintro e w6 ⟨rfl, hb6⟩
  rw [show ((crc T : Nat) : Int).toNat = crc T by omega]
  go_wp2_with fail
  refine (one_any _ _ (by omega)).mono ?_
  rintro e w7 ⟨rfl, hb7⟩
  rw [show (((crc T : Nat) : Int) / 256).toNat = crc T / 256 by omega]
  go_wp2_with fail
  refine (one_any _ _ (by omega)).mono ?_
  rintro e w8 ⟨rfl, hb8⟩
  rw [show (((crc T : Nat) : Int) / 65536).toNat = crc T / 65536 by omega]
  go_wp2_with fail
  refine (one_any _ _ (by omega)).mono ?_
  rintro e w9 ⟨rfl, hb9⟩
  rw [show (((crc T : Nat) : Int) / 16777216).toNat = crc T / 16777216 by omega]
  have hb09 := hb6.trans ((hb7.trans ((hb8.trans (hb9.mono hb8.size)).mono hb7.size)).mono hb6.size)
  obtain ⟨q', fz'⟩ := boxed_later hb09 hsz q fz
  have hbw := hb0.trans (hb09.mono hb0.size)
  have hne : ((bs (T ++ (oneB (crc T) ++ (oneB (crc T / 256) ++ (oneB (crc T / 65536) ++ oneB (crc T / 16777216)))))).toList == (bs L).toList) = false := by
    rw [eq_bs]; exact decide_eq_false hno
  clear b1 b2 b3 q fz hsz
  go_wp2_with fail
  refine bodyPost_ret (v := .tuple #[.agg #[.int .i64 0, .int .i64 0, .int .i64 0, .int .i64 0, .int .i64 0, .int .i64 0, .int .i64 0, .int .i64 0, .slice none 0 0, .slice none 0 0], .int .i64 2]) (by simp [results, Try.results15, go_sem, q']) rfl ⟨?_, rfl⟩
  iterate 10 refine Below.setCell ?_ (by exact Nat.le_refl _) _
  exact hbw
end Go.Proofs.Ytgieeeeeiggoeaa
