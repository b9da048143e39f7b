import Derived.Test.YtgieeeeeiggoeaaWireC
namespace Go.Proofs.Ytgieeeeeiggoeaa
open Go.RowKit

theorem slice_to (L : List UInt8) (i : Int) (k : Nat) (hi : i = k) (hk : k ≤ L.length) : ∀ w, (Instr.slice 9 (.string (bs L)) none (some (.int .i64 i)) none).run Try.prog w = .ok (.string (bs (L.take k))) w := by
  intro w
  subst hi
  have hs := bs_size L
  have hx := bs_take L k
  have hk' : (k : Int) ≤ (L.length : Int) := by omega
  have h0 : (0 : Int) ≤ k := by omega
  go_simp

theorem slice_from (L : List UInt8) (i : Int) (k : Nat) (hi : i = k) (hk : k ≤ L.length) : ∀ w, (Instr.slice 9 (.string (bs L)) (some (.int .i64 i)) none none).run Try.prog w = .ok (.string (bs (L.drop k))) w := by
  intro w
  subst hi
  have hs := bs_size L
  have hx := bs_drop L k
  have hk' : (k : Int) ≤ (L.length : Int) := by omega
  have h0 : (0 : Int) ≤ k := by omega
  go_simp

set_option maxHeartbeats 400000 in
set_option maxRecDepth 100000 in
theorem wireDecode_a (L : List UInt8) (w : World) (h : L.length < 21) :
    Calls Try.prog 14 #[.string (bs L)] w fun e w' => Below w.heap.size w w' ∧ e = .returned (.tuple #[.agg #[.int .i64 0, .int .i64 0, .int .i64 0, .int .i64 0, .int .i64 0, .int .i64 0, .int .i64 0, .int .i64 0, .slice none 0 0, .slice none 0 0], .int .i64 1]) := by
  have hs := bs_size L
  go_enter Try.func14, Try.ntmps14
  go_wp2_with fail
  exact bodyPost_ret (v := .tuple #[.agg #[.int .i64 0, .int .i64 0, .int .i64 0, .int .i64 0, .int .i64 0, .int .i64 0, .int .i64 0, .int .i64 0, .slice none 0 0, .slice none 0 0], .int .i64 1]) (by simp [results, Try.results14, go_sem]) rfl ⟨(Below.refl _ _).alloc (Nat.le_refl _) _, rfl⟩

theorem owns_base {w : World} {base base' size n : Nat} {e : TypeId} {v : Value} {xs : List Value} (h : w.ownsRow base e size v n xs) (hb : base' ≤ base) : w.ownsRow base' e size v n xs := by
  refine ⟨h.1, ?_⟩
  rcases h.2 with h0 | ⟨g, cap, cur, hv, hg, rest⟩
  · exact .inl h0
  · exact .inr ⟨g, cap, cur, hv, Nat.le_trans hb hg, rest⟩

theorem owns_shape {w : World} {base size n : Nat} {e : TypeId} {v : Value} {xs : List Value} (h : w.ownsRow base e size v n xs) : ∃ a cap, v = .slice a n cap := by
  rcases h.2 with ⟨h1, h0⟩ | ⟨g, cap, _, hv, _⟩
  · exact ⟨none, 0, by rw [h1, h0]⟩
  · exact ⟨_, cap, hv⟩

/-- What the program's Decode answers where the sum is right. -/
def WDecPost (T : List UInt8) (w : World) (e : Ending) (w' : World) : Prop :=
  (decOk T = true ∧ ∃ mem log, w'.ownsRow (w.heap.size + 1) 3 1 mem (pMems T).length (ints (pMems T)) ∧ w'.ownsRow (w.heap.size + 1) 59 5 log (pEnts T).length (ints (entsNums (pEnts T))) ∧
    e = .returned (.tuple #[.agg #[.int .i64 (pKind T), .int .i64 (numAt T 1), .int .i64 (numAt T 3), .int .i64 (numAt T 5), .int .i64 (numAt T 7), .int .i64 (numAt T 9), .int .i64 (numAt T 11), .int .i64 (numAt T 13), mem, log], .int .i64 0])) ∨
  (decOk T = false ∧ e = .returned (.tuple #[.agg #[.int .i64 0, .int .i64 0, .int .i64 0, .int .i64 0, .int .i64 0, .int .i64 0, .int .i64 0, .int .i64 0, .slice none 0 0, .slice none 0 0], .int .i64 1]))

set_option maxHeartbeats 1000000 in
set_option maxRecDepth 100000 in
theorem wireDecode_b (L T : List UInt8) (w : World) (h : 21 ≤ L.length) (hm : L.length ≤ 140737488355328) (hT : T = L.take (L.length - 4)) (hno : L.drop (L.length - 4) ≠ sumOf T) :
    Calls Try.prog 14 #[.string (bs L)] w fun e w' => Below w.heap.size w w' ∧ e = .returned (.tuple #[.agg #[.int .i64 0, .int .i64 0, .int .i64 0, .int .i64 0, .int .i64 0, .int .i64 0, .int .i64 0, .int .i64 0, .slice none 0 0, .slice none 0 0], .int .i64 2]) := by
  have hs := bs_size L
  have hx := slice_to L ((L.length : Int) - 4) (L.length - 4) (by omega) (by omega)
  rw [← hT] at hx
  have hy := slice_from L ((L.length : Int) - 4) (L.length - 4) (by omega) (by omega)
  have hw4 : IntKind.i64.wrap ((L.length : Int) - 4) = (L.length : Int) - 4 := by
    rw [show ((L.length : Int) - 4) = ((L.length - 4 : Nat) : Int) by omega]; exact wrap_i64_nat _ (by omega)
  have hTl : T.length ≤ 140737488355328 := by rw [hT, List.length_take]; omega
  clear hT
  obtain ⟨W, hW, hb0, hsz, q, fz⟩ := boxed w #[.int .i64 0, .int .i64 0, .int .i64 0, .int .i64 0, .int .i64 0, .int .i64 0, .int .i64 0, .int .i64 0, .slice none 0 0, .slice none 0 0] 25
  go_enter Try.func14, Try.ntmps14
  go_wp2_with fail
  clear hW
  go_region_held3 (fun _ => True) (trivial) (fail)
  go_wp2_with fail
  refine (sumBytes_any (bs T) _ (by rw [bs_size]; unfold maxLen; omega)).mono ?_
  rintro e w5 ⟨rfl, hb5⟩
  rw [bs_list]
  have hb5' : Below W.heap.size W w5 := (Below.refl W.heap.size W).drew.trans (by exact hb5)
  obtain ⟨q', fz'⟩ := boxed_later hb5' hsz q fz
  have hbw := hb0.trans (hb5'.mono hb0.size)
  have hne : ((bs (L.drop (L.length - 4))).toList == (bs (sumOf T)).toList) = false := by rw [eq_bs]; exact decide_eq_false hno
  clear q fz hsz hx hy
  go_wp2_with fail
  refine bodyPost_ret (v := .tuple #[.agg #[.int .i64 0, .int .i64 0, .int .i64 0, .int .i64 0, .int .i64 0, .int .i64 0, .int .i64 0, .int .i64 0, .slice none 0 0, .slice none 0 0], .int .i64 2]) (by simp [results, Try.results14, go_sem, q']) rfl ⟨?_, rfl⟩
  iterate 10 refine Below.setCell ?_ (by exact Nat.le_refl _) _
  exact hbw

set_option maxHeartbeats 1000000 in
set_option maxRecDepth 100000 in
theorem wireDecode_c (L T : List UInt8) (w : World) (h : 21 ≤ L.length) (hm : L.length ≤ 140737488355328) (hT : T = L.take (L.length - 4)) (hyes : L.drop (L.length - 4) = sumOf T) :
    Calls Try.prog 14 #[.string (bs L)] w fun e w' => Below w.heap.size w w' ∧ WDecPost T w e w' := by
  have hs := bs_size L
  have hx := slice_to L ((L.length : Int) - 4) (L.length - 4) (by omega) (by omega)
  rw [← hT] at hx
  have hy := slice_from L ((L.length : Int) - 4) (L.length - 4) (by omega) (by omega)
  have hw4 : IntKind.i64.wrap ((L.length : Int) - 4) = (L.length : Int) - 4 := by
    rw [show ((L.length : Int) - 4) = ((L.length - 4 : Nat) : Int) by omega]; exact wrap_i64_nat _ (by omega)
  have hTl : T.length ≤ 140737488355328 := by rw [hT, List.length_take]; omega
  have hT17 : 17 ≤ T.length := by rw [hT, List.length_take]; omega
  clear hT
  obtain ⟨W, hW, hb0, hsz, q, fz⟩ := boxed w #[.int .i64 0, .int .i64 0, .int .i64 0, .int .i64 0, .int .i64 0, .int .i64 0, .int .i64 0, .int .i64 0, .slice none 0 0, .slice none 0 0] 25
  go_enter Try.func14, Try.ntmps14
  go_wp2_with fail
  clear hW
  go_region_held3 (fun _ => True) (trivial) (fail)
  go_wp2_with fail
  refine (sumBytes_any (bs T) _ (by rw [bs_size]; unfold maxLen; omega)).mono ?_
  rintro e w5 ⟨rfl, hb5⟩
  rw [bs_list]
  have hb5' : Below W.heap.size W w5 := (Below.refl W.heap.size W).drew.trans (by exact hb5)
  obtain ⟨q', fz'⟩ := boxed_later hb5' hsz q fz
  have hbw := hb0.trans (hb5'.mono hb0.size)
  have hne : ((bs (L.drop (L.length - 4))).toList == (bs (sumOf T)).toList) = true := by rw [eq_bs]; exact decide_eq_true hyes
  have i0 := index_bs T 0 0 rfl (by omega)
  have hb256 := byteAt_lt T 0
  have hwT : w.heap.size < w5.heap.size := by have := hb5'.size; omega
  clear q fz hsz hx hy hw4
  go_wp2_with fail
  refine (measure_any T _ hT17 hTl).mono ?_
  rintro e w6 ⟨rfl, rfl⟩
  by_cases hok : decOk T = true
  · obtain ⟨hk, hm5, hm24, hlen, hmeas⟩ := decOk_parts hok
    have hm3 : (measOf T).2.2 = true := by rw [hmeas]
    have hHk : Hid (measOf T = (byteAt T 15, byteAt T (16 + 2 * byteAt T 15), true)) := hmeas
    rw [hmeas]
    have HKK : Hid (kindOk (byteAt T 0 : Nat) = true) := hk
    have hok' : Hid (decOk T = true) := hok
    clear hmeas hm3 hk hok
    have HE : Hid (pEnts T = entsFrom T (17 + 2 * byteAt T 15) (byteAt T (16 + 2 * byteAt T 15))) := rfl
    have HM : Hid (pMems T = numsFrom T 16 (byteAt T 15)) := rfl
    go_wp2_with fail
    refine (isKind_any _ _).mono ?_
    rintro e w7 ⟨rfl, rfl⟩
    rw [HKK.out]
    go_wp2_with fail
    refine (readBody_any T _ _ _ hm5 hm24 hlen).mono ?_
    rintro e w8 ⟨hb8, mem, log, rfl, om, ol⟩
    have r1 : ∀ j, w8.cell? ⟨w.heap.size, j, none⟩ = #[.int .i64 0, .int .i64 0, .int .i64 0, .int .i64 0, .int .i64 0, .int .i64 0, .int .i64 0, .int .i64 0, .slice none 0 0, .slice none 0 0][j]? := fun j => (hb8.cell (p := ⟨w.heap.size, j, none⟩) hwT).trans (q' j)
    have r2 : ∀ j, w8.frozen? ⟨w.heap.size, j, none⟩ = false := fun j => (hb8.frozen (p := ⟨w.heap.size, j, none⟩) hwT).trans (fz' j)
    have hbw8 := hbw.trans (hb8.mono hbw.size)
    obtain ⟨am, cm, hvm⟩ := owns_shape om
    obtain ⟨al, cl, hvl⟩ := owns_shape ol
    rw [hvm, hvl]
    have Hvm : Hid (mem = .slice am (byteAt T 15) cm) := hvm
    have Hvl : Hid (log = .slice al (byteAt T (16 + 2 * byteAt T 15)) cl) := hvl
    clear hvm hvl i0 q' fz'
    go_wp2_with fail
    refine bodyPost_ret (v := .tuple #[.agg #[.int .i64 (pKind T), .int .i64 (numAt T 1), .int .i64 (numAt T 3), .int .i64 (numAt T 5), .int .i64 (numAt T 7), .int .i64 (numAt T 9), .int .i64 (numAt T 11), .int .i64 (numAt T 13), mem, log], .int .i64 0]) (by simp [results, Try.results14, go_sem, r1, Hvm.out, Hvl.out]) rfl ⟨?_, .inl ⟨hok'.out, mem, log, ?_, ?_, rfl⟩⟩
    · iterate 10 refine Below.setCell ?_ (by exact Nat.le_refl _) _
      exact hbw8
    · iterate 10 refine ownsRow_setCell_below ?_ (by exact Nat.lt_succ_self _) _
      rw [HM.out, numsFrom_length]
      exact owns_base om (by omega)
    · iterate 10 refine ownsRow_setCell_below ?_ (by exact Nat.lt_succ_self _) _
      rw [HE.out, entsFrom_length]
      exact owns_base ol (by omega)
  · have hfin : ∀ w', WDecPost T w (.returned (.tuple #[.agg #[.int .i64 0, .int .i64 0, .int .i64 0, .int .i64 0, .int .i64 0, .int .i64 0, .int .i64 0, .int .i64 0, .slice none 0 0, .slice none 0 0], .int .i64 1])) w' := fun w' => .inr ⟨by simpa using hok, rfl⟩
    cases hm : (measOf T).2.2 with
    | false =>
      go_wp2_with fail
      refine bodyPost_ret (v := .tuple #[.agg #[.int .i64 0, .int .i64 0, .int .i64 0, .int .i64 0, .int .i64 0, .int .i64 0, .int .i64 0, .int .i64 0, .slice none 0 0, .slice none 0 0], .int .i64 1]) (by simp [results, Try.results14, go_sem, q']) rfl ⟨?_, hfin _⟩
      iterate 10 refine Below.setCell ?_ (by exact Nat.le_refl _) _
      exact hbw
    | true =>
      have hk : Hid (kindOk (byteAt T 0 : Nat) = false) := decOk_kind hok hm
      go_wp2_with fail
      refine (isKind_any _ _).mono ?_
      rintro e w7 ⟨rfl, rfl⟩
      rw [hk.out]
      go_wp2_with fail
      refine bodyPost_ret (v := .tuple #[.agg #[.int .i64 0, .int .i64 0, .int .i64 0, .int .i64 0, .int .i64 0, .int .i64 0, .int .i64 0, .int .i64 0, .slice none 0 0, .slice none 0 0], .int .i64 1]) (by simp [results, Try.results14, go_sem, q']) rfl ⟨?_, hfin _⟩
      iterate 10 refine Below.setCell ?_ (by exact Nat.le_refl _) _
      exact hbw
end Go.Proofs.Ytgieeeeeiggoeaa
