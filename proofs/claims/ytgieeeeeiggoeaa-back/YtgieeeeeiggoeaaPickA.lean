import Derived.Test.YtgieeeeeiggoeaaSame
import Derived.Test.YtgieeeeeiggoeaaPick
namespace Go.Proofs.Ytgieeeeeiggoeaa
open Go.RowKit

set_option maxHeartbeats 400000 in
theorem pick_any (c n : Int) (w : World) (hn : 0 < n) (hn2 : n ≤ 1000000) (h0 : -9223372036854775808 ≤ c) (h1 : c ≤ 9223372036854775807) :
    Calls Try.prog 24 #[.int .i64 c, .int .i64 n] w fun e w' => e = .returned (.int .i64 (pickI c n)) ∧ w' = w := by
  by_cases hc : c < 0
  · have H : Hid (pickI c n = (-(c + 1)) % n) := hideA (by unfold pickI; rw [if_pos hc])
    go_enter Try.func24, Try.ntmps24
    go_wp2
    go_ret
    refine ⟨ret_int ?_, rfl⟩
    rw [H.out, ← Int.neg_tmod, Int.tmod_eq_emod_of_nonneg (by omega)]
  · have H : Hid (pickI c n = c % n) := hideA (by unfold pickI; rw [if_neg hc])
    go_enter Try.func24, Try.ntmps24
    go_wp2
    go_ret
    exact ⟨ret_int (by rw [H.out]), rfl⟩

set_option maxHeartbeats 400000 in
theorem raw_any (v : Value) (l : List Int) (i : Nat) (w : World) (hv : IntsAt w v l) (_hi : i ≤ 1000) :
    Calls Try.prog 49 #[v, .int .i64 (i : Int)] w fun e w' => e = .returned (.int .i64 (l.getD i 0)) ∧ w' = w := by
  obtain ⟨a, c, rfl, hv⟩ := hv
  by_cases h : i < l.length
  · obtain ⟨b, off, rfl, hc⟩ := hv i h
    generalize l.getD i 0 = x at *
    clear hv
    go_enter Try.func49, Try.ntmps49
    go_wp2
    go_ret
    exact ⟨rfl, rfl⟩
  · have H : Hid (l.getD i 0 = 0) := hideA (by rw [List.getD, List.getElem?_eq_none (by omega)]; rfl)
    clear hv
    go_enter Try.func49, Try.ntmps49
    go_wp2
    go_ret
    exact ⟨by rw [H.out]; rfl, rfl⟩

def I64s (l : List Int) : Prop := ∀ x ∈ l, -9223372036854775808 ≤ x ∧ x ≤ 9223372036854775807

theorem I64s.getD {l : List Int} (h : I64s l) (i : Nat) : -9223372036854775808 ≤ l.getD i 0 ∧ l.getD i 0 ≤ 9223372036854775807 := by
  by_cases hi : i < l.length
  · exact h _ (by simp [List.getD, List.getElem?_eq_getElem hi])
  · rw [List.getD, List.getElem?_eq_none (by omega)]; simp

end Go.Proofs.Ytgieeeeeiggoeaa
