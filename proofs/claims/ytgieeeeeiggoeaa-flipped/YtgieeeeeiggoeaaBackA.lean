import Derived.Test.YtgieeeeeiggoeaaPickA
import Derived.Test.YtgieeeeeiggoeaaSameMsg
namespace Go.Proofs.Ytgieeeeeiggoeaa
open Go.RowKit

def numI (l : List Int) (i : Nat) : Int := pickI (l.getD i 0) 65536 - 1

theorem numI_ok (l : List Int) (i : Nat) : -1 ≤ numI l i ∧ numI l i ≤ 65534 := by
  have := pickI_lt (l.getD i 0) 65536 (by omega)
  unfold numI; omega

set_option maxHeartbeats 400000 in
theorem number_keep (v : Value) (l : List Int) (i : Nat) (w : World) (hv : IntsAt w v l) (hl : I64s l) (hi : i ≤ 1000) :
    Calls Try.prog 50 #[v, .int .i64 (i : Int)] w fun e w' => e = .returned (.int .i64 (numI l i)) ∧ w' = w := by
  have hx := hl.getD i
  have hp := pickI_lt (l.getD i 0) 65536 (by omega)
  have H : Hid (numI l i = pickI (l.getD i 0) 65536 - 1) := hideA rfl
  have hraw := raw_any v l i w hv hi
  generalize l.getD i 0 = x at *
  go_enter Try.func50, Try.ntmps50
  go_wp2_with fail
  refine hraw.mono ?_
  rintro e w1 ⟨rfl, rfl⟩
  clear hraw
  go_wp2_with fail
  refine (pick_any _ _ _ (by omega) (by omega) hx.1 hx.2).mono ?_
  rintro e w2 ⟨rfl, rfl⟩
  go_wp2_with fail
  go_ret
  exact ⟨by rw [H.out]; rfl, rfl⟩
end Go.Proofs.Ytgieeeeeiggoeaa
