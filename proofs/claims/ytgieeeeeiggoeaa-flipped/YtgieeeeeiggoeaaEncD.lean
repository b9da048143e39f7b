import Derived.Test.YtgieeeeeiggoeaaEncB
namespace Go.Proofs.Ytgieeeeeiggoeaa
open Go.RowKit Go.Shelf

set_option maxRecDepth 100000 in
set_option maxHeartbeats 1000000 in
theorem hasBytes_short (k f t ep ba vo po va : Int) (am al : Option Addr) (lm cm ll cl : Nat) (w : World) (hno : ¬ (1 ≤ k ∧ k ≤ 16 ∧ lm ≤ 5 ∧ ll ≤ 24)) :
    Calls Try.prog 25 #[.agg #[.int .i64 k, .int .i64 f, .int .i64 t, .int .i64 ep, .int .i64 ba, .int .i64 vo, .int .i64 po, .int .i64 va, .slice am lm cm, .slice al ll cl]] w fun e w' => e = .returned (.bool false) ∧ Below w.heap.size w w' := by
  have hb : ∀ o o', Below w.heap.size w ((w.alloc o).alloc o') := fun o o' => ((Below.refl _ _).alloc (Nat.le_refl _) _).alloc (by simp) _
  by_cases hk : 1 ≤ k ∧ k ≤ 16
  · have hk' : Hid (kindOk k = true) := hideA (by unfold kindOk; simp [hk.1, hk.2])
    by_cases h3 : 5 < lm
    · clear hno hk
      go_enter Try.func25, Try.ntmps25
      go_wp2_with fail
      refine (isKind_any _ _).mono ?_
      rintro e W' ⟨rfl, rfl⟩
      rw [hk'.out]
      go_wp2_with fail
      exact bodyPost_ret (v := .bool false) (by simp [results, Try.results25, go_sem]) rfl ⟨rfl, hb _ _⟩
    · have h4 : 24 < ll := by omega
      clear hno hk
      go_enter Try.func25, Try.ntmps25
      go_wp2_with fail
      refine (isKind_any _ _).mono ?_
      rintro e W' ⟨rfl, rfl⟩
      rw [hk'.out]
      go_wp2_with fail
      exact bodyPost_ret (v := .bool false) (by simp [results, Try.results25, go_sem]) rfl ⟨rfl, hb _ _⟩
  · have hk' : Hid (kindOk k = false) := hideA (by
      unfold kindOk
      by_cases h1 : 1 ≤ k <;> by_cases h2 : k ≤ 16 <;> simp_all)
    clear hno hk
    go_enter Try.func25, Try.ntmps25
    go_wp2_with fail
    refine (isKind_any _ _).mono ?_
    rintro e W' ⟨rfl, rfl⟩
    rw [hk'.out]
    go_wp2_with fail
    exact bodyPost_ret (v := .bool false) (by simp [results, Try.results25, go_sem]) rfl ⟨rfl, hb _ _⟩
end Go.Proofs.Ytgieeeeeiggoeaa
