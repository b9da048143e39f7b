import Derived.Test.YtgieeeeeiggoeaaRefB
import Derived.Deep.QuietTactic
import Derived.BigQuiet
namespace Go.Proofs.Ytgieeeeeiggoeaa
open Go.RowKit

theorem hideA {p : Prop} (h : p) : Hid p := h

set_option maxHeartbeats 400000 in
theorem cordonlaw_sameInts (a b : Value) (l : List Int) (w : World) (ha : IntsAt w a l) (hb : IntsAt w b l) (hl : l.length ≤ 140737488355328) :
    Calls Try.prog 32 #[a, b] w fun e w' => e = .returned (.bool true) ∧ ∃ q, w' = w.drewN q := by
  obtain ⟨x, c, rfl, ha⟩ := ha
  obtain ⟨y, d, rfl, hb⟩ := hb
  have HA : Hid (∀ i, i < l.length → ∃ b off, x = some ⟨b, off, none⟩ ∧ w.cell? ⟨b, off + i, none⟩ = some (.int .i64 (l.getD i 0))) := ha
  have HB : Hid (∀ i, i < l.length → ∃ b off, y = some ⟨b, off, none⟩ ∧ w.cell? ⟨b, off + i, none⟩ = some (.int .i64 (l.getD i 0))) := hb
  clear ha hb
  go_enter Try.func32, Try.ntmps32
  go_wp2_with fail
  go_loopw [5] (fun i wr => ∃ k q : Nat, k ≤ l.length ∧ i = .int .i64 k ∧ wr = w.drewN q) (fun i _ => l.length - (intOf i).toNat)
  case atStart => exact ⟨0, 0, Nat.zero_le _, rfl, rfl⟩
  case round =>
    obtain ⟨k, q, hk, rfl, rfl⟩ := hrel
    have hl0 : (0 : Int) ≤ (k : Int) := by omega
    by_cases hlt : k < l.length
    · obtain ⟨b1, o1, rfl, c1⟩ := HA.out k hlt
      obtain ⟨b2, o2, rfl, c2⟩ := HB.out k hlt
      generalize l.getD k 0 = v at *
      have hl1 : (k : Int) < (l.length : Int) := by omega
      go_wp2_with fail
      go_quiet (fail)
      go_wp2_with fail
      exact ⟨⟨k + 1, _, by omega, by go_num, rfl⟩, by simp [intOf]; omega⟩
    · go_wp2_with fail
      go_ret
      exact ⟨rfl, q, rfl⟩

set_option maxHeartbeats 1000000 in
set_option maxRecDepth 100000 in
theorem cordonlaw_sameLogs (a b : Value) (l : List Ent) (w : World) (ha : LogAt w a l) (hb : LogAt w b l) (hl : l.length ≤ 140737488355328) :
    Calls Try.prog 33 #[a, b] w fun e w' => e = .returned (.bool true) ∧ ∃ q, w' = w.drewN q := by
  obtain ⟨x, c, rfl, ha⟩ := ha
  obtain ⟨y, d, rfl, hb⟩ := hb
  have HA := hideA ha
  have HB := hideA hb
  clear ha hb
  go_enter Try.func33, Try.ntmps33
  go_wp2_with fail
  go_loopw [5] (fun i wr => ∃ k q : Nat, k ≤ l.length ∧ i = .int .i64 k ∧ wr = w.drewN q) (fun i _ => l.length - (intOf i).toNat)
  case atStart => exact ⟨0, 0, Nat.zero_le _, rfl, rfl⟩
  case round =>
    obtain ⟨k, q, hk, rfl, rfl⟩ := hrel
    have hl0 : (0 : Int) ≤ (k : Int) := by omega
    by_cases hlt : k < l.length
    · obtain ⟨b1, o1, rfl, c1, c2, c3, c4, c5⟩ := HA.out k hlt
      obtain ⟨b2, o2, rfl, d1, d2, d3, d4, d5⟩ := HB.out k hlt
      generalize l.getD k Ent.zero = v at *
      have hl1 : (k : Int) < (l.length : Int) := by omega
      go_wp2_with fail
      go_quiet (fail)
      go_wp2_with fail
      exact ⟨⟨k + 1, _, by omega, by go_num, rfl⟩, by simp [intOf]; omega⟩
    · go_wp2_with fail
      go_ret
      exact ⟨rfl, q, rfl⟩

set_option maxHeartbeats 400000 in
theorem cordonkeep_sameInts (a b : Value) (l : List Int) (w : World) (ha : IntsAt w a l) (hb : IntsAt w b l) (hl : l.length ≤ 140737488355328) :
    Calls Try.prog 51 #[a, b] w fun e w' => e = .returned (.bool true) ∧ ∃ q, w' = w.drewN q := by
  obtain ⟨x, c, rfl, ha⟩ := ha
  obtain ⟨y, d, rfl, hb⟩ := hb
  have HA : Hid (∀ i, i < l.length → ∃ b off, x = some ⟨b, off, none⟩ ∧ w.cell? ⟨b, off + i, none⟩ = some (.int .i64 (l.getD i 0))) := ha
  have HB : Hid (∀ i, i < l.length → ∃ b off, y = some ⟨b, off, none⟩ ∧ w.cell? ⟨b, off + i, none⟩ = some (.int .i64 (l.getD i 0))) := hb
  clear ha hb
  go_enter Try.func51, Try.ntmps51
  go_wp2_with fail
  go_loopw [5] (fun i wr => ∃ k q : Nat, k ≤ l.length ∧ i = .int .i64 k ∧ wr = w.drewN q) (fun i _ => l.length - (intOf i).toNat)
  case atStart => exact ⟨0, 0, Nat.zero_le _, rfl, rfl⟩
  case round =>
    obtain ⟨k, q, hk, rfl, rfl⟩ := hrel
    have hl0 : (0 : Int) ≤ (k : Int) := by omega
    by_cases hlt : k < l.length
    · obtain ⟨b1, o1, rfl, c1⟩ := HA.out k hlt
      obtain ⟨b2, o2, rfl, c2⟩ := HB.out k hlt
      generalize l.getD k 0 = v at *
      have hl1 : (k : Int) < (l.length : Int) := by omega
      go_wp2_with fail
      go_quiet (fail)
      go_wp2_with fail
      exact ⟨⟨k + 1, _, by omega, by go_num, rfl⟩, by simp [intOf]; omega⟩
    · go_wp2_with fail
      go_ret
      exact ⟨rfl, q, rfl⟩

set_option maxHeartbeats 1000000 in
set_option maxRecDepth 100000 in
theorem cordonkeep_sameLogs (a b : Value) (l : List Ent) (w : World) (ha : LogAt w a l) (hb : LogAt w b l) (hl : l.length ≤ 140737488355328) :
    Calls Try.prog 52 #[a, b] w fun e w' => e = .returned (.bool true) ∧ ∃ q, w' = w.drewN q := by
  obtain ⟨x, c, rfl, ha⟩ := ha
  obtain ⟨y, d, rfl, hb⟩ := hb
  have HA := hideA ha
  have HB := hideA hb
  clear ha hb
  go_enter Try.func52, Try.ntmps52
  go_wp2_with fail
  go_loopw [5] (fun i wr => ∃ k q : Nat, k ≤ l.length ∧ i = .int .i64 k ∧ wr = w.drewN q) (fun i _ => l.length - (intOf i).toNat)
  case atStart => exact ⟨0, 0, Nat.zero_le _, rfl, rfl⟩
  case round =>
    obtain ⟨k, q, hk, rfl, rfl⟩ := hrel
    have hl0 : (0 : Int) ≤ (k : Int) := by omega
    by_cases hlt : k < l.length
    · obtain ⟨b1, o1, rfl, c1, c2, c3, c4, c5⟩ := HA.out k hlt
      obtain ⟨b2, o2, rfl, d1, d2, d3, d4, d5⟩ := HB.out k hlt
      generalize l.getD k Ent.zero = v at *
      have hl1 : (k : Int) < (l.length : Int) := by omega
      go_wp2_with fail
      go_quiet (fail)
      go_wp2_with fail
      exact ⟨⟨k + 1, _, by omega, by go_num, rfl⟩, by simp [intOf]; omega⟩
    · go_wp2_with fail
      go_ret
      exact ⟨rfl, q, rfl⟩

end Go.Proofs.Ytgieeeeeiggoeaa
