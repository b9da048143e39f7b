import Derived.Test.YtocoojmhmgjgoaaRefB
import Derived.Deep.QuietTactic
import Derived.BigQuiet
namespace Go.Proofs.Ytocoojmhmgjgoaa
open Go.RowKit

theorem hideA {p : Prop} (h : p) : Hid p := h

set_option maxHeartbeats 400000 in
theorem cordonlaw_sameInts (a b : Value) (l : List Int) (w : World) (ha : IntsAt w a l) (hb : IntsAt w b l) (hl : l.length ≤ 140737488355328) :
    Calls Try.prog 29 #[a, b] w fun e w' => e = .returned (.bool true) ∧ ∃ q, w' = w.drewN q := by
  obtain ⟨x, c, rfl, ha⟩ := ha
  obtain ⟨y, d, rfl, hb⟩ := hb
  have HA : Hid (∀ i, i < l.length → ∃ b off, x = some ⟨b, off, none⟩ ∧ w.cell? ⟨b, off + i, none⟩ = some (.int .i64 (l.getD i 0))) := ha
  have HB : Hid (∀ i, i < l.length → ∃ b off, y = some ⟨b, off, none⟩ ∧ w.cell? ⟨b, off + i, none⟩ = some (.int .i64 (l.getD i 0))) := hb
  clear ha hb
  go_enter Try.func29, Try.ntmps29
  go_wp2_with fail
  go_loopw [5] (fun i wr => ∃ k q : Nat, k ≤ l.length ∧ i = .int .i64 k ∧ wr = w.drewN q) (fun i _ => l.length - (intOf i).toNat)
  case atStart => exact ⟨0, 0, Nat.zero_le _, rfl, rfl⟩
  case round =>
    obtain ⟨k, q, hk, rfl, rfl⟩ := hrel
    have hl0 : (0 : Int) ≤ (k : Int) := by omega
    by_cases hlt : k < l.length
    · obtain ⟨b1, o1, rfl, c1⟩ := HA.out k hlt
      obtain ⟨b2, o2, rfl, c2⟩ := HB.out k hlt
      generalize l.getD k 0 = v at *
      have hl1 : (k : Int) < (l.length : Int) := by omega
      go_wp2_with fail
      go_quiet (fail)
      go_wp2_with fail
      exact ⟨⟨k + 1, _, by omega, by go_num, rfl⟩, by simp [intOf]; omega⟩
    · go_wp2_with fail
      go_ret
      exact ⟨rfl, q, rfl⟩

set_option maxHeartbeats 1000000 in
set_option maxRecDepth 100000 in
theorem cordonlaw_sameLogs (a b : Value) (l : List Ent) (w : World) (ha : LogAt w a l) (hb : LogAt w b l) (hl : l.length ≤ 140737488355328) :
    Calls Try.prog 30 #[a, b] w fun e w' => e = .returned (.bool true) ∧ ∃ q, w' = w.drewN q := by
  obtain ⟨x, c, rfl, ha⟩ := ha
  obtain ⟨y, d, rfl, hb⟩ := hb
  have HA := hideA ha
  have HB := hideA hb
  clear ha hb
  go_enter Try.func30, Try.ntmps30
  go_wp2_with fail
  go_loopw [5] (fun i wr => ∃ k q : Nat, k ≤ l.length ∧ i = .int .i64 k ∧ wr = w.drewN q) (fun i _ => l.length - (intOf i).toNat)
  case atStart => exact ⟨0, 0, Nat.zero_le _, rfl, rfl⟩
  case round =>
    obtain ⟨k, q, hk, rfl, rfl⟩ := hrel
    have hl0 : (0 : Int) ≤ (k : Int) := by omega
    by_cases hlt : k < l.length
    · obtain ⟨b1, o1, rfl, c1, c2, c3, c4, c5⟩ := HA.out k hlt
      obtain ⟨b2, o2, rfl, d1, d2, d3, d4, d5⟩ := HB.out k hlt
      generalize l.getD k Ent.zero = v at *
      have hl1 : (k : Int) < (l.length : Int) := by omega
      go_wp2_with fail
      go_quiet (fail)
      go_wp2_with fail
      exact ⟨⟨k + 1, _, by omega, by go_num, rfl⟩, by simp [intOf]; omega⟩
    · go_wp2_with fail
      go_ret
      exact ⟨rfl, q, rfl⟩

set_option maxHeartbeats 1000000 in
set_option maxRecDepth 100000 in
theorem cordonlaw_sameMsg (k f t ep ba vo po va : Int) (mem log mem2 log2 : Value) (ms : List Int) (es : List Ent) (w : World) (h1 : IntsAt w mem ms) (h2 : IntsAt w mem2 ms) (h3 : LogAt w log es) (h4 : LogAt w log2 es)
    (hm : ms.length ≤ 140737488355328) (he : es.length ≤ 140737488355328) :
    Calls Try.prog 15 #[.agg #[.int .i64 k, .int .i64 f, .int .i64 t, .int .i64 ep, .int .i64 ba, .int .i64 vo, .int .i64 po, .int .i64 va, mem, log], .agg #[.int .i64 k, .int .i64 f, .int .i64 t, .int .i64 ep, .int .i64 ba, .int .i64 vo, .int .i64 po, .int .i64 va, mem2, log2]] w fun e w' => e = .returned (.bool true) ∧ Below w.heap.size w w' := by
  have hm1 := h1
  have hm2 := h2
  have hl1 := h3
  have hl2 := h4
  obtain ⟨a1, c1, rfl, -⟩ := hm1
  obtain ⟨a2, c2, rfl, -⟩ := hm2
  obtain ⟨a3, c3, rfl, -⟩ := hl1
  obtain ⟨a4, c4, rfl, -⟩ := hl2
  have hb : ∀ o o', Below w.heap.size w ((w.alloc o).alloc o') := fun o o' => ((Below.refl _ _).alloc (Nat.le_refl _) _).alloc (by simp) _
  go_enter Try.func15, Try.ntmps15
  go_wp2_with fail
  refine (cordonlaw_sameInts _ _ ms _ (h1.below (hb _ _)) (h2.below (hb _ _)) hm).mono ?_
  rintro e w1 ⟨rfl, q1, rfl⟩
  go_wp2_with fail
  refine (cordonlaw_sameLogs _ _ es _ (h3.below (below_drewN (hb _ _) _)) (h4.below (below_drewN (hb _ _) _)) he).mono ?_
  rintro e w2 ⟨rfl, q2, rfl⟩
  go_wp2_with fail
  go_ret
  exact ⟨rfl, below_drewN (hb _ _) _⟩

set_option maxHeartbeats 400000 in
theorem cordonkeep_sameInts (a b : Value) (l : List Int) (w : World) (ha : IntsAt w a l) (hb : IntsAt w b l) (hl : l.length ≤ 140737488355328) :
    Calls Try.prog 42 #[a, b] w fun e w' => e = .returned (.bool true) ∧ ∃ q, w' = w.drewN q := by
  obtain ⟨x, c, rfl, ha⟩ := ha
  obtain ⟨y, d, rfl, hb⟩ := hb
  have HA : Hid (∀ i, i < l.length → ∃ b off, x = some ⟨b, off, none⟩ ∧ w.cell? ⟨b, off + i, none⟩ = some (.int .i64 (l.getD i 0))) := ha
  have HB : Hid (∀ i, i < l.length → ∃ b off, y = some ⟨b, off, none⟩ ∧ w.cell? ⟨b, off + i, none⟩ = some (.int .i64 (l.getD i 0))) := hb
  clear ha hb
  go_enter Try.func42, Try.ntmps42
  go_wp2_with fail
  go_loopw [5] (fun i wr => ∃ k q : Nat, k ≤ l.length ∧ i = .int .i64 k ∧ wr = w.drewN q) (fun i _ => l.length - (intOf i).toNat)
  case atStart => exact ⟨0, 0, Nat.zero_le _, rfl, rfl⟩
  case round =>
    obtain ⟨k, q, hk, rfl, rfl⟩ := hrel
    have hl0 : (0 : Int) ≤ (k : Int) := by omega
    by_cases hlt : k < l.length
    · obtain ⟨b1, o1, rfl, c1⟩ := HA.out k hlt
      obtain ⟨b2, o2, rfl, c2⟩ := HB.out k hlt
      generalize l.getD k 0 = v at *
      have hl1 : (k : Int) < (l.length : Int) := by omega
      go_wp2_with fail
      go_quiet (fail)
      go_wp2_with fail
      exact ⟨⟨k + 1, _, by omega, by go_num, rfl⟩, by simp [intOf]; omega⟩
    · go_wp2_with fail
      go_ret
      exact ⟨rfl, q, rfl⟩

set_option maxHeartbeats 1000000 in
set_option maxRecDepth 100000 in
theorem cordonkeep_sameLogs (a b : Value) (l : List Ent) (w : World) (ha : LogAt w a l) (hb : LogAt w b l) (hl : l.length ≤ 140737488355328) :
    Calls Try.prog 43 #[a, b] w fun e w' => e = .returned (.bool true) ∧ ∃ q, w' = w.drewN q := by
  obtain ⟨x, c, rfl, ha⟩ := ha
  obtain ⟨y, d, rfl, hb⟩ := hb
  have HA := hideA ha
  have HB := hideA hb
  clear ha hb
  go_enter Try.func43, Try.ntmps43
  go_wp2_with fail
  go_loopw [5] (fun i wr => ∃ k q : Nat, k ≤ l.length ∧ i = .int .i64 k ∧ wr = w.drewN q) (fun i _ => l.length - (intOf i).toNat)
  case atStart => exact ⟨0, 0, Nat.zero_le _, rfl, rfl⟩
  case round =>
    obtain ⟨k, q, hk, rfl, rfl⟩ := hrel
    have hl0 : (0 : Int) ≤ (k : Int) := by omega
    by_cases hlt : k < l.length
    · obtain ⟨b1, o1, rfl, c1, c2, c3, c4, c5⟩ := HA.out k hlt
      obtain ⟨b2, o2, rfl, d1, d2, d3, d4, d5⟩ := HB.out k hlt
      generalize l.getD k Ent.zero = v at *
      have hl1 : (k : Int) < (l.length : Int) := by omega
      go_wp2_with fail
      go_quiet (fail)
      go_wp2_with fail
      exact ⟨⟨k + 1, _, by omega, by go_num, rfl⟩, by simp [intOf]; omega⟩
    · go_wp2_with fail
      go_ret
      exact ⟨rfl, q, rfl⟩

set_option maxHeartbeats 1000000 in
set_option maxRecDepth 100000 in
theorem cordonkeep_sameMsg (k f t ep ba vo po va : Int) (mem log mem2 log2 : Value) (ms : List Int) (es : List Ent) (w : World) (h1 : IntsAt w mem ms) (h2 : IntsAt w mem2 ms) (h3 : LogAt w log es) (h4 : LogAt w log2 es)
    (hm : ms.length ≤ 140737488355328) (he : es.length ≤ 140737488355328) :
    Calls Try.prog 20 #[.agg #[.int .i64 k, .int .i64 f, .int .i64 t, .int .i64 ep, .int .i64 ba, .int .i64 vo, .int .i64 po, .int .i64 va, mem, log], .agg #[.int .i64 k, .int .i64 f, .int .i64 t, .int .i64 ep, .int .i64 ba, .int .i64 vo, .int .i64 po, .int .i64 va, mem2, log2]] w fun e w' => e = .returned (.bool true) ∧ Below w.heap.size w w' := by
  have hm1 := h1
  have hm2 := h2
  have hl1 := h3
  have hl2 := h4
  obtain ⟨a1, c1, rfl, -⟩ := hm1
  obtain ⟨a2, c2, rfl, -⟩ := hm2
  obtain ⟨a3, c3, rfl, -⟩ := hl1
  obtain ⟨a4, c4, rfl, -⟩ := hl2
  have hb : ∀ o o', Below w.heap.size w ((w.alloc o).alloc o') := fun o o' => ((Below.refl _ _).alloc (Nat.le_refl _) _).alloc (by simp) _
  go_enter Try.func20, Try.ntmps20
  go_wp2_with fail
  refine (cordonkeep_sameInts _ _ ms _ (h1.below (hb _ _)) (h2.below (hb _ _)) hm).mono ?_
  rintro e w1 ⟨rfl, q1, rfl⟩
  go_wp2_with fail
  refine (cordonkeep_sameLogs _ _ es _ (h3.below (below_drewN (hb _ _) _)) (h4.below (below_drewN (hb _ _) _)) he).mono ?_
  rintro e w2 ⟨rfl, q2, rfl⟩
  go_wp2_with fail
  go_ret
  exact ⟨rfl, below_drewN (hb _ _) _⟩
end Go.Proofs.Ytocoojmhmgjgoaa
