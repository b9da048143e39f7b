import Derived.Test.YtgieeeeeiggoeaaSame
namespace Go.Proofs.Ytgieeeeeiggoeaa
open Go.RowKit

set_option maxHeartbeats 1000000 in
set_option maxRecDepth 100000 in
theorem cordonlaw_sameMsg (k f t ep ba vo po va : Int) (mem log mem2 log2 : Value) (ms : List Int) (es : List Ent) (w : World) (h1 : IntsAt w mem ms) (h2 : IntsAt w mem2 ms) (h3 : LogAt w log es) (h4 : LogAt w log2 es)
    (hm : ms.length ≤ 140737488355328) (he : es.length ≤ 140737488355328) :
    Calls Try.prog 16 #[.agg #[.int .i64 k, .int .i64 f, .int .i64 t, .int .i64 ep, .int .i64 ba, .int .i64 vo, .int .i64 po, .int .i64 va, mem, log], .agg #[.int .i64 k, .int .i64 f, .int .i64 t, .int .i64 ep, .int .i64 ba, .int .i64 vo, .int .i64 po, .int .i64 va, mem2, log2]] w fun e w' => e = .returned (.bool true) ∧ Below w.heap.size w w' := by
  have hm1 := h1
  have hm2 := h2
  have hl1 := h3
  have hl2 := h4
  obtain ⟨a1, c1, rfl, -⟩ := hm1
  obtain ⟨a2, c2, rfl, -⟩ := hm2
  obtain ⟨a3, c3, rfl, -⟩ := hl1
  obtain ⟨a4, c4, rfl, -⟩ := hl2
  have hb : ∀ o o', Below w.heap.size w ((w.alloc o).alloc o') := fun o o' => ((Below.refl _ _).alloc (Nat.le_refl _) _).alloc (by simp) _
  go_enter Try.func16, Try.ntmps16
  go_wp2_with fail
  refine (cordonlaw_sameInts _ _ ms _ (h1.below (hb _ _)) (h2.below (hb _ _)) hm).mono ?_
  rintro e w1 ⟨rfl, q1, rfl⟩
  go_wp2_with fail
  refine (cordonlaw_sameLogs _ _ es _ (h3.below (below_drewN (hb _ _) _)) (h4.below (below_drewN (hb _ _) _)) he).mono ?_
  rintro e w2 ⟨rfl, q2, rfl⟩
  go_wp2_with fail
  go_ret
  exact ⟨rfl, below_drewN (hb _ _) _⟩

set_option maxHeartbeats 1000000 in
set_option maxRecDepth 100000 in
theorem cordonkeep_sameMsg (k f t ep ba vo po va : Int) (mem log mem2 log2 : Value) (ms : List Int) (es : List Ent) (w : World) (h1 : IntsAt w mem ms) (h2 : IntsAt w mem2 ms) (h3 : LogAt w log es) (h4 : LogAt w log2 es)
    (hm : ms.length ≤ 140737488355328) (he : es.length ≤ 140737488355328) :
    Calls Try.prog 23 #[.agg #[.int .i64 k, .int .i64 f, .int .i64 t, .int .i64 ep, .int .i64 ba, .int .i64 vo, .int .i64 po, .int .i64 va, mem, log], .agg #[.int .i64 k, .int .i64 f, .int .i64 t, .int .i64 ep, .int .i64 ba, .int .i64 vo, .int .i64 po, .int .i64 va, mem2, log2]] w fun e w' => e = .returned (.bool true) ∧ Below w.heap.size w w' := by
  have hm1 := h1
  have hm2 := h2
  have hl1 := h3
  have hl2 := h4
  obtain ⟨a1, c1, rfl, -⟩ := hm1
  obtain ⟨a2, c2, rfl, -⟩ := hm2
  obtain ⟨a3, c3, rfl, -⟩ := hl1
  obtain ⟨a4, c4, rfl, -⟩ := hl2
  have hb : ∀ o o', Below w.heap.size w ((w.alloc o).alloc o') := fun o o' => ((Below.refl _ _).alloc (Nat.le_refl _) _).alloc (by simp) _
  go_enter Try.func23, Try.ntmps23
  go_wp2_with fail
  refine (cordonkeep_sameInts _ _ ms _ (h1.below (hb _ _)) (h2.below (hb _ _)) hm).mono ?_
  rintro e w1 ⟨rfl, q1, rfl⟩
  go_wp2_with fail
  refine (cordonkeep_sameLogs _ _ es _ (h3.below (below_drewN (hb _ _) _)) (h4.below (below_drewN (hb _ _) _)) he).mono ?_
  rintro e w2 ⟨rfl, q2, rfl⟩
  go_wp2_with fail
  go_ret
  exact ⟨rfl, below_drewN (hb _ _) _⟩
end Go.Proofs.Ytgieeeeeiggoeaa
