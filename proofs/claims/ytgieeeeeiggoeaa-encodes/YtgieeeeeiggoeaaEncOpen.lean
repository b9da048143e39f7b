import Derived.Test.YtgieeeeeiggoeaaLentC
import Derived.ProofKit
import Derived.OpenShut
import Derived.Deep.Slices
import Derived.SizedLaws
namespace Go.Proofs.Ytgieeeeeiggoeaa
open Go.ChangeShapes Go.WideShapes Go.ChangeAt Go.RowKit Go.Deep

section
variable {H : Type} {enc : TypeId × Value → H} {W : World}

theorem cells_int : Try.prog.cellsOf 3 = 1 := by kernel_rfl
theorem cells_ent : Try.prog.cellsOf 59 = 5 := by kernel_rfl
theorem cells_msg : Try.prog.cellsOf 25 = 10 := by kernel_rfl
theorem cells_row : Try.prog.cellsOf 22 = 1 := by kernel_rfl
theorem cells_log : Try.prog.cellsOf 23 = 1 := by kernel_rfl

theorem list5 {cs : List Value} (h : cs.length = 5) : ∃ c0 c1 c2 c3 c4, cs = [c0, c1, c2, c3, c4] := by
  match cs, h with
  | [c0, c1, c2, c3, c4], _ => exact ⟨c0, c1, c2, c3, c4, rfl⟩

set_option maxRecDepth 100000 in
theorem list10 {cs : List Value} (h : cs.length = 10) : ∃ c0 c1 c2 c3 c4 c5 c6 c7 c8 c9, cs = [c0, c1, c2, c3, c4, c5, c6, c7, c8, c9] := by
  match cs, h with
  | [c0, c1, c2, c3, c4, c5, c6, c7, c8, c9], _ => exact ⟨c0, c1, c2, c3, c4, c5, c6, c7, c8, c9, rfl⟩

theorem int_cell {n : Nat} {c : Value} {xs : List (DataW H × List MemPlace)} {i : Nat} (hi : i < xs.length) (h : DataW.trod enc Try.prog W 0 (fun _ => true) true n 3 [c] = xs[i]?) : ∃ z, c = .int .i64 z := by
  rw [List.getElem?_eq_getElem hi] at h
  obtain ⟨z, hz, _⟩ := DataW.trod_int Try.underlying3 h
  exact ⟨z, by simpa using hz⟩

/-- An entry that came in. -/
theorem open_entry {n : Nat} {cs : List Value} {x : DataW H × List MemPlace} (h : DataW.trod enc Try.prog W 0 (fun _ => true) true n 59 cs = some x) :
    ∃ e : Ent, cs = [.int .i64 e.client, .int .i64 e.seq, .int .i64 e.kind, .int .i64 e.key, .int .i64 e.value] := by
  obtain ⟨xs, m, _, _, hl, hlen, hf⟩ := DataW.trod_struct Try.underlying59 h
  obtain ⟨c0, c1, c2, c3, c4, rfl⟩ := list5 (hl.trans cells_ent)
  have hlen' : xs.length = 5 := hlen
  have f0 : DataW.trod enc Try.prog W 0 (fun _ => true) true m 3 (([c0, c1, c2, c3, c4].drop 0).take (Try.prog.cellsOf 3)) = xs[0]? := hf 0 _ rfl
  have f1 : DataW.trod enc Try.prog W 0 (fun _ => true) true m 3 (([c0, c1, c2, c3, c4].drop 1).take (Try.prog.cellsOf 3)) = xs[1]? := hf 1 _ rfl
  have f2 : DataW.trod enc Try.prog W 0 (fun _ => true) true m 3 (([c0, c1, c2, c3, c4].drop 2).take (Try.prog.cellsOf 3)) = xs[2]? := hf 2 _ rfl
  have f3 : DataW.trod enc Try.prog W 0 (fun _ => true) true m 3 (([c0, c1, c2, c3, c4].drop 3).take (Try.prog.cellsOf 3)) = xs[3]? := hf 3 _ rfl
  have f4 : DataW.trod enc Try.prog W 0 (fun _ => true) true m 3 (([c0, c1, c2, c3, c4].drop 4).take (Try.prog.cellsOf 3)) = xs[4]? := hf 4 _ rfl
  rw [cells_int] at f0 f1 f2 f3 f4
  obtain ⟨z0, rfl⟩ := int_cell (by omega) f0
  obtain ⟨z1, rfl⟩ := int_cell (by omega) f1
  obtain ⟨z2, rfl⟩ := int_cell (by omega) f2
  obtain ⟨z3, rfl⟩ := int_cell (by omega) f3
  obtain ⟨z4, rfl⟩ := int_cell (by omega) f4
  exact ⟨⟨z0, z1, z2, z3, z4⟩, rfl⟩

/-- A log that came in. -/
theorem open_log {n : Nat} {v : Value} {x : DataW H × List MemPlace} (h : DataW.trod enc Try.prog W 0 (fun _ => true) true n 23 [v] = some x) :
    ∃ es : List Ent, LogAt W v es ∧ (es = [] ∨ ∃ el sp, x.1 = .slice el sp ∧ el.length = es.length) := by
  rcases open_slice Try.underlying23 h with ⟨hcs, _⟩ | ⟨a, len, cap, m, k, D, Pl, hcs, hb, hl, hm, hmm, rfl, hx⟩
  · obtain rfl : v = .slice none 0 0 := by simpa using hcs
    exact ⟨[], ⟨none, 0, rfl, fun i hi => absurd hi (Nat.not_lt_zero _)⟩, .inl rfl⟩
  · obtain rfl : v = .slice (some a) len cap := by simpa using hcs
    have hm' : m = cap := by simpa using hmm
    have ad2 : ∀ x y, (a.add x).add y = a.add (x + y) := by
      intro x y
      unfold Addr.add
      by_cases hx : x = 0 <;> by_cases hy : y = 0 <;> simp [hx, hy, Nat.add_assoc]
    haveI : Inhabited Ent := ⟨Ent.zero⟩
    obtain ⟨E, hE⟩ := choose_lt (α := Ent) (n := len) (p := fun i e => ∀ j, j < 5 → W.cell? (a.add (i * 5 + j)) = [Value.int .i64 e.client, .int .i64 e.seq, .int .i64 e.kind, .int .i64 e.key, .int .i64 e.value][j]?) (fun i hi => by
      obtain ⟨cs', h1, h2⟩ := hx i (by omega)
      obtain ⟨e, rfl⟩ := open_entry h2
      rw [cells_ent] at h1
      refine ⟨e, fun j hj => ?_⟩
      have := (World.cells?_some h1).2.2 j hj
      rw [← this, ad2])
    refine ⟨(List.range len).map E, ⟨some a, cap, by simp, fun i hi => ?_⟩, .inr ⟨_, _, rfl, by simp⟩⟩
    have hi' : i < len := by simpa using hi
    have hs := hE i hi'
    obtain ⟨b, off, spot⟩ := a
    have hspot : spot = none := by simpa [Addr.add] using World.cell?_spot (hE 0 (by omega) 0 (by omega))
    subst hspot
    have hg : ((List.range len).map E).getD i Ent.zero = E i := by simp [List.getD, hi']
    rw [hg]
    have ad : ∀ j, (⟨b, off, none⟩ : Addr).add j = ⟨b, off + j, none⟩ := fun j => by unfold Addr.add; simp
    refine ⟨b, off, rfl, ?_, ?_, ?_, ?_, ?_⟩
    · have := hs 0 (by omega); rw [ad] at this; exact this
    · have := hs 1 (by omega); rw [ad] at this; exact this
    · have := hs 2 (by omega); rw [ad] at this; exact this
    · have := hs 3 (by omega); rw [ad] at this; exact this
    · have := hs 4 (by omega); rw [ad] at this; exact this

/-- A list of numbers that came in. -/
theorem open_members {n : Nat} {v : Value} {x : DataW H × List MemPlace} (h : DataW.trod enc Try.prog W 0 (fun _ => true) true n 22 [v] = some x) :
    ∃ ms : List Int, IntsAt W v ms ∧ (ms = [] ∨ ∃ el sp, x.1 = .slice el sp ∧ el.length = ms.length) := by
  rcases open_ints Try.underlying22 Try.underlying3 (by kernel_rfl) h with ⟨hcs, _⟩ | ⟨a, len, cap, zs, hcs, _, hl, hm, hz, rfl, hcell, _⟩
  · obtain rfl : v = .slice none 0 0 := by simpa using hcs
    exact ⟨[], ⟨none, 0, rfl, fun i hi => absurd hi (Nat.not_lt_zero _)⟩, .inl rfl⟩
  · obtain rfl : v = .slice (some a) len cap := by simpa using hcs
    have hz' : zs.length = cap := by simpa using hz
    have hlen : (zs.take len).length = len := by rw [List.length_take]; omega
    refine ⟨zs.take len, ⟨some a, cap, by rw [hlen], fun i hi => ?_⟩, .inr ⟨_, _, rfl, by simp [lits]⟩⟩
    rw [hlen] at hi
    obtain ⟨b, off, rfl, hc⟩ := ints_at hcell (by omega)
    refine ⟨b, off, rfl, ?_⟩
    rw [hc i (by omega)]
    simp [List.getD, hi]

set_option maxRecDepth 100000 in
/-- A message that came in. -/
theorem open_msg {r : Reach} {b0 : Nat} {v : Value} {d : DataW H} {p : List MemPlace} (hv : Value.okWide Try.prog W r b0 25 v) (h : DataW.Trod enc Try.prog W 0 (fun _ => true) true 25 v d p) :
    ∃ k f t ep ba vo po va mem log ms es parts, v = .agg #[.int .i64 k, .int .i64 f, .int .i64 t, .int .i64 ep, .int .i64 ba, .int .i64 vo, .int .i64 po, .int .i64 va, mem, log] ∧ IntsAt W mem ms ∧ LogAt W log es ∧ d = .agg parts ∧
      (ms = [] ∨ ∃ el sp, parts[8]? = some (.slice el sp) ∧ el.length = ms.length) ∧ (es = [] ∨ ∃ el sp, parts[9]? = some (.slice el sp) ∧ el.length = es.length) := by
  obtain ⟨cs, rfl, hsz⟩ := okWide_struct Try.underlying25 hv
  obtain ⟨l⟩ := cs
  obtain ⟨c0, c1, c2, c3, c4, c5, c6, c7, c8, c9, rfl⟩ := list10 (cs := l) (hsz.trans cells_msg)
  obtain ⟨fuel, hf0⟩ := h
  obtain ⟨xs, m, _, hx, hl, hlen, hf⟩ := DataW.trod_struct Try.underlying25 hf0
  have hlen' : xs.length = 10 := hlen
  have hcs : (Value.agg #[c0, c1, c2, c3, c4, c5, c6, c7, c8, c9]).cells.toList = [c0, c1, c2, c3, c4, c5, c6, c7, c8, c9] := by simp [Value.cells]
  rw [hcs] at hf
  have f0 : DataW.trod enc Try.prog W 0 (fun _ => true) true m 3 (([c0, c1, c2, c3, c4, c5, c6, c7, c8, c9].drop 0).take (Try.prog.cellsOf 3)) = xs[0]? := hf 0 _ rfl
  have f1 : DataW.trod enc Try.prog W 0 (fun _ => true) true m 3 (([c0, c1, c2, c3, c4, c5, c6, c7, c8, c9].drop 1).take (Try.prog.cellsOf 3)) = xs[1]? := hf 1 _ rfl
  have f2 : DataW.trod enc Try.prog W 0 (fun _ => true) true m 3 (([c0, c1, c2, c3, c4, c5, c6, c7, c8, c9].drop 2).take (Try.prog.cellsOf 3)) = xs[2]? := hf 2 _ rfl
  have f3 : DataW.trod enc Try.prog W 0 (fun _ => true) true m 3 (([c0, c1, c2, c3, c4, c5, c6, c7, c8, c9].drop 3).take (Try.prog.cellsOf 3)) = xs[3]? := hf 3 _ rfl
  have f4 : DataW.trod enc Try.prog W 0 (fun _ => true) true m 3 (([c0, c1, c2, c3, c4, c5, c6, c7, c8, c9].drop 4).take (Try.prog.cellsOf 3)) = xs[4]? := hf 4 _ rfl
  have f5 : DataW.trod enc Try.prog W 0 (fun _ => true) true m 3 (([c0, c1, c2, c3, c4, c5, c6, c7, c8, c9].drop 5).take (Try.prog.cellsOf 3)) = xs[5]? := hf 5 _ rfl
  have f6 : DataW.trod enc Try.prog W 0 (fun _ => true) true m 3 (([c0, c1, c2, c3, c4, c5, c6, c7, c8, c9].drop 6).take (Try.prog.cellsOf 3)) = xs[6]? := hf 6 _ rfl
  have f7 : DataW.trod enc Try.prog W 0 (fun _ => true) true m 3 (([c0, c1, c2, c3, c4, c5, c6, c7, c8, c9].drop 7).take (Try.prog.cellsOf 3)) = xs[7]? := hf 7 _ rfl
  have f8 : DataW.trod enc Try.prog W 0 (fun _ => true) true m 22 (([c0, c1, c2, c3, c4, c5, c6, c7, c8, c9].drop 8).take (Try.prog.cellsOf 22)) = xs[8]? := hf 8 _ rfl
  have f9 : DataW.trod enc Try.prog W 0 (fun _ => true) true m 23 (([c0, c1, c2, c3, c4, c5, c6, c7, c8, c9].drop 9).take (Try.prog.cellsOf 23)) = xs[9]? := hf 9 _ rfl
  rw [cells_int] at f0 f1 f2 f3 f4 f5 f6 f7
  rw [cells_row] at f8
  rw [cells_log] at f9
  obtain ⟨z0, rfl⟩ := int_cell (by omega) f0
  obtain ⟨z1, rfl⟩ := int_cell (by omega) f1
  obtain ⟨z2, rfl⟩ := int_cell (by omega) f2
  obtain ⟨z3, rfl⟩ := int_cell (by omega) f3
  obtain ⟨z4, rfl⟩ := int_cell (by omega) f4
  obtain ⟨z5, rfl⟩ := int_cell (by omega) f5
  obtain ⟨z6, rfl⟩ := int_cell (by omega) f6
  obtain ⟨z7, rfl⟩ := int_cell (by omega) f7
  have e8 : xs[8]? = some xs[8] := List.getElem?_eq_getElem (by omega)
  have e9 : xs[9]? = some xs[9] := List.getElem?_eq_getElem (by omega)
  rw [e8] at f8
  rw [e9] at f9
  obtain ⟨ms, hms, h8⟩ := open_members f8
  obtain ⟨es, hes, h9⟩ := open_log f9
  have hd : d = .agg (xs.map (·.1)) := (Prod.mk.inj hx).1
  refine ⟨z0, z1, z2, z3, z4, z5, z6, z7, c8, c9, ms, es, xs.map (·.1), rfl, hms, hes, hd, ?_, ?_⟩
  · rcases h8 with h | ⟨el, sp, h, hn⟩
    · exact .inl h
    · exact .inr ⟨el, sp, by rw [List.getElem?_map, e8, ← h]; rfl, hn⟩
  · rcases h9 with h | ⟨el, sp, h, hn⟩
    · exact .inl h
    · exact .inr ⟨el, sp, by rw [List.getElem?_map, e9, ← h]; rfl, hn⟩

theorem bytes_int : Try.prog.bytesOf 3 = 8 := by kernel_rfl
theorem bytes_ent : Try.prog.bytesOf 59 = 40 := by kernel_rfl

theorem sized_part {ts : List TypeId} {ds : List (DataW H)} {parts : List (DataW H)} {j : Nat} {t e : TypeId} {el sp : List (DataW H)} (hsz : (DataW.weightsEach Try.prog (25 :: ts) (.agg parts :: ds)).all (· ≤ reachBytes) = true)
    (ht : ([3, 3, 3, 3, 3, 3, 3, 3, 22, 23] : List TypeId)[j]? = some t) (hu : Try.prog.underlying t = some (.slice e)) (hp : parts[j]? = some (.slice el sp)) : (el.length + sp.length) * Try.prog.bytesOf e ≤ reachBytes := by
  have h1 : (el.length + sp.length) * Try.prog.bytesOf e ∈ DataW.weights Try.prog t (.slice el sp) := by simp [DataW.weights, hu]
  have h2 := DataW.weights_mem_each (P := Try.prog) ht hp _ h1
  have h3 : (el.length + sp.length) * Try.prog.bytesOf e ∈ DataW.weights Try.prog 25 (.agg parts) := by
    simp only [DataW.weights, Try.underlying25]
    exact h2
  have h4 := DataW.weights_mem_each (P := Try.prog) (ts := 25 :: ts) (ds := .agg parts :: ds) (j := 0) rfl rfl _ h3
  have := List.all_eq_true.1 hsz _ h4
  simpa using this

end
end Go.Proofs.Ytgieeeeeiggoeaa
