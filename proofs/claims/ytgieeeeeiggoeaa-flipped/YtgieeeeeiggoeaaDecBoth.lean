import Derived.Test.YtgieeeeeiggoeaaWireD
import Derived.Test.YtgieeeeeiggoeaaRefF
namespace Go.Proofs.Ytgieeeeeiggoeaa
open Go.RowKit

/-- The value that Decode answers, its two lists given. -/
def Dec.value (d : Dec) (mem log : Value) : Value :=
  .tuple #[.agg #[.int .i64 d.k, .int .i64 d.f, .int .i64 d.t, .int .i64 d.ep, .int .i64 d.ba, .int .i64 d.vo, .int .i64 d.po, .int .i64 d.va, mem, log], .int .i64 d.err]

theorem wireDecode_any (L : List UInt8) (w : World) (hm : L.length ≤ 140737488355328) :
    Calls Try.prog 14 #[.string (bs L)] w fun e w' => Below w.heap.size w w' ∧ ∃ mem log, e = .returned ((decOf L).value mem log) ∧
      w'.ownsRow (w.heap.size + 1) 3 1 mem (decOf L).ms.length (ints (decOf L).ms) ∧ w'.ownsRow (w.heap.size + 1) 59 5 log (decOf L).es.length (ints (entsNums (decOf L).es)) := by
  by_cases h : L.length < 21
  · refine (wireDecode_a L w h).mono ?_
    rintro e w' ⟨hb, rfl⟩
    rw [decOf_a h]
    exact ⟨hb, _, _, rfl, World.ownsRow_nil _ _ _ _, World.ownsRow_nil _ _ _ _⟩
  · by_cases h2 : L.drop (L.length - 4) ≠ sumOf (L.take (L.length - 4))
    · refine (wireDecode_b L _ w (by omega) hm rfl h2).mono ?_
      rintro e w' ⟨hb, rfl⟩
      rw [decOf_b h h2]
      exact ⟨hb, _, _, rfl, World.ownsRow_nil _ _ _ _, World.ownsRow_nil _ _ _ _⟩
    · refine (wireDecode_c L _ w (by omega) hm rfl (by simpa using h2)).mono ?_
      rintro e w' ⟨hb, hp⟩
      rcases hp with ⟨h3, mem, log, o1, o2, rfl⟩ | ⟨h3, rfl⟩
      · rw [decOf_d h h2 h3]
        exact ⟨hb, mem, log, rfl, o1, o2⟩
      · rw [decOf_c h h2 (by simp [h3])]
        exact ⟨hb, _, _, rfl, World.ownsRow_nil _ _ _ _, World.ownsRow_nil _ _ _ _⟩

theorem IntsAt.nil (w : World) : IntsAt w (.slice none 0 0) [] := ⟨none, 0, rfl, fun _ hi => absurd hi (Nat.not_lt_zero _)⟩
theorem LogAt.nil (w : World) : LogAt w (.slice none 0 0) [] := ⟨none, 0, rfl, fun _ hi => absurd hi (Nat.not_lt_zero _)⟩

theorem refDecode_any (L : List UInt8) (w : World) (hm : L.length ≤ 140737488355328) :
    Calls Try.prog 15 #[.string (bs L)] w fun e w' => Below w.heap.size w w' ∧ ∃ mem log, e = .returned ((decOf L).value mem log) ∧
      w'.ownsRow (w.heap.size + 1) 3 1 mem (decOf L).ms.length (ints (decOf L).ms) ∧ w'.ownsRow (w.heap.size + 1) 59 5 log (decOf L).es.length (ints (entsNums (decOf L).es)) := by
  by_cases h : L.length < 21
  · refine (refDecode_a L w h).mono ?_
    rintro e w' ⟨hb, rfl⟩
    rw [decOf_a h]
    exact ⟨hb, _, _, rfl, World.ownsRow_nil _ _ _ _, World.ownsRow_nil _ _ _ _⟩
  · have hs := sum_iff L _ (by omega) rfl
    by_cases h2 : L.drop (L.length - 4) ≠ sumOf (L.take (L.length - 4))
    · refine (refDecode_b L _ w (by omega) hm rfl (fun e => h2 (hs.1 e))).mono ?_
      rintro e w' ⟨hb, rfl⟩
      rw [decOf_b h h2]
      exact ⟨hb, _, _, rfl, World.ownsRow_nil _ _ _ _, World.ownsRow_nil _ _ _ _⟩
    · have he := hs.2 (by simpa using h2)
      have hi := decOk_iff _ _ he
      refine (refDecode_c L _ w (by omega) hm rfl he).mono ?_
      rintro e w' ⟨hb, hp⟩
      rcases hp with ⟨h3, mem, log, o1, o2, rfl⟩ | ⟨h3, rfl⟩
      · rw [decOf_d h h2 (hi.2 h3)]
        exact ⟨hb, mem, log, rfl, o1, o2⟩
      · rw [decOf_c h h2 (fun h4 => h3 (hi.1 h4))]
        exact ⟨hb, _, _, rfl, World.ownsRow_nil _ _ _ _, World.ownsRow_nil _ _ _ _⟩

end Go.Proofs.Ytgieeeeeiggoeaa
