import Derived.Test.YtgieeeeeiggoeaaCodec
import Derived.Test.YtgieeeeeiggoeaaBackB
import Derived.Test.YtgieeeeeiggoeaaEncF
import Derived.Test.YtgieeeeeiggoeaaDecBoth
namespace Go.Proofs.Ytgieeeeeiggoeaa
open Go.RowKit

theorem numsI_ok (l : List Int) (n : Nat) : (numsI l n).all numOk = true := by
  rw [List.all_eq_true]
  intro x hx
  simp only [numsI, List.mem_map] at hx
  obtain ⟨i, _, rfl⟩ := hx
  exact (numOk_iff _).2 (numI_ok l i)

theorem entsI_ok (l : List Int) (n : Nat) (hn : n ≤ 24) : (entsNums (entsI l n)).all numOk = true := by
  rw [List.all_eq_true]
  intro x hx
  simp only [entsNums, List.mem_flatMap, entsI, List.mem_map, List.mem_range] at hx
  obtain ⟨e, ⟨i, hi, rfl⟩, hx⟩ := hx
  simp only [entI, Ent.nums, List.mem_cons, List.not_mem_nil, or_false] at hx
  rw [numOk_iff]
  rcases hx with rfl | rfl | rfl | rfl | rfl
  · exact numI_ok _ _
  · omega
  · exact numI_ok _ _
  · exact numI_ok _ _
  · exact numI_ok _ _

/-- The message that the numbers speak of has bytes. -/
theorem message_ok (l mem log : List Int) : msgOk (1 + pickI (l.getD 0 0) 16) [numI l 1, numI l 2, numI l 3, numI l 4, numI l 5, numI l 6, numI l 7] (numsI mem (min mem.length 5)) (entsI log (min log.length 24)) = true := by
  have hp := pickI_lt (l.getD 0 0) 16 (by omega)
  rw [msgOk_iff]
  refine ⟨⟨by omega, by omega, by rw [numsI_length]; omega, by rw [entsI_length]; omega⟩, ?_, numsI_ok _ _, entsI_ok _ _ (by omega)⟩
  rw [List.all_eq_true]
  intro x hx
  simp only [List.mem_cons, List.not_mem_nil, or_false] at hx
  rw [numOk_iff]
  rcases hx with rfl | rfl | rfl | rfl | rfl | rfl | rfl <;> exact numI_ok _ _

end Go.Proofs.Ytgieeeeeiggoeaa
