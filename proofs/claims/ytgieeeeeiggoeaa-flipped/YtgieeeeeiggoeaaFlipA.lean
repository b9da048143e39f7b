import Derived.Test.YtgieeeeeiggoeaaFlipList
import Derived.Test.YtgieeeeeiggoeaaBackC
import Derived.Laws.IdiomStrings
namespace Go.Proofs.Ytgieeeeeiggoeaa
open Go.RowKit

/-- A text's bytes in a block that may be written. -/
def TextIn (w : World) (g : Nat) (L : List UInt8) : Prop := ∀ j, j < L.length → w.cell? ⟨g, j, none⟩ = some (.int .u8 (byteAt L j : Nat)) ∧ w.frozen? ⟨g, j, none⟩ = false

theorem conv_text (F : List UInt8) (w : World) : ∃ (c : Nat) (W : World), (convert 9 56 (.string (bs F))).run Try.prog w = .ok (.slice (some ⟨w.heap.size, 0, none⟩) F.length c) W ∧
    Below w.heap.size w W ∧ TextIn W w.heap.size F ∧ W.heap.size = w.heap.size + 1 := by
  refine ⟨_, _, run_bytes_of_string w 9 56 5 (bs F) Try.underlying9 Try.underlying56 Try.underlying5, ?_, ?_, ?_⟩
  · exact (Below.refl _ w).drew.alloc (Nat.le_refl _) _
  · intro j hj
    have h1 := World.cell?_alloc_mark w.drew (bytesRow (bs F) (grownCap w (bs F).size 0 5)) 5 ((bytesRow (bs F) (grownCap w (bs F).size 0 5)).size, (bytesRow (bs F) (grownCap w (bs F).size 0 5)).size + 1) j
    have h2 := World.frozen?_alloc_mark w.drew (bytesRow (bs F) (grownCap w (bs F).size 0 5)) 5 (bytesRow (bs F) (grownCap w (bs F).size 0 5)).size ((bytesRow (bs F) (grownCap w (bs F).size 0 5)).size + 1) j
    have hjs : j < (bs F).data.size := hj
    rw [bytesRow_at (bs F) _ j hjs] at h1
    refine ⟨?_, ?_⟩
    · refine h1.trans ?_
      have e : byteAt F j = (bs F).data[j].toNat := byteAt_bs F j hjs
      rw [e]
    · refine h2.trans ?_
      have hsz : j < (bytesRow (bs F) (grownCap w (bs F).size 0 5)).size := by
        unfold bytesRow
        rw [Array.size_append, Array.size_map]
        omega
      simp [Nat.not_le.2 hsz]
  · exact World.size_alloc _ _

theorem conv_back {w : World} {g c : Nat} {L : List UInt8} (h : TextIn w g L) : (convert 56 9 (.slice (some ⟨g, 0, none⟩) L.length c)).run Try.prog w = .ok (.string (bs L)) w := by
  refine run_convert_bytes_back w 56 9 5 ⟨g, 0, none⟩ c L Try.underlying56 Try.underlying5 Try.underlying9 ?_
  intro j hj
  have e : (⟨g, 0, none⟩ : Addr).add j = ⟨g, j, none⟩ := by unfold Addr.add; simp; omega
  rw [e, (h j hj).1]
  simp [byteAt, List.getD, List.getElem?_eq_getElem hj]

theorem TextIn.set {w : World} {g : Nat} {L : List UInt8} (h : TextIn w g L) (k : Nat) (x : Int) (hk : k < 8 * L.length) (hx : x = ((byteAt L (k / 8) ^^^ 2 ^ (k % 8) : Nat) : Int)) :
    TextIn (w.setCell ⟨g, k / 8, none⟩ (.int .u8 x)) g (flipL L k) := by
  have hi : k / 8 < L.length := by omega
  intro j hj
  rw [flipL_length] at hj
  refine ⟨?_, by rw [World.frozen?_setCell]; exact (h j hj).2⟩
  by_cases hjk : j = k / 8
  · subst hjk
    rw [World.cell?_setCell_same' _ _ _ (by rw [(h _ hj).1]; rfl), hx]
    have hp : 2 ^ (k % 8) < 256 := Nat.lt_of_le_of_lt (Nat.pow_le_pow_right (by omega) (show k % 8 ≤ 7 by omega)) (by decide)
    have e : byteAt (flipL L k) (k / 8) = byteAt L (k / 8) ^^^ 2 ^ (k % 8) := by
      unfold byteAt flipL
      rw [List.getD, List.getElem?_set_self hi]
      simp only [Option.getD_some, UInt8.toNat_xor, UInt8.toNat_ofNat']
      rw [Nat.mod_eq_of_lt hp]
    rw [e]
  · rw [cell_set_other _ _ _ (Ne.symm hjk), (h j hj).1]
    have e : byteAt (flipL L k) j = byteAt L j := by
      unfold byteAt flipL
      rw [List.getD, List.getElem?_set_ne (Ne.symm hjk), List.getD]
    rw [e]

theorem TextIn.below {w w' : World} {g : Nat} {L : List UInt8} (h : TextIn w g L) (hb : Below w.heap.size w w') (hg : g < w.heap.size) : TextIn w' g L := by
  intro j hj
  refine ⟨?_, ?_⟩
  · rw [hb.cell (p := ⟨g, j, none⟩) hg]; exact (h j hj).1
  · rw [hb.frozen (p := ⟨g, j, none⟩) hg]; exact (h j hj).2

def bitK (n : Nat) (x : Int) : Nat := (pickI x (8 * (n : Int))).toNat

def bitsK (n : Nat) (l : List Int) (m : Nat) : List Nat := (List.range m).map fun i => bitK n (l.getD i 0)

theorem bitsK_succ (n : Nat) (l : List Int) (m : Nat) : bitsK n l (m + 1) = bitsK n l m ++ [bitK n (l.getD m 0)] := by simp [bitsK, List.range_succ]
theorem bitsK_length (n : Nat) (l : List Int) (m : Nat) : (bitsK n l m).length = m := by simp [bitsK]
theorem bitsK_lt (n : Nat) (hn : 0 < n) (l : List Int) (m : Nat) : ∀ k ∈ bitsK n l m, k < 8 * n := by
  intro k hk
  simp only [bitsK, List.mem_map] at hk
  obtain ⟨i, _, rfl⟩ := hk
  have := pickI_lt (l.getD i 0) (8 * (n : Int)) (by omega)
  unfold bitK
  omega

end Go.Proofs.Ytgieeeeeiggoeaa
