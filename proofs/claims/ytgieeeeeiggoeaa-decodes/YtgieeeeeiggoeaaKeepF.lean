import Derived.Test.YtgieeeeeiggoeaaKeepE
namespace Go.Proofs.Ytgieeeeeiggoeaa
open Go.RowKit

set_option maxHeartbeats 4000000 in
set_option maxRecDepth 100000 in
theorem whole_any (B : Nat) (aI aL : Option Addr) (NI NL cI cL : Nat) (w : World) (hB : w.heap[B]? = some (.cells #[.slice aI NI cI, .slice aL NL cL, .slice none 0 0, .slice none 0 0] 40))
    (hI : ∀ i, i < NI → ∃ b n v, aI = some ⟨b, 0, none⟩ ∧ w.cell? ⟨b, i, none⟩ = some v ∧ n ≤ 1000000 ∧ IntsAt w v (List.replicate n (-1000 - (i : Int) / 4)))
    (hL : ∀ i, i < NL → ∃ b n v, aL = some ⟨b, 0, none⟩ ∧ w.cell? ⟨b, i, none⟩ = some v ∧ n ≤ 1000000 ∧ LogAt w v (List.replicate n (markE (-1000 - (i : Int) / 4)))) (hNI : NI ≤ 1000) (hNL : NL ≤ 1000) :
    Calls Try.prog 19 #[.pointer (some ⟨B, 0, none⟩)] w fun e w' => e = .returned (.bool true) ∧ Below w.heap.size w w' := by
  have q0 : w.cell? ⟨B, 0, none⟩ = some (.slice aI NI cI) := Joins.cell_of_block hB 0
  have q1 : w.cell? ⟨B, 1, none⟩ = some (.slice aL NL cL) := Joins.cell_of_block hB 1
  have q2 : w.cell? ⟨B, 2, none⟩ = some (.slice none 0 0) := Joins.cell_of_block hB 2
  have q3 : w.cell? ⟨B, 3, none⟩ = some (.slice none 0 0) := Joins.cell_of_block hB 3
  have HI := hideA hI
  have HL := hideA hL
  clear hI hL hB
  go_enter Try.func19, Try.ntmps19
  go_wp2_with fail
  go_loopw [3] (fun i wr => ∃ k q : Nat, k ≤ NI ∧ i = .int .i64 k ∧ wr = w.drewN q) (fun i _ => NI - (intOf i).toNat)
  case atStart => exact ⟨0, 0, Nat.zero_le _, rfl, rfl⟩
  case round =>
    obtain ⟨k, q, hk, rfl, rfl⟩ := hrel
    have hl0 : (0 : Int) ≤ (k : Int) := by omega
    by_cases hlt : k < NI
    · obtain ⟨b, n, v, rfl, c1, hn, hv⟩ := HI.out k hlt
      have hl1 : (k : Int) < (NI : Int) := by omega
      have hwk : IntKind.i64.wrap ((k : Int) / 4) = (k : Int) / 4 := wrap_i64_nat (k / 4) (by omega)
      obtain ⟨x, cx, hvv, hx⟩ := hv
      rw [List.length_replicate] at hvv hx
      subst hvv
      have HX := hideA hx
      clear hx
      go_wp2_with fail
      go_loopw [4] (fun j wr => ∃ m q : Nat, m ≤ n ∧ j = .int .i64 m ∧ wr = w.drewN q) (fun j _ => n - (intOf j).toNat)
      case atStart => exact ⟨0, q, Nat.zero_le _, rfl, rfl⟩
      case round =>
        obtain ⟨m, q', hm, rfl, rfl⟩ := hrel
        have hm0 : (0 : Int) ≤ (m : Int) := by omega
        by_cases hlm : m < n
        · obtain ⟨b2, o2, rfl, c2⟩ := HX.out m hlm
          have hm1 : (m : Int) < (n : Int) := by omega
          have e2 : (List.replicate n (-1000 - (k : Int) / 4)).getD m 0 = (-1000 - (k : Int) / 4) := by simp [List.getD, hlm]
          rw [e2] at c2
          clear e2
          go_wp2_with fail
          go_quiet ((go_at_call 39; refine (markInt_any ((k : Int) / 4) _ (by omega) (by omega)).mono ?_; rintro e w9 ⟨rfl, rfl⟩; exact ⟨rfl, _, rfl⟩))
          go_wp2_with fail
          exact ⟨⟨m + 1, _, by omega, by go_num, rfl⟩, by simp [intOf]; omega⟩
        · go_wp2_with fail
          exact ⟨⟨k + 1, q', by omega, by go_num, rfl⟩, by simp [intOf]; omega⟩
    · clear HI
      go_wp2_with fail
      clear q0
      go_loopw [5] (fun i wr => ∃ k : Nat, k ≤ NL ∧ i = .int .i64 k ∧ Below w.heap.size w wr) (fun i _ => NL - (intOf i).toNat)
      case atStart => exact ⟨0, Nat.zero_le _, rfl, below_drewN (Below.refl _ _) _⟩
      case round =>
        obtain ⟨k, hk, rfl, hb⟩ := hrel
        have r1 := cell_later hb q1
        have r2 := cell_later hb q2
        have r3 := cell_later hb q3
        have hl0 : (0 : Int) ≤ (k : Int) := by omega
        by_cases hlt : k < NL
        · obtain ⟨b, n, v, rfl, c1, hn, hv⟩ := HL.out k hlt
          have hl1 : (k : Int) < (NL : Int) := by omega
          have hwk : IntKind.i64.wrap ((k : Int) / 4) = (k : Int) / 4 := wrap_i64_nat (k / 4) (by omega)
          obtain ⟨x, cx, hvv, hx⟩ := hv
          rw [List.length_replicate] at hvv hx
          subst hvv
          have HX := hideA hx
          clear hx r2 r3
          have c1r := cell_later hb c1
          go_wp2_with fail
          clear r1 c1r
          go_loopw [6] (fun j wr => ∃ m : Nat, m ≤ n ∧ j = .int .i64 m ∧ Below w.heap.size w wr) (fun j _ => n - (intOf j).toNat)
          case atStart => exact ⟨0, Nat.zero_le _, rfl, hb⟩
          case round =>
            clear hb
            obtain ⟨m, hm, rfl, hb⟩ := hrel
            have r1 := cell_later hb q1
            have c1r := cell_later hb c1
            have hm0 : (0 : Int) ≤ (m : Int) := by omega
            by_cases hlm : m < n
            · obtain ⟨b2, o2, rfl, d0, d1, d2, d3, d4⟩ := HX.out m hlm
              have hm1 : (m : Int) < (n : Int) := by omega
              have e2 : (List.replicate n (markE (-1000 - (k : Int) / 4))).getD m Ent.zero = markE (-1000 - (k : Int) / 4) := by simp [List.getD, hlm]
              rw [e2] at d0 d1 d2 d3 d4
              dsimp only [markE] at d0 d1 d2 d3 d4
              clear e2
              have f0 := cell_later hb d0
              have f1 := cell_later hb d1
              have f2 := cell_later hb d2
              have f3 := cell_later hb d3
              have f4 := cell_later hb d4
              clear q1 q2 q3 c1 d0 d1 d2 d3 d4
              go_wp2_with fail
              go_region_held3 (fun w' => w'.cell? ⟨B, 1, none⟩ = some (.slice (some ⟨b, 0, none⟩) NL cL) ∧ w'.cell? ⟨b, k, none⟩ = some (.slice (some ⟨b2, o2, none⟩) n cx) ∧ w'.cell? ⟨b2, o2 + m * 5, none⟩ = some (.int .i64 (-1000 - (k : Int) / 4)) ∧ w'.cell? ⟨b2, o2 + m * 5 + 1, none⟩ = some (.int .i64 0) ∧ w'.cell? ⟨b2, o2 + m * 5 + 2, none⟩ = some (.int .i64 0) ∧ w'.cell? ⟨b2, o2 + m * 5 + 3, none⟩ = some (.int .i64 0) ∧ w'.cell? ⟨b2, o2 + m * 5 + 4, none⟩ = some (.int .i64 0) ∧ Below w.heap.size w w')
                (first | exact ⟨r1, c1r, f0, f1, f2, f3, f4, hb.drew⟩ | (go_split_ands; exact ⟨cell_later hbn (by assumption), cell_later hbn (by assumption), cell_later hbn (by assumption), cell_later hbn (by assumption), cell_later hbn (by assumption), cell_later hbn (by assumption), cell_later hbn (by assumption), Below.trans (by assumption) (hbn.mono (Below.size (by assumption)))⟩))
                ((go_at_call 40; refine (markEntry_any ((k : Int) / 4) _ (by omega) (by omega)).mono ?_; rintro e wn ⟨rfl, hbn⟩))
              go_split_ands
              go_wp2_with fail
              exact ⟨⟨m + 1, by omega, by go_num, by assumption⟩, by simp [intOf]; omega⟩
            · go_wp2_with fail
              exact ⟨⟨k + 1, by omega, by go_num, hb⟩, by simp [intOf]; omega⟩
        · clear HL
          rename World => Y
          go_wp2_with fail
          go_loopw [7] (fun i wr => i = .int .i64 0 ∧ wr = Y) (fun _ _ => 0)
          case atStart => exact ⟨rfl, rfl⟩
          case round =>
            obtain ⟨rfl, rfl⟩ := hrel
            go_wp2_with fail
            go_loopw [10] (fun i wr2 => i = .int .i64 0 ∧ wr2 = wr) (fun _ _ => 0)
            case atStart => exact ⟨rfl, rfl⟩
            case round =>
              obtain ⟨rfl, rfl⟩ := hrel
              go_wp2_with fail
              go_ret
              exact ⟨rfl, hb⟩
end Go.Proofs.Ytgieeeeeiggoeaa
