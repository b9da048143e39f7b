import Derived.Test.YtgieeeeeiggoeaaBackA
import Derived.Test.YtgieeeeeiggoeaaAppA
namespace Go.Proofs.Ytgieeeeeiggoeaa
open Go.RowKit

theorem number_keepZ (v : Value) (l : List Int) (i : Int) (w : World) (hv : IntsAt w v l) (hl : I64s l) (h0 : 0 ≤ i) (hi : i ≤ 1000) :
    Calls Try.prog 50 #[v, .int .i64 i] w fun e w' => e = .returned (.int .i64 (numI l i.toNat)) ∧ w' = w := by
  obtain ⟨k, rfl⟩ := Int.eq_ofNat_of_zero_le h0
  rw [Int.toNat_natCast]
  exact number_keep v l k w hv hl (by omega)

def numsI (l : List Int) (n : Nat) : List Int := (List.range n).map fun i => numI l i
theorem numsI_length (l : List Int) (n : Nat) : (numsI l n).length = n := by simp [numsI]
theorem numsI_succ (l : List Int) (n : Nat) : numsI l (n + 1) = numsI l n ++ [numI l n] := by simp [numsI, List.range_succ]

def entI (l : List Int) (i : Nat) : Ent := ⟨numI l i, i, numI l (i + 1), numI l (i + 2), numI l (i + 3)⟩
def entsI (l : List Int) (n : Nat) : List Ent := (List.range n).map fun i => entI l i
theorem entsI_length (l : List Int) (n : Nat) : (entsI l n).length = n := by simp [entsI]
theorem entsI_succ (l : List Int) (n : Nat) : entsI l (n + 1) = entsI l n ++ [entI l n] := by simp [entsI, List.range_succ]


theorem owns_slice' {w : World} {base size n : Nat} {e : TypeId} {v : Value} {xs : List Value} (h : w.ownsRow base e size v n xs) : ∃ a m c, v = .slice a m c := by
  obtain ⟨a, c, hv⟩ := owns_shape h
  exact ⟨a, n, c, hv⟩

/-- What message answers. -/
def MsgPost (l mem log : List Int) (w : World) (e : Ending) (w' : World) : Prop :=
  Below w.heap.size w w' ∧ ∃ vm vl, e = .returned (.agg #[.int .i64 (1 + pickI (l.getD 0 0) 16), .int .i64 (numI l 1), .int .i64 (numI l 2), .int .i64 (numI l 3), .int .i64 (numI l 4), .int .i64 (numI l 5), .int .i64 (numI l 6), .int .i64 (numI l 7), vm, vl]) ∧
    w'.ownsRow (w.heap.size + 1) 3 1 vm (min mem.length 5) (ints (numsI mem (min mem.length 5))) ∧ w'.ownsRow (w.heap.size + 1) 59 5 vl (min log.length 24) (ints (entsNums (entsI log (min log.length 24))))

set_option maxHeartbeats 4000000 in
set_option maxRecDepth 100000 in
theorem message_any (v1 v2 v3 : Value) (l mem log : List Int) (w : World) (h1 : IntsAt w v1 l) (h2 : IntsAt w v2 mem) (h3 : IntsAt w v3 log) (i1 : I64s l) (i2 : I64s mem) (i3 : I64s log)
    (n1 : mem.length ≤ 9223372036854775807) (n2 : log.length ≤ 9223372036854775807) :
    Calls Try.prog 22 #[v1, v2, v3] w fun e w' => MsgPost l mem log w e w' := by
  obtain ⟨W, hW, hb0, hsz, q, fz⟩ := boxed w #[.int .i64 0, .int .i64 0, .int .i64 0, .int .i64 0, .int .i64 0, .int .i64 0, .int .i64 0, .int .i64 0, .slice none 0 0, .slice none 0 0] 25
  have Hsz := hideA hsz
  have hws : w.heap.size < W.heap.size := by omega
  clear hsz
  have h1W := h1.below hb0
  have hx := i1.getD 0
  have hp := pickI_lt (l.getD 0 0) 16 (by omega)
  have hraw := raw_any v1 l 0 W h1W (by omega)
  generalize hl0 : l.getD 0 0 = x0 at *
  go_enter Try.func22, Try.ntmps22
  go_wp2_with fail
  clear hW
  refine hraw.mono ?_
  rintro e W1 ⟨rfl, rfl⟩
  clear hraw
  go_wp2_with fail
  refine (pick_any _ _ _ (by omega) (by omega) hx.1 hx.2).mono ?_
  rintro e W2 ⟨rfl, rfl⟩
  go_wp2_with fail
  refine (number_keep v1 l 1 _ h1W i1 (by omega)).mono ?_
  rintro e W2 ⟨rfl, rfl⟩
  go_wp2_with fail
  refine (number_keep v1 l 2 _ h1W i1 (by omega)).mono ?_
  rintro e W2 ⟨rfl, rfl⟩
  go_wp2_with fail
  refine (number_keep v1 l 3 _ h1W i1 (by omega)).mono ?_
  rintro e W2 ⟨rfl, rfl⟩
  go_wp2_with fail
  refine (number_keep v1 l 4 _ h1W i1 (by omega)).mono ?_
  rintro e W2 ⟨rfl, rfl⟩
  go_wp2_with fail
  refine (number_keep v1 l 5 _ h1W i1 (by omega)).mono ?_
  rintro e W2 ⟨rfl, rfl⟩
  go_wp2_with fail
  refine (number_keep v1 l 6 _ h1W i1 (by omega)).mono ?_
  rintro e W2 ⟨rfl, rfl⟩
  go_wp2_with fail
  refine (number_keep v1 l 7 _ h1W i1 (by omega)).mono ?_
  rintro e W2 ⟨rfl, rfl⟩
  go_wp2_with fail
  obtain ⟨X, hX, hb1, hsz1, qX, fX⟩ := boxed W2 #[.int .i64 (1 + pickI x0 16), .int .i64 (numI l 1), .int .i64 (numI l 2), .int .i64 (numI l 3), .int .i64 (numI l 4), .int .i64 (numI l 5), .int .i64 (numI l 6), .int .i64 (numI l 7), .slice none 0 0, .slice none 0 0] 25
  rw [hX]
  clear hX
  have Hq := hideA q
  have Hf := hideA fz
  have HqX := hideA qX
  have hsz2 : W2.heap.size < X.heap.size := by omega
  have hsz3 : X.heap.size ≤ W2.heap.size + 1 := by omega
  have q8 : X.cell? ⟨W2.heap.size, 8, none⟩ = some (.slice none 0 0) := qX 8
  have Hl0 := hideA hl0
  clear qX q fz hsz1 hl0
  obtain ⟨am, cm, hv2, -⟩ := id h2
  obtain ⟨al, cl, hv3, -⟩ := id h3
  subst hv2 hv3
  go_loopw [8] (fun i wr => ∃ (n : Nat) (v : Value), (n ≤ mem.length ∧ n ≤ 5) ∧ i = .int .i64 (n : Int) ∧
      wr.cell? ⟨W2.heap.size, 8, none⟩ = some v ∧ wr.ownsRow X.heap.size 3 1 v (numsI mem n).length (ints (numsI mem n)) ∧
      (∀ j, j ≠ 8 → wr.cell? ⟨W2.heap.size, j, none⟩ = X.cell? ⟨W2.heap.size, j, none⟩) ∧ (∀ j, wr.frozen? ⟨W2.heap.size, j, none⟩ = false) ∧ Below W2.heap.size W2 wr ∧ X.heap.size ≤ wr.heap.size)
    (fun i _ => 5 - (intOf i).toNat)
  case atStart => exact ⟨0, _, ⟨Nat.zero_le _, Nat.zero_le _⟩, rfl, q8, World.ownsRow_nil _ _ _ _, fun _ _ => rfl, fX, hb1, Nat.le_refl _⟩
  case round =>
    obtain ⟨n, v, hn, rfl, c8, hown, hcs, hfz, hb, hsw⟩ := hrel
    have hbw : Below w.heap.size w wr := hb0.trans (hb.mono hb0.size)
    have Hcs := hideA hcs
    have Hfz := hideA hfz
    have f8 := hfz 8
    clear hcs hfz
    by_cases hlt : n < mem.length ∧ n < 5
    · obtain ⟨hlt1, hlt2⟩ := hlt
      have h2r := h2.below hbw
      have hsX : W2.heap.size < wr.heap.size := by omega
      have hnl : (numsI mem n).length ≤ 256 := by rw [numsI_length]; omega
      have hwr0 : W2.heap.size ≤ wr.heap.size := by omega
      go_wp2_with fail
      go_region_law (first | (refine step_append_int (by rfl) _ _ (by rfl) X.heap.size v (numsI mem n) (by rfl) (by exact hown.alloc _) wr.heap.size 1 (numI mem n) (by rfl) (by simp) (by omega) (by simp; omega) ?_; intro g' cap' w1 ho1 hg1; have hbw1 : Below X.heap.size wr w1 := below_step hsw ⟨hg1.os, hg1.tape, hg1.output, hg1.size, hg1.block⟩ (fun k hk => (hown.lt k hk).1); have c8' : w1.cell? ⟨W2.heap.size, 8, none⟩ = some v := (hbw1.cell (p := ⟨W2.heap.size, 8, none⟩) hsz2).trans c8; have f8' : w1.frozen? ⟨W2.heap.size, 8, none⟩ = false := (hbw1.frozen (p := ⟨W2.heap.size, 8, none⟩) hsz2).trans f8) | (rw [if_pos (by simp [Region.wanted])]; go_simp; refine (number_keep _ mem n _ (by exact h2r) i2 (by omega)).mono ?_; rintro e w5 ⟨rfl, rfl⟩))
      all_goals
        go_wp2_with fail
        refine ⟨⟨n + 1, _, ⟨by omega, by omega⟩, by go_num, World.cell?_setCell_same' _ _ _ (by rw [c8']; rfl), ?_, ?_, ?_, ?_, ?_⟩, by simp [intOf]; omega⟩
        · rw [numsI_succ]
          exact ownsRow_setCell_below (a := ⟨W2.heap.size, 8, none⟩) ho1 hsz2 _
        · intro j hj
          rw [cell_set_other w1 _ _ (Ne.symm hj)]
          rw [← Hcs.out j hj]
          exact hbw1.cell (p := ⟨W2.heap.size, j, none⟩) hsz2
        · intro j
          rw [World.frozen?_setCell]
          exact (hbw1.frozen (p := ⟨W2.heap.size, j, none⟩) hsz2).trans (Hfz.out j)
        · exact (hb.trans (hbw1.mono (by omega))).setCell (by exact Nat.le_refl _) _
        · simp; have := hbw1.size; omega
    · have hN : Hid (n = min mem.length 5) := hideA (by omega)
      have c9 : wr.cell? ⟨W2.heap.size, 9, none⟩ = some (.slice none 0 0) := (Hcs.out 9 (by omega)).trans (HqX.out 9)
      by_cases hlt1 : n < mem.length
      · have hlt2 : ¬ n < 5 := fun h => hlt ⟨hlt1, h⟩
        clear hlt
        rename World => Y
        go_wp2_with fail
        go_loopw [9] (fun i wr => ∃ (m : Nat) (v' : Value), (m ≤ log.length ∧ m ≤ 24) ∧ i = .int .i64 (m : Int) ∧
            wr.cell? ⟨W2.heap.size, 9, none⟩ = some v' ∧ wr.ownsRow Y.heap.size 59 5 v' (entsI log m).length (ints (entsNums (entsI log m))) ∧
            (∀ j, j ≠ 9 → wr.cell? ⟨W2.heap.size, j, none⟩ = Y.cell? ⟨W2.heap.size, j, none⟩) ∧ (∀ j, wr.frozen? ⟨W2.heap.size, j, none⟩ = false) ∧ Below W2.heap.size W2 wr ∧ (∀ k, W2.heap.size < k → k < Y.heap.size → wr.heap[k]? = Y.heap[k]?) ∧ Y.heap.size ≤ wr.heap.size)
          (fun i _ => 24 - (intOf i).toNat)
        case atStart => exact ⟨0, _, ⟨Nat.zero_le _, Nat.zero_le _⟩, rfl, c9, World.ownsRow_nil _ _ _ _, fun _ _ => rfl, Hfz.out, hb, fun _ _ _ => rfl, Nat.le_refl _⟩
        case round =>
          obtain ⟨m, v', hm, rfl, c9', hown2, hcs2, hfz2, hb2, hk2, hsw2⟩ := hrel
          have hbw2 : Below w.heap.size w wr := hb0.trans (hb2.mono hb0.size)
          have Hcs2 := hideA hcs2
          have Hfz2 := hideA hfz2
          have Hk2 := hideA hk2
          have f9 := hfz2 9
          clear hcs2 hfz2 hk2 c9
          by_cases hlt : m < log.length ∧ m < 24
          · obtain ⟨hlm1, hlm2⟩ := hlt
            have h3r := h3.below hbw2
            have hnl : (entsI log m).length ≤ 256 := by rw [entsI_length]; omega
            have hYX : W2.heap.size < Y.heap.size := by omega
            have hsY : W2.heap.size < wr.heap.size := by omega
            clear c8
            have hw1 : IntKind.i64.wrap ((m : Int) + 1) = (m : Int) + 1 := wrap_i64_nat (m + 1) (by omega)
            have hw2 : IntKind.i64.wrap ((m : Int) + 2) = (m : Int) + 2 := wrap_i64_nat (m + 2) (by omega)
            have hw3 : IntKind.i64.wrap ((m : Int) + 3) = (m : Int) + 3 := wrap_i64_nat (m + 3) (by omega)
            go_wp2_with fail
            go_region_law (first | (refine step_append_entry (by rfl) _ _ (by rfl) Y.heap.size v' (entsI log m) (by rfl) (by exact hown2.alloc _) wr.heap.size 1 (entI log m) (by rfl) (by exact heap_new _ _) (by omega) (by simp; omega) ?_; intro g' cap' w1 ho1 hg1; have hbw1 : Below Y.heap.size wr w1 := below_step hsw2 ⟨hg1.os, hg1.tape, hg1.output, hg1.size, hg1.block⟩ (fun k hk => (hown2.lt k hk).1); have c9'' : w1.cell? ⟨W2.heap.size, 9, none⟩ = some v' := (hbw1.cell (p := ⟨W2.heap.size, 9, none⟩) hYX).trans c9'; have f9' : w1.frozen? ⟨W2.heap.size, 9, none⟩ = false := (hbw1.frozen (p := ⟨W2.heap.size, 9, none⟩) hYX).trans f9) | (rw [if_pos (by simp [Region.wanted])]; go_simp; refine (number_keepZ _ log _ _ (by exact h3r) i3 (by omega) (by omega)).mono ?_; rintro e w5 ⟨rfl, rfl⟩))
            all_goals
              go_wp2_with fail
              refine ⟨⟨m + 1, _, ⟨by omega, by omega⟩, by go_num, World.cell?_setCell_same' _ _ _ (by rw [c9'']; rfl), ?_, ?_, ?_, ?_, ?_, ?_⟩, by simp [intOf]; omega⟩
              · rw [entsI_succ]
                exact ownsRow_setCell_below (a := ⟨W2.heap.size, 9, none⟩) ho1 hYX _
              · intro j hj
                rw [cell_set_other w1 _ _ (Ne.symm hj)]
                rw [← Hcs2.out j hj]
                exact hbw1.cell (p := ⟨W2.heap.size, j, none⟩) hYX
              · intro j
                rw [World.frozen?_setCell]
                exact (hbw1.frozen (p := ⟨W2.heap.size, j, none⟩) hYX).trans (Hfz2.out j)
              · exact (hb2.trans (hbw1.mono (by omega))).setCell (by exact Nat.le_refl _) _
              · intro k hk1 hk3
                rw [Below.heap_setCell _ _ _ _ (by show k ≠ W2.heap.size; omega), hbw1.block k hk3]
                exact Hk2.out k hk1 hk3
              · simp; have := hbw1.size; omega
          · have hM : Hid (m = min log.length 24) := hideA (by omega)
            have hown1 := owns_kept hown fun k h1 h2 => Hk2.out k (by omega) h2
            have cB : ∀ j, j < 8 → wr.cell? ⟨W2.heap.size, j, none⟩ = #[.int .i64 (1 + pickI x0 16), .int .i64 (numI l 1), .int .i64 (numI l 2), .int .i64 (numI l 3), .int .i64 (numI l 4), .int .i64 (numI l 5), .int .i64 (numI l 6), .int .i64 (numI l 7), .slice none 0 0, .slice none 0 0][j]? := fun j hj => ((Hcs2.out j (by omega)).trans (Hcs.out j (by omega))).trans (HqX.out j)
            have d0 : wr.cell? ⟨W2.heap.size, 0, none⟩ = some (.int .i64 (1 + pickI x0 16)) := cB 0 (by omega)
            have d1 : wr.cell? ⟨W2.heap.size, 1, none⟩ = some (.int .i64 (numI l 1)) := cB 1 (by omega)
            have d2 : wr.cell? ⟨W2.heap.size, 2, none⟩ = some (.int .i64 (numI l 2)) := cB 2 (by omega)
            have d3 : wr.cell? ⟨W2.heap.size, 3, none⟩ = some (.int .i64 (numI l 3)) := cB 3 (by omega)
            have d4 : wr.cell? ⟨W2.heap.size, 4, none⟩ = some (.int .i64 (numI l 4)) := cB 4 (by omega)
            have d5 : wr.cell? ⟨W2.heap.size, 5, none⟩ = some (.int .i64 (numI l 5)) := cB 5 (by omega)
            have d6 : wr.cell? ⟨W2.heap.size, 6, none⟩ = some (.int .i64 (numI l 6)) := cB 6 (by omega)
            have d7 : wr.cell? ⟨W2.heap.size, 7, none⟩ = some (.int .i64 (numI l 7)) := cB 7 (by omega)
            have d8 : wr.cell? ⟨W2.heap.size, 8, none⟩ = some v := (Hcs2.out 8 (by omega)).trans c8
            have r1 : ∀ j, wr.cell? ⟨w.heap.size, j, none⟩ = #[.int .i64 0, .int .i64 0, .int .i64 0, .int .i64 0, .int .i64 0, .int .i64 0, .int .i64 0, .int .i64 0, .slice none 0 0, .slice none 0 0][j]? := fun j => (hb2.cell (p := ⟨w.heap.size, j, none⟩) hws).trans (Hq.out j)
            have r2 : ∀ j, wr.frozen? ⟨w.heap.size, j, none⟩ = false := fun j => (hb2.frozen (p := ⟨w.heap.size, j, none⟩) hws).trans (Hf.out j)
            obtain ⟨a8, n8, x8, hv8⟩ := owns_slice' hown1
            obtain ⟨a9, n9, x9, hv9⟩ := owns_slice' hown2
            have Hv8 := hideA hv8
            have Hv9 := hideA hv9
            rw [hv8] at d8
            rw [hv9] at c9'
            have hfin : MsgPost l mem log w (.returned (.agg #[.int .i64 (1 + pickI (l.getD 0 0) 16), .int .i64 (numI l 1), .int .i64 (numI l 2), .int .i64 (numI l 3), .int .i64 (numI l 4), .int .i64 (numI l 5), .int .i64 (numI l 6), .int .i64 (numI l 7), v, v'])) ((((((((((wr.setCell ⟨w.heap.size, 0, none⟩ (.int .i64 (1 + pickI x0 16))).setCell ⟨w.heap.size, 1, none⟩ (.int .i64 (numI l 1))).setCell ⟨w.heap.size, 2, none⟩ (.int .i64 (numI l 2))).setCell ⟨w.heap.size, 3, none⟩ (.int .i64 (numI l 3))).setCell ⟨w.heap.size, 4, none⟩ (.int .i64 (numI l 4))).setCell ⟨w.heap.size, 5, none⟩ (.int .i64 (numI l 5))).setCell ⟨w.heap.size, 6, none⟩ (.int .i64 (numI l 6))).setCell ⟨w.heap.size, 7, none⟩ (.int .i64 (numI l 7))).setCell ⟨w.heap.size, 8, none⟩ (.slice a8 n8 x8)).setCell ⟨w.heap.size, 9, none⟩ (.slice a9 n9 x9)) := by
              refine ⟨?_, v, v', rfl, ?_, ?_⟩
              · iterate 10 refine Below.setCell ?_ (by exact Nat.le_refl _) _
                exact hbw2
              · iterate 10 refine ownsRow_setCell_below ?_ (by exact Nat.lt_succ_self _) _
                rw [← hN.out]
                have := hown1
                rw [numsI_length] at this
                exact owns_base this (by omega)
              · iterate 10 refine ownsRow_setCell_below ?_ (by exact Nat.lt_succ_self _) _
                rw [← hM.out]
                have := hown2
                rw [entsI_length] at this
                exact owns_base this (by omega)
            have HF := hideA hfin
            clear cB hv8 hv9 hown hown1 hown2 hfin c8
            by_cases hlm1 : m < log.length
            · have hlm2 : ¬ m < 24 := fun h => hlt ⟨hlm1, h⟩
              clear hlt
              go_wp2_with fail
              exact bodyPost_ret (v := .agg #[.int .i64 (1 + pickI (l.getD 0 0) 16), .int .i64 (numI l 1), .int .i64 (numI l 2), .int .i64 (numI l 3), .int .i64 (numI l 4), .int .i64 (numI l 5), .int .i64 (numI l 6), .int .i64 (numI l 7), v, v']) (by simp [results, Try.results22, go_sem, r1, Hv8.out, Hv9.out, ← Hl0.out]) rfl HF.out
            · clear hlt
              go_wp2_with fail
              exact bodyPost_ret (v := .agg #[.int .i64 (1 + pickI (l.getD 0 0) 16), .int .i64 (numI l 1), .int .i64 (numI l 2), .int .i64 (numI l 3), .int .i64 (numI l 4), .int .i64 (numI l 5), .int .i64 (numI l 6), .int .i64 (numI l 7), v, v']) (by simp [results, Try.results22, go_sem, r1, Hv8.out, Hv9.out, ← Hl0.out]) rfl HF.out
      · clear hlt
        rename World => Y
        go_wp2_with fail
        go_loopw [9] (fun i wr => ∃ (m : Nat) (v' : Value), (m ≤ log.length ∧ m ≤ 24) ∧ i = .int .i64 (m : Int) ∧
            wr.cell? ⟨W2.heap.size, 9, none⟩ = some v' ∧ wr.ownsRow Y.heap.size 59 5 v' (entsI log m).length (ints (entsNums (entsI log m))) ∧
            (∀ j, j ≠ 9 → wr.cell? ⟨W2.heap.size, j, none⟩ = Y.cell? ⟨W2.heap.size, j, none⟩) ∧ (∀ j, wr.frozen? ⟨W2.heap.size, j, none⟩ = false) ∧ Below W2.heap.size W2 wr ∧ (∀ k, W2.heap.size < k → k < Y.heap.size → wr.heap[k]? = Y.heap[k]?) ∧ Y.heap.size ≤ wr.heap.size)
          (fun i _ => 24 - (intOf i).toNat)
        case atStart => exact ⟨0, _, ⟨Nat.zero_le _, Nat.zero_le _⟩, rfl, c9, World.ownsRow_nil _ _ _ _, fun _ _ => rfl, Hfz.out, hb, fun _ _ _ => rfl, Nat.le_refl _⟩
        case round =>
          obtain ⟨m, v', hm, rfl, c9', hown2, hcs2, hfz2, hb2, hk2, hsw2⟩ := hrel
          have hbw2 : Below w.heap.size w wr := hb0.trans (hb2.mono hb0.size)
          have Hcs2 := hideA hcs2
          have Hfz2 := hideA hfz2
          have Hk2 := hideA hk2
          have f9 := hfz2 9
          clear hcs2 hfz2 hk2 c9
          by_cases hlt : m < log.length ∧ m < 24
          · obtain ⟨hlm1, hlm2⟩ := hlt
            have h3r := h3.below hbw2
            have hnl : (entsI log m).length ≤ 256 := by rw [entsI_length]; omega
            have hYX : W2.heap.size < Y.heap.size := by omega
            have hsY : W2.heap.size < wr.heap.size := by omega
            clear c8
            have hw1 : IntKind.i64.wrap ((m : Int) + 1) = (m : Int) + 1 := wrap_i64_nat (m + 1) (by omega)
            have hw2 : IntKind.i64.wrap ((m : Int) + 2) = (m : Int) + 2 := wrap_i64_nat (m + 2) (by omega)
            have hw3 : IntKind.i64.wrap ((m : Int) + 3) = (m : Int) + 3 := wrap_i64_nat (m + 3) (by omega)
            go_wp2_with fail
            go_region_law (first | (refine step_append_entry (by rfl) _ _ (by rfl) Y.heap.size v' (entsI log m) (by rfl) (by exact hown2.alloc _) wr.heap.size 1 (entI log m) (by rfl) (by exact heap_new _ _) (by omega) (by simp; omega) ?_; intro g' cap' w1 ho1 hg1; have hbw1 : Below Y.heap.size wr w1 := below_step hsw2 ⟨hg1.os, hg1.tape, hg1.output, hg1.size, hg1.block⟩ (fun k hk => (hown2.lt k hk).1); have c9'' : w1.cell? ⟨W2.heap.size, 9, none⟩ = some v' := (hbw1.cell (p := ⟨W2.heap.size, 9, none⟩) hYX).trans c9'; have f9' : w1.frozen? ⟨W2.heap.size, 9, none⟩ = false := (hbw1.frozen (p := ⟨W2.heap.size, 9, none⟩) hYX).trans f9) | (rw [if_pos (by simp [Region.wanted])]; go_simp; refine (number_keepZ _ log _ _ (by exact h3r) i3 (by omega) (by omega)).mono ?_; rintro e w5 ⟨rfl, rfl⟩))
            all_goals
              go_wp2_with fail
              refine ⟨⟨m + 1, _, ⟨by omega, by omega⟩, by go_num, World.cell?_setCell_same' _ _ _ (by rw [c9'']; rfl), ?_, ?_, ?_, ?_, ?_, ?_⟩, by simp [intOf]; omega⟩
              · rw [entsI_succ]
                exact ownsRow_setCell_below (a := ⟨W2.heap.size, 9, none⟩) ho1 hYX _
              · intro j hj
                rw [cell_set_other w1 _ _ (Ne.symm hj)]
                rw [← Hcs2.out j hj]
                exact hbw1.cell (p := ⟨W2.heap.size, j, none⟩) hYX
              · intro j
                rw [World.frozen?_setCell]
                exact (hbw1.frozen (p := ⟨W2.heap.size, j, none⟩) hYX).trans (Hfz2.out j)
              · exact (hb2.trans (hbw1.mono (by omega))).setCell (by exact Nat.le_refl _) _
              · intro k hk1 hk3
                rw [Below.heap_setCell _ _ _ _ (by show k ≠ W2.heap.size; omega), hbw1.block k hk3]
                exact Hk2.out k hk1 hk3
              · simp; have := hbw1.size; omega
          · have hM : Hid (m = min log.length 24) := hideA (by omega)
            have hown1 := owns_kept hown fun k h1 h2 => Hk2.out k (by omega) h2
            have cB : ∀ j, j < 8 → wr.cell? ⟨W2.heap.size, j, none⟩ = #[.int .i64 (1 + pickI x0 16), .int .i64 (numI l 1), .int .i64 (numI l 2), .int .i64 (numI l 3), .int .i64 (numI l 4), .int .i64 (numI l 5), .int .i64 (numI l 6), .int .i64 (numI l 7), .slice none 0 0, .slice none 0 0][j]? := fun j hj => ((Hcs2.out j (by omega)).trans (Hcs.out j (by omega))).trans (HqX.out j)
            have d0 : wr.cell? ⟨W2.heap.size, 0, none⟩ = some (.int .i64 (1 + pickI x0 16)) := cB 0 (by omega)
            have d1 : wr.cell? ⟨W2.heap.size, 1, none⟩ = some (.int .i64 (numI l 1)) := cB 1 (by omega)
            have d2 : wr.cell? ⟨W2.heap.size, 2, none⟩ = some (.int .i64 (numI l 2)) := cB 2 (by omega)
            have d3 : wr.cell? ⟨W2.heap.size, 3, none⟩ = some (.int .i64 (numI l 3)) := cB 3 (by omega)
            have d4 : wr.cell? ⟨W2.heap.size, 4, none⟩ = some (.int .i64 (numI l 4)) := cB 4 (by omega)
            have d5 : wr.cell? ⟨W2.heap.size, 5, none⟩ = some (.int .i64 (numI l 5)) := cB 5 (by omega)
            have d6 : wr.cell? ⟨W2.heap.size, 6, none⟩ = some (.int .i64 (numI l 6)) := cB 6 (by omega)
            have d7 : wr.cell? ⟨W2.heap.size, 7, none⟩ = some (.int .i64 (numI l 7)) := cB 7 (by omega)
            have d8 : wr.cell? ⟨W2.heap.size, 8, none⟩ = some v := (Hcs2.out 8 (by omega)).trans c8
            have r1 : ∀ j, wr.cell? ⟨w.heap.size, j, none⟩ = #[.int .i64 0, .int .i64 0, .int .i64 0, .int .i64 0, .int .i64 0, .int .i64 0, .int .i64 0, .int .i64 0, .slice none 0 0, .slice none 0 0][j]? := fun j => (hb2.cell (p := ⟨w.heap.size, j, none⟩) hws).trans (Hq.out j)
            have r2 : ∀ j, wr.frozen? ⟨w.heap.size, j, none⟩ = false := fun j => (hb2.frozen (p := ⟨w.heap.size, j, none⟩) hws).trans (Hf.out j)
            obtain ⟨a8, n8, x8, hv8⟩ := owns_slice' hown1
            obtain ⟨a9, n9, x9, hv9⟩ := owns_slice' hown2
            have Hv8 := hideA hv8
            have Hv9 := hideA hv9
            rw [hv8] at d8
            rw [hv9] at c9'
            have hfin : MsgPost l mem log w (.returned (.agg #[.int .i64 (1 + pickI (l.getD 0 0) 16), .int .i64 (numI l 1), .int .i64 (numI l 2), .int .i64 (numI l 3), .int .i64 (numI l 4), .int .i64 (numI l 5), .int .i64 (numI l 6), .int .i64 (numI l 7), v, v'])) ((((((((((wr.setCell ⟨w.heap.size, 0, none⟩ (.int .i64 (1 + pickI x0 16))).setCell ⟨w.heap.size, 1, none⟩ (.int .i64 (numI l 1))).setCell ⟨w.heap.size, 2, none⟩ (.int .i64 (numI l 2))).setCell ⟨w.heap.size, 3, none⟩ (.int .i64 (numI l 3))).setCell ⟨w.heap.size, 4, none⟩ (.int .i64 (numI l 4))).setCell ⟨w.heap.size, 5, none⟩ (.int .i64 (numI l 5))).setCell ⟨w.heap.size, 6, none⟩ (.int .i64 (numI l 6))).setCell ⟨w.heap.size, 7, none⟩ (.int .i64 (numI l 7))).setCell ⟨w.heap.size, 8, none⟩ (.slice a8 n8 x8)).setCell ⟨w.heap.size, 9, none⟩ (.slice a9 n9 x9)) := by
              refine ⟨?_, v, v', rfl, ?_, ?_⟩
              · iterate 10 refine Below.setCell ?_ (by exact Nat.le_refl _) _
                exact hbw2
              · iterate 10 refine ownsRow_setCell_below ?_ (by exact Nat.lt_succ_self _) _
                rw [← hN.out]
                have := hown1
                rw [numsI_length] at this
                exact owns_base this (by omega)
              · iterate 10 refine ownsRow_setCell_below ?_ (by exact Nat.lt_succ_self _) _
                rw [← hM.out]
                have := hown2
                rw [entsI_length] at this
                exact owns_base this (by omega)
            have HF := hideA hfin
            clear cB hv8 hv9 hown hown1 hown2 hfin c8
            by_cases hlm1 : m < log.length
            · have hlm2 : ¬ m < 24 := fun h => hlt ⟨hlm1, h⟩
              clear hlt
              go_wp2_with fail
              exact bodyPost_ret (v := .agg #[.int .i64 (1 + pickI (l.getD 0 0) 16), .int .i64 (numI l 1), .int .i64 (numI l 2), .int .i64 (numI l 3), .int .i64 (numI l 4), .int .i64 (numI l 5), .int .i64 (numI l 6), .int .i64 (numI l 7), v, v']) (by simp [results, Try.results22, go_sem, r1, Hv8.out, Hv9.out, ← Hl0.out]) rfl HF.out
            · clear hlt
              go_wp2_with fail
              exact bodyPost_ret (v := .agg #[.int .i64 (1 + pickI (l.getD 0 0) 16), .int .i64 (numI l 1), .int .i64 (numI l 2), .int .i64 (numI l 3), .int .i64 (numI l 4), .int .i64 (numI l 5), .int .i64 (numI l 6), .int .i64 (numI l 7), v, v']) (by simp [results, Try.results22, go_sem, r1, Hv8.out, Hv9.out, ← Hl0.out]) rfl HF.out
end Go.Proofs.Ytgieeeeeiggoeaa
