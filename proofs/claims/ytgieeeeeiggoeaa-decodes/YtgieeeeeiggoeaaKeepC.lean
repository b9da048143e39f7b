import Derived.Test.YtgieeeeeiggoeaaKeepB
namespace Go.Proofs.Ytgieeeeeiggoeaa
open Go.RowKit

def KeptI (w w' : World) (B base N n : Nat) (v vB c1 c2 c3 : Value) (xs : List Value) (mk : Int) : Prop :=
  ∃ v1 v2 v3 vB', w'.heap[B]? = some (.cells #[vB', c1, c2, c3] 40) ∧ w'.ownsRow base 22 1 vB' (N + 4) (xs ++ [v, v1, v2, v3]) ∧
    w'.ownsRow base 3 1 v n (ints (List.replicate n mk)) ∧ w'.ownsRow base 3 1 v1 (n + 1) (ints (List.replicate (n + 1) mk)) ∧
    w'.ownsRow base 3 1 v2 (n + 2) (ints (List.replicate (n + 2) mk)) ∧ w'.ownsRow base 3 1 v3 (n + 3) (ints (List.replicate (n + 3) mk)) ∧
    Moved w w' (fun k => k = B ∨ v.ownBlock = some k ∨ vB.ownBlock = some k)

theorem marks_step (l : List Int) (k : Nat) (mk : Int) (hk : k < l.length) : (ints (List.replicate k mk ++ l.drop k)).set k (.int .i64 mk) = ints (List.replicate (k + 1) mk ++ l.drop (k + 1)) := by
  rw [ints_set]
  congr 1
  rw [List.set_append_right _ _ (by simp), List.length_replicate, Nat.sub_self, List.drop_eq_getElem_cons hk, List.set_cons_zero, List.replicate_succ', List.append_assoc]
  rfl

theorem marks_length (l : List Int) (k : Nat) (mk : Int) (hk : k ≤ l.length) : (List.replicate k mk ++ l.drop k).length = l.length := by
  rw [List.length_append, List.length_replicate, List.length_drop]; omega

theorem grown_allocK {w w' : World} {o : Obj} {row : Option Nat} (h : (w.alloc o).grownBy w' row) : w.grownBy w' row :=
  ⟨h.os, h.tape, h.output, by have := h.size; rw [World.size_alloc] at this; omega, fun k hk hr => (h.block k (by rw [World.size_alloc]; omega) hr).trans (Below.heap_alloc _ _ k hk)⟩

set_option maxHeartbeats 2000000 in
set_option maxRecDepth 100000 in
theorem keepInts_any (B base N : Nat) (v vB c1 c2 c3 : Value) (xs : List Value) (l : List Int) (w : World) (hB : w.heap[B]? = some (.cells #[vB, c1, c2, c3] 40)) (hBb : B < base) (hbs : base ≤ w.heap.size)
    (hv : w.ownsRow base 3 1 v l.length (ints l)) (hbk : w.ownsRow base 22 1 vB N xs) (hN : N ≤ 1000) (hl : l.length ≤ 1000) :
    Calls Try.prog 17 #[.pointer (some ⟨B, 0, none⟩), v] w fun e w' => e = .returned (.tuple #[]) ∧ KeptI w w' B base N l.length v vB c1 c2 c3 xs (-1000 - (N : Int) / 4) := by
  obtain ⟨aB, cB, rfl⟩ := owns_shape hbk
  obtain ⟨av, cv, rfl⟩ := owns_shape hv
  have q0 : w.cell? ⟨B, 0, none⟩ = some (.slice aB N cB) := Joins.cell_of_block hB 0
  have HB := hideA hB
  clear hB
  go_enter Try.func17, Try.ntmps17
  go_wp2_with fail
  refine (markInt_any _ _ (by omega) (by omega)).mono ?_
  rintro e W ⟨rfl, rfl⟩
  generalize hmk : (-1000 - (N : Int) / 4) = mk
  have HMK := hideA hmk
  clear hmk
  clear q0
  go_wp2_with fail
  go_loopw [5] (fun i wr => ∃ (n : Nat), n ≤ l.length ∧ i = .int .i64 (n : Int) ∧ wr.ownsRow base 3 1 (.slice av l.length cv) l.length (ints (List.replicate n mk ++ l.drop n)) ∧ Moved W wr (fun k => (Value.slice av l.length cv).ownBlock = some k))
    (fun i _ => l.length - (intOf i).toNat)
  case atStart => exact ⟨0, Nat.zero_le _, rfl, by simpa using hv, Moved.refl _ _⟩
  case round =>
    obtain ⟨n, hn, rfl, hown, hmv⟩ := hrel
    by_cases hlt : n < l.length
    · obtain ⟨g, cap, hvv, hg1, hg2⟩ := hown.form (by omega)
      cases hvv
      have c1 := hown.cellAt n (by omega)
      have f1 := hown.frozenAt n
      have c1' : ∃ u, wr.cell? ⟨g, n, none⟩ = some u := by
        rw [c1]
        exact ⟨_, List.getElem?_eq_getElem (by rw [ints_length, marks_length _ _ _ hn]; exact hlt)⟩
      obtain ⟨u, c1'⟩ := c1'
      clear c1
      have hst := hown.stored n (.int .i64 mk)
      rw [marks_step l n mk hlt] at hst
      have HS := hideA hst
      clear hst
      go_wp2_with fail
      exact ⟨⟨n + 1, by omega, by go_num, HS.out.1, hmv.grown HS.out.2 (fun k _ h => h)⟩, by simp [intOf]; omega⟩
    · obtain rfl : n = l.length := by omega
      rw [List.drop_length, List.append_nil] at hown
      have hbs' : base ≤ wr.heap.size := Nat.le_trans hbs hmv.size
      go_wp2_with (at_builtin; refine wpList_keeps_mark rfl _ _ rfl base _ l.length mk rfl (hown.alloc _) wr.heap.size 1 rfl (by simp) (by omega) (by simp; omega) ?_)
      intro g1 k1 w1 o1 gr1 ov1 li1
      have hs1 := (grown_allocK gr1).size
      have hs1' := gr1.size
      rw [World.size_alloc] at hs1'
      go_wp2_with (at_builtin; refine wpList_keeps_mark rfl _ _ rfl base _ (l.length + 1) mk rfl (o1.alloc _) w1.heap.size 1 rfl (by simp) (by omega) (by simp; omega) ?_)
      intro g2 k2 w2 o2 gr2 o12 li2
      have hs2 := gr2.size
      rw [World.size_alloc] at hs2
      have ov2 := owns_beside (ov1.alloc _) (o1.alloc _) gr2 o12 (by omega) (by omega)
      go_wp2_with (at_builtin; refine wpList_keeps_mark rfl _ _ rfl base _ (l.length + 1 + 1) mk rfl (o2.alloc _) w2.heap.size 1 rfl (by simp) (by omega) (by simp; omega) ?_)
      intro g3 k3 w3 o3 gr3 o23 li3
      have hs3 := gr3.size
      rw [World.size_alloc] at hs3
      have ov3 := owns_beside (ov2.alloc _) (o2.alloc _) gr3 o23 (by omega) (by omega)
      have o13 := owns_beside (o12.alloc _) (o2.alloc _) gr3 o23 (by omega) (by omega)
      clear ov1 ov2 o1 o12 o2
      have M3 : Moved W w3 (fun k => (Value.slice av l.length cv).ownBlock = some k) := by
        refine (((hmv.alloc _).grown gr1 (fun k _ h => h)).alloc _).grown gr2 (fun k hk h => ?_) |>.alloc _ |>.grown gr3 (fun k hk h => ?_)
        · have hg : g1 = k := by simpa [Value.ownBlock] using h
          have := hmv.size
          rcases li1 with h1 | h1
          · rw [h1, hg]
          · omega
        · have hg : g2 = k := by simpa [Value.ownBlock] using h
          have := hmv.size
          rcases li2 with h2 | h2
          · have hg2 : g1 = g2 := by simpa [Value.ownBlock] using h2
            rcases li1 with h1 | h1
            · rw [h1, hg2, hg]
            · omega
          · omega
      have hbk3 : w3.ownsRow base 22 1 (.slice aB N cB) N xs := M3.owns hbk (fun k hk h => owns_two hbk hv (by decide) k hk h)
      have hB3 : w3.heap[B]? = some (.cells #[.slice aB N cB, c1, c2, c3] 40) := (M3.block B (by omega) (fun h => by have := (hv.lt B h).1; omega)).trans HB.out
      have q0 : w3.cell? ⟨B, 0, none⟩ = some (.slice aB N cB) := Joins.cell_of_block hB3 0
      have hB3' := hideA hB3
      clear hB3
      have hs4 : base ≤ w3.heap.size := by omega
      go_wp2_with (at_builtin; refine wpList_keeps_row rfl _ _ 35 22 Try.underlying35 infoRow rfl base _ N xs rfl (hbk3.alloc _) w3.heap.size 4 4 [.slice av l.length cv, .slice (some ⟨g1, 0, none⟩) (l.length + 1) k1, .slice (some ⟨g2, 0, none⟩) (l.length + 1 + 1) k2, .slice (some ⟨g3, 0, none⟩) (l.length + 1 + 1 + 1) k3] rfl (by omega) (by omega) rfl (by exact heap_new _ _) (by simp [Value.oneCell']) (by omega) (by simp; omega) ?_)
      intro g4 k4 w4 o4 gr4 li4
      have hB4 : w4.heap[B]? = some (.cells #[.slice aB N cB, c1, c2, c3] 40) :=
        ((grown_allocK gr4).block B (by omega) (fun h => by have := (hbk3.lt B h.symm).1; omega)).trans hB3'.out
      have q4 : w4.cell? ⟨B, 0, none⟩ = some (.slice aB N cB) := Joins.cell_of_block hB4 0
      have f4 : w4.frozen? ⟨B, 0, none⟩ = false := Joins.unfrozen_of_block hB4 0
      have hB5 := Joins.block_setCell (i := 0) hB4 (.slice (some ⟨g4, 0, none⟩) (N + 4) k4)
      have ne1 := fun {v : Value} {n : Nat} {ys : List Value} (h : w3.ownsRow base 3 1 v n ys) => fun k hk h' => owns_two h hbk3 (by decide) k hk h'
      have M4 : Moved w3 w4 (fun k => (Value.slice aB N cB).ownBlock = some k) := ((Moved.refl w3 _).alloc _).grown gr4 (fun k _ h => h)
      have M5 : Moved W (w4.setCell ⟨B, 0, none⟩ (.slice (some ⟨g4, 0, none⟩) (N + 4) k4)) (fun k => k = B ∨ (Value.slice av l.length cv).ownBlock = some k ∨ (Value.slice aB N cB).ownBlock = some k) :=
        ((((Moved.refl W _).trans M3 (fun k _ h => .inr (.inl h))).trans M4 (fun k _ h => .inr (.inr h)))).setCell _ (.inl rfl) _
      have HF : Hid (KeptI W (w4.setCell ⟨B, 0, none⟩ (.slice (some ⟨g4, 0, none⟩) (N + 4) k4)) B base N l.length (.slice av l.length cv) (.slice aB N cB) c1 c2 c3 xs mk) := by
        refine hideA ⟨.slice (some ⟨g1, 0, none⟩) (l.length + 1) k1, .slice (some ⟨g2, 0, none⟩) (l.length + 1 + 1) k2, .slice (some ⟨g3, 0, none⟩) (l.length + 1 + 1 + 1) k3, .slice (some ⟨g4, 0, none⟩) (N + 4) k4, hB5, ?_, ?_, ?_, ?_, ?_, M5⟩
        · exact ownsRow_setCell_below o4 hBb _
        · exact ownsRow_setCell_below (M4.owns ov3 (ne1 ov3)) hBb _
        · exact ownsRow_setCell_below (M4.owns o13 (ne1 o13)) hBb _
        · exact ownsRow_setCell_below (M4.owns o23 (ne1 o23)) hBb _
        · exact ownsRow_setCell_below (M4.owns o3 (ne1 o3)) hBb _
      clear hB4 hB5 ne1 M4 M5 o4 ov3 o13 o23 o3 hbk3
      go_wp2_with fail
      go_end0
      exact ⟨rfl, by rw [HMK.out]; exact HF.out⟩
end Go.Proofs.Ytgieeeeeiggoeaa
