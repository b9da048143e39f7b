import Derived.Test.YtgieeeeeiggoeaaKeepF
import Derived.Test.YtgieeeeeiggoeaaDecBoth
import Derived.Test.YtgieeeeeiggoeaaSameMsg
namespace Go.Proofs.Ytgieeeeeiggoeaa
open Go.RowKit

theorem book_ints {w : World} {base n : Nat} {v v1 v2 v3 : Value} {a : Option Addr} {c : Nat} {mk : Int} (hr : w.ownsRow base 22 1 (.slice a 4 c) (0 + 4) ([] ++ [v, v1, v2, v3])) (hn : n ≤ 1000) (hmk : mk = -1000)
    (h0 : w.ownsRow base 3 1 v n (ints (List.replicate n mk))) (h1 : w.ownsRow base 3 1 v1 (n + 1) (ints (List.replicate (n + 1) mk))) (h2 : w.ownsRow base 3 1 v2 (n + 2) (ints (List.replicate (n + 2) mk))) (h3 : w.ownsRow base 3 1 v3 (n + 3) (ints (List.replicate (n + 3) mk))) :
    ∀ i, i < 4 → ∃ b n v, a = some ⟨b, 0, none⟩ ∧ w.cell? ⟨b, i, none⟩ = some v ∧ n ≤ 1000000 ∧ IntsAt w v (List.replicate n (-1000 - (i : Int) / 4)) := by
  subst hmk
  intro i hi
  obtain ⟨g, cap, hv, _, _⟩ := hr.form (by omega)
  cases hv
  have hd : (-1000 - (i : Int) / 4) = -1000 := by omega
  rw [hd]
  have hc := hr.cellAt i (by omega)
  have row : ∀ {u : Value} {m : Nat}, w.ownsRow base 3 1 u m (ints (List.replicate m (-1000))) → IntsAt w u (List.replicate m (-1000)) := fun {u m} h => IntsAt.of_owns (by rw [List.length_replicate]; exact h)
  have h4 : i = 0 ∨ i = 1 ∨ i = 2 ∨ i = 3 := by omega
  rcases h4 with rfl | rfl | rfl | rfl
  · exact ⟨g, n, v, rfl, hc, by omega, row h0⟩
  · exact ⟨g, n + 1, v1, rfl, hc, by omega, row h1⟩
  · exact ⟨g, n + 2, v2, rfl, hc, by omega, row h2⟩
  · exact ⟨g, n + 3, v3, rfl, hc, by omega, row h3⟩

theorem book_logs {w : World} {base n : Nat} {v v1 v2 v3 : Value} {a : Option Addr} {c : Nat} {mk : Int} (hr : w.ownsRow base 23 1 (.slice a 4 c) (0 + 4) ([] ++ [v, v1, v2, v3])) (hn : n ≤ 1000) (hmk : mk = -1000)
    (h0 : w.ownsRow base 59 5 v n (ints (entsNums (List.replicate n (markE mk))))) (h1 : w.ownsRow base 59 5 v1 (n + 1) (ints (entsNums (List.replicate (n + 1) (markE mk))))) (h2 : w.ownsRow base 59 5 v2 (n + 2) (ints (entsNums (List.replicate (n + 2) (markE mk))))) (h3 : w.ownsRow base 59 5 v3 (n + 3) (ints (entsNums (List.replicate (n + 3) (markE mk))))) :
    ∀ i, i < 4 → ∃ b n v, a = some ⟨b, 0, none⟩ ∧ w.cell? ⟨b, i, none⟩ = some v ∧ n ≤ 1000000 ∧ LogAt w v (List.replicate n (markE (-1000 - (i : Int) / 4))) := by
  subst hmk
  intro i hi
  obtain ⟨g, cap, hv, _, _⟩ := hr.form (by omega)
  cases hv
  have hd : (-1000 - (i : Int) / 4) = -1000 := by omega
  rw [hd]
  have hc := hr.cellAt i (by omega)
  have row : ∀ {u : Value} {m : Nat}, w.ownsRow base 59 5 u m (ints (entsNums (List.replicate m (markE (-1000))))) → LogAt w u (List.replicate m (markE (-1000))) := fun {u m} h => LogAt.of_owns (by rw [List.length_replicate]; exact h)
  have h4 : i = 0 ∨ i = 1 ∨ i = 2 ∨ i = 3 := by omega
  rcases h4 with rfl | rfl | rfl | rfl
  · exact ⟨g, n, v, rfl, hc, by omega, row h0⟩
  · exact ⟨g, n + 1, v1, rfl, hc, by omega, row h1⟩
  · exact ⟨g, n + 2, v2, rfl, hc, by omega, row h2⟩
  · exact ⟨g, n + 3, v3, rfl, hc, by omega, row h3⟩

theorem Moved.cell {w w' : World} {S : Nat → Prop} {p : Addr} {u : Value} (h : Moved w w' S) (hc : w.cell? p = some u) (hp : ¬ S p.block) : w'.cell? p = some u := by
  have hlt : p.block < w.heap.size := by
    rcases Nat.lt_or_ge p.block w.heap.size with h1 | h1
    · exact h1
    · exfalso
      unfold World.cell? at hc
      rw [Array.getElem?_eq_none h1] at hc
      cases hc
  rw [World.cell?_of_block (h.block p.block hlt hp)]
  exact hc

theorem owns_slice4 {w : World} {base size n : Nat} {e : TypeId} {v : Value} {xs : List Value} (h : w.ownsRow base e size v (0 + n) xs) : ∃ a c, v = .slice a n c := by
  obtain ⟨a, c, hv⟩ := owns_shape h
  rw [Nat.zero_add] at hv
  exact ⟨a, c, hv⟩

set_option maxHeartbeats 4000000 in
set_option maxRecDepth 100000 in
theorem Decodes_any (L : List UInt8) (w : World) (hL : L.length ≤ 140737488355328) :
    Calls Try.prog 4 #[.string (bs L)] w fun e w' => e = .returned (.bool true) ∧ Below w.heap.size w w' := by
  have hds := decOf_ms L
  have hdec := fun w => wireDecode_any L w hL
  have href := fun w => refDecode_any L w hL
  generalize decOf L = d at *
  obtain ⟨k, f, t, ep, ba, vo, po, va, ms, es, err⟩ := d
  dsimp only [Dec.value] at hdec href hds
  obtain ⟨hm5, hm24⟩ := hds
  obtain ⟨W1, hW1, hb1, hs1, qb, fb⟩ := boxed w #[.slice none 0 0, .slice none 0 0, .slice none 0 0, .slice none 0 0] 40
  have hB1 : W1.heap[w.heap.size]? = some (.cells #[.slice none 0 0, .slice none 0 0, .slice none 0 0, .slice none 0 0] 40) := by rw [← hW1]; exact heap_new _ _
  have HB1 := hideA hB1
  clear hB1 qb fb
  have HD := hideA hdec
  have HR := hideA href
  clear hdec href
  go_enter Try.func4, Try.ntmps4
  go_wp2_with fail
  clear hW1
  refine (HD.out W1).mono ?_
  rintro e W2 ⟨hb2, mem, log, rfl, om, ol⟩
  obtain ⟨am, cm, rfl⟩ := owns_shape om
  obtain ⟨al, cl, rfl⟩ := owns_shape ol
  obtain ⟨Z1, hZ1, hbZ1, hsZ1, rZ1, -⟩ := boxed W2 #[.int .i64 k, .int .i64 f, .int .i64 t, .int .i64 ep, .int .i64 ba, .int .i64 vo, .int .i64 po, .int .i64 va, .slice am ms.length cm, .slice al es.length cl] 25
  have m0 : Z1.cell? ⟨W2.heap.size, 0, none⟩ = some (.int .i64 k) := rZ1 0
  have m1 : Z1.cell? ⟨W2.heap.size, 1, none⟩ = some (.int .i64 f) := rZ1 1
  have m2 : Z1.cell? ⟨W2.heap.size, 2, none⟩ = some (.int .i64 t) := rZ1 2
  have m3 : Z1.cell? ⟨W2.heap.size, 3, none⟩ = some (.int .i64 ep) := rZ1 3
  have m4 : Z1.cell? ⟨W2.heap.size, 4, none⟩ = some (.int .i64 ba) := rZ1 4
  have m5 : Z1.cell? ⟨W2.heap.size, 5, none⟩ = some (.int .i64 vo) := rZ1 5
  have m6 : Z1.cell? ⟨W2.heap.size, 6, none⟩ = some (.int .i64 po) := rZ1 6
  have m7 : Z1.cell? ⟨W2.heap.size, 7, none⟩ = some (.int .i64 va) := rZ1 7
  have m8 : Z1.cell? ⟨W2.heap.size, 8, none⟩ = some (.slice am ms.length cm) := rZ1 8
  have m9 : Z1.cell? ⟨W2.heap.size, 9, none⟩ = some (.slice al es.length cl) := rZ1 9
  clear rZ1
  go_wp2_with fail
  clear hZ1
  refine (HR.out Z1).mono ?_
  rintro e W3 ⟨hb3, memR, logR, rfl, omR, olR⟩
  obtain ⟨amR, cmR, rfl⟩ := owns_shape omR
  obtain ⟨alR, clR, rfl⟩ := owns_shape olR
  obtain ⟨Z2, hZ2, hbZ2, hsZ2, rZ2, -⟩ := boxed W3 #[.int .i64 k, .int .i64 f, .int .i64 t, .int .i64 ep, .int .i64 ba, .int .i64 vo, .int .i64 po, .int .i64 va, .slice amR ms.length cmR, .slice alR es.length clR] 25
  have n0 : Z2.cell? ⟨W3.heap.size, 0, none⟩ = some (.int .i64 k) := rZ2 0
  have n1 : Z2.cell? ⟨W3.heap.size, 1, none⟩ = some (.int .i64 f) := rZ2 1
  have n2 : Z2.cell? ⟨W3.heap.size, 2, none⟩ = some (.int .i64 t) := rZ2 2
  have n3 : Z2.cell? ⟨W3.heap.size, 3, none⟩ = some (.int .i64 ep) := rZ2 3
  have n4 : Z2.cell? ⟨W3.heap.size, 4, none⟩ = some (.int .i64 ba) := rZ2 4
  have n5 : Z2.cell? ⟨W3.heap.size, 5, none⟩ = some (.int .i64 vo) := rZ2 5
  have n6 : Z2.cell? ⟨W3.heap.size, 6, none⟩ = some (.int .i64 po) := rZ2 6
  have n7 : Z2.cell? ⟨W3.heap.size, 7, none⟩ = some (.int .i64 va) := rZ2 7
  have n8 : Z2.cell? ⟨W3.heap.size, 8, none⟩ = some (.slice amR ms.length cmR) := rZ2 8
  have n9 : Z2.cell? ⟨W3.heap.size, 9, none⟩ = some (.slice alR es.length clR) := rZ2 9
  clear rZ2
  have hbZ12 : Below Z1.heap.size Z1 Z2 := hb3.trans (hbZ2.mono hb3.size)
  have hbW22 : Below W2.heap.size W2 Z2 := hbZ1.trans (hbZ12.mono hbZ1.size)
  have hbW12 : Below W1.heap.size W1 Z2 := hb2.trans (hbW22.mono hb2.size)
  have p0 := cell_later hbZ12 m0
  have p1 := cell_later hbZ12 m1
  have p2 := cell_later hbZ12 m2
  have p3 := cell_later hbZ12 m3
  have p4 := cell_later hbZ12 m4
  have p5 := cell_later hbZ12 m5
  have p6 := cell_later hbZ12 m6
  have p7 := cell_later hbZ12 m7
  have p8 := cell_later hbZ12 m8
  have p9 := cell_later hbZ12 m9
  have om2 := owns_kept om fun k _ hk => hbW22.block k hk
  have ol2 := owns_kept ol fun k _ hk => hbW22.block k hk
  have omR2 := owns_kept omR fun k _ hk => hbZ2.block k hk
  have olR2 := owns_kept olR fun k _ hk => hbZ2.block k hk
  clear m0 m1 m2 m3 m4 m5 m6 m7 m8 m9
  go_wp2_with fail
  clear hZ2
  refine (cordonlaw_sameMsg k f t ep ba vo po va _ _ _ _ ms es Z2 (IntsAt.of_owns om2) (IntsAt.of_owns omR2) (LogAt.of_owns ol2) (LogAt.of_owns olR2) (by omega) (by omega)).mono ?_
  rintro e W4 ⟨rfl, hb4⟩
  have a0 := cell_later hb4 n0
  have a1 := cell_later hb4 n1
  have a2 := cell_later hb4 n2
  have a3 := cell_later hb4 n3
  have a4 := cell_later hb4 n4
  have a5 := cell_later hb4 n5
  have a6 := cell_later hb4 n6
  have a7 := cell_later hb4 n7
  have a8 := cell_later hb4 n8
  have a9 := cell_later hb4 n9
  have p8' := cell_later hb4 p8
  have p9' := cell_later hb4 p9
  have hsz12 := hb2.size
  have hsz22 := hbW22.size
  have hszZ := hb4.size
  have hb1w : Below w.heap.size w W4 := (hb1.trans (hbW12.mono hb1.size)).trans (hb4.mono (by have := hb1.size; have := hbW12.size; omega))
  have HB4 : Hid (W4.heap[w.heap.size]? = some (.cells #[.slice none 0 0, .slice none 0 0, .slice none 0 0, .slice none 0 0] 40)) :=
    hideA (((hb4.block _ (by omega)).trans (hbW12.block _ (by omega))).trans HB1.out)
  have om4 := owns_low (owns_kept om2 fun k _ hk => hb4.block k hk) (show w.heap.size + 1 ≤ _ by omega)
  have ol4 := owns_low (owns_kept ol2 fun k _ hk => hb4.block k hk) (show w.heap.size + 1 ≤ _ by omega)
  have omR4 := owns_kept omR2 fun k _ hk => hb4.block k hk
  have olR4 := owns_kept olR2 fun k _ hk => hb4.block k hk
  have ltm : ∀ k, (Value.slice am ms.length cm).ownBlock = some k → w.heap.size < k ∧ k < W2.heap.size := fun k hk => by have := om.lt k hk; omega
  have ltl : ∀ k, (Value.slice al es.length cl).ownBlock = some k → w.heap.size < k ∧ k < W2.heap.size := fun k hk => by have := ol.lt k hk; omega
  have hzz : W2.heap.size < Z1.heap.size := by omega
  have hzw := hb3.size
  clear n0 n1 n2 n3 n4 n5 n6 n7 n8 n9 p0 p1 p2 p3 p4 p5 p6 p7 p8 p9
  clear om ol om2 ol2 omR omR2 olR olR2
  go_wp2_with fail
  refine (keepInts_any w.heap.size (w.heap.size + 1) 0 _ (.slice none 0 0) _ _ _ [] ms W4 HB4.out (by omega) (by omega) om4 (World.ownsRow_nil _ _ _ _) (by omega) (by omega)).mono ?_
  rintro e W5 ⟨rfl, v1, v2, v3, vB, hB5, oB5, ov5, o15, o25, o35, M5⟩
  have no5 : ∀ b, W2.heap.size ≤ b → ¬ (b = w.heap.size ∨ (Value.slice am ms.length cm).ownBlock = some b ∨ (Value.slice none 0 0).ownBlock = some b) := by
    rintro b hb (rfl | h | h)
    · omega
    · have := ltm b h; omega
    · cases h
  have b0 := M5.cell a0 (no5 _ (by show W2.heap.size ≤ W3.heap.size; omega))
  have b1 := M5.cell a1 (no5 _ (by show W2.heap.size ≤ W3.heap.size; omega))
  have b2 := M5.cell a2 (no5 _ (by show W2.heap.size ≤ W3.heap.size; omega))
  have b3 := M5.cell a3 (no5 _ (by show W2.heap.size ≤ W3.heap.size; omega))
  have b4 := M5.cell a4 (no5 _ (by show W2.heap.size ≤ W3.heap.size; omega))
  have b5 := M5.cell a5 (no5 _ (by show W2.heap.size ≤ W3.heap.size; omega))
  have b6 := M5.cell a6 (no5 _ (by show W2.heap.size ≤ W3.heap.size; omega))
  have b7 := M5.cell a7 (no5 _ (by show W2.heap.size ≤ W3.heap.size; omega))
  have b8 := M5.cell a8 (no5 _ (by show W2.heap.size ≤ W3.heap.size; omega))
  have b9 := M5.cell a9 (no5 _ (by show W2.heap.size ≤ W3.heap.size; omega))
  have p9'' := M5.cell p9' (no5 _ (Nat.le_refl _))
  have omR5 := M5.owns omR4 (fun b hb => no5 b (by have := omR4.lt b hb; omega))
  have olR5 := M5.owns olR4 (fun b hb => no5 b (by have := olR4.lt b hb; omega))
  have ol5 := M5.owns ol4 (fun b hb => by
    rintro (rfl | h | h)
    · have := ltl _ hb; omega
    · exact owns_two ol4 om4 (by decide) b hb h
    · cases h)
  have HB5 := hideA hB5
  have hs5 := M5.size
  clear hB5 p9' p8' om4 ol4 omR4 olR4
  clear a0 a1 a2 a3 a4 a5 a6 a7 a8 a9
  go_wp2_with fail
  refine (keepLog_any w.heap.size (w.heap.size + 1) 0 _ (.slice none 0 0) _ _ _ [] es W5 HB5.out (by omega) (by omega) ol5 (World.ownsRow_nil _ _ _ _) (by omega) (by omega)).mono ?_
  rintro e W6 ⟨rfl, u1, u2, u3, vL, hB6, oL6, ow6, q16, q26, q36, M6⟩
  have no6 : ∀ b, W2.heap.size ≤ b → ¬ (b = w.heap.size ∨ (Value.slice al es.length cl).ownBlock = some b ∨ (Value.slice none 0 0).ownBlock = some b) := by
    rintro b hb (rfl | h | h)
    · omega
    · have := ltl b h; omega
    · cases h
  have c0 := M6.cell b0 (no6 _ (by show W2.heap.size ≤ W3.heap.size; omega))
  have c1 := M6.cell b1 (no6 _ (by show W2.heap.size ≤ W3.heap.size; omega))
  have c2 := M6.cell b2 (no6 _ (by show W2.heap.size ≤ W3.heap.size; omega))
  have c3 := M6.cell b3 (no6 _ (by show W2.heap.size ≤ W3.heap.size; omega))
  have c4 := M6.cell b4 (no6 _ (by show W2.heap.size ≤ W3.heap.size; omega))
  have c5 := M6.cell b5 (no6 _ (by show W2.heap.size ≤ W3.heap.size; omega))
  have c6 := M6.cell b6 (no6 _ (by show W2.heap.size ≤ W3.heap.size; omega))
  have c7 := M6.cell b7 (no6 _ (by show W2.heap.size ≤ W3.heap.size; omega))
  have c8 := M6.cell b8 (no6 _ (by show W2.heap.size ≤ W3.heap.size; omega))
  have c9 := M6.cell b9 (no6 _ (by show W2.heap.size ≤ W3.heap.size; omega))
  have omR6 := M6.owns omR5 (fun b hb => no6 b (by have := omR5.lt b hb; omega))
  have olR6 := M6.owns olR5 (fun b hb => no6 b (by have := olR5.lt b hb; omega))
  have oB6 := M6.owns oB5 (fun b hb => by
    rintro (rfl | h | h)
    · have := (oB5.lt _ hb).1; omega
    · exact owns_two oB5 ol5 (by decide) b hb h
    · cases h)
  have ov6 := M6.owns ov5 (fun b hb => by
    rintro (rfl | h | h)
    · have := (ov5.lt _ hb).1; omega
    · exact owns_two ov5 ol5 (by decide) b hb h
    · cases h)
  have o16 := M6.owns o15 (fun b hb => by
    rintro (rfl | h | h)
    · have := (o15.lt _ hb).1; omega
    · exact owns_two o15 ol5 (by decide) b hb h
    · cases h)
  have o26 := M6.owns o25 (fun b hb => by
    rintro (rfl | h | h)
    · have := (o25.lt _ hb).1; omega
    · exact owns_two o25 ol5 (by decide) b hb h
    · cases h)
  have o36 := M6.owns o35 (fun b hb => by
    rintro (rfl | h | h)
    · have := (o35.lt _ hb).1; omega
    · exact owns_two o35 ol5 (by decide) b hb h
    · cases h)
  have hs6 := M6.size
  have HB6 := hideA hB6
  obtain ⟨aI, cI, rfl⟩ := owns_slice4 oB6
  obtain ⟨aL, cL, rfl⟩ := owns_slice4 oL6
  clear hB6 p9'' oB5 ov5 o15 o25 o35 ol5 omR5 olR5 HB5
  clear b0 b1 b2 b3 b4 b5 b6 b7 b8 b9
  go_wp2_with fail
  refine (HD.out W6).mono ?_
  rintro e W7 ⟨hb7, mem2, log2, rfl, om7, ol7⟩
  obtain ⟨am2, cm2, rfl⟩ := owns_shape om7
  obtain ⟨al2, cl2, rfl⟩ := owns_shape ol7
  obtain ⟨Z3, hZ3, hbZ3, hsZ3, rZ3, -⟩ := boxed W7 #[.int .i64 k, .int .i64 f, .int .i64 t, .int .i64 ep, .int .i64 ba, .int .i64 vo, .int .i64 po, .int .i64 va, .slice am2 ms.length cm2, .slice al2 es.length cl2] 25
  have n0 : Z3.cell? ⟨W7.heap.size, 0, none⟩ = some (.int .i64 k) := rZ3 0
  have n1 : Z3.cell? ⟨W7.heap.size, 1, none⟩ = some (.int .i64 f) := rZ3 1
  have n2 : Z3.cell? ⟨W7.heap.size, 2, none⟩ = some (.int .i64 t) := rZ3 2
  have n3 : Z3.cell? ⟨W7.heap.size, 3, none⟩ = some (.int .i64 ep) := rZ3 3
  have n4 : Z3.cell? ⟨W7.heap.size, 4, none⟩ = some (.int .i64 ba) := rZ3 4
  have n5 : Z3.cell? ⟨W7.heap.size, 5, none⟩ = some (.int .i64 vo) := rZ3 5
  have n6 : Z3.cell? ⟨W7.heap.size, 6, none⟩ = some (.int .i64 po) := rZ3 6
  have n7 : Z3.cell? ⟨W7.heap.size, 7, none⟩ = some (.int .i64 va) := rZ3 7
  have n8 : Z3.cell? ⟨W7.heap.size, 8, none⟩ = some (.slice am2 ms.length cm2) := rZ3 8
  have n9 : Z3.cell? ⟨W7.heap.size, 9, none⟩ = some (.slice al2 es.length cl2) := rZ3 9
  clear rZ3
  have hb73 : Below W6.heap.size W6 Z3 := hb7.trans (hbZ3.mono hb7.size)
  have d0 := cell_later hb73 c0
  have d1 := cell_later hb73 c1
  have d2 := cell_later hb73 c2
  have d3 := cell_later hb73 c3
  have d4 := cell_later hb73 c4
  have d5 := cell_later hb73 c5
  have d6 := cell_later hb73 c6
  have d7 := cell_later hb73 c7
  have d8 := cell_later hb73 c8
  have d9 := cell_later hb73 c9
  have omZ := owns_kept om7 fun k _ hk => hbZ3.block k hk
  have olZ := owns_kept ol7 fun k _ hk => hbZ3.block k hk
  have omRZ := owns_kept omR6 fun k _ hk => hb73.block k hk
  have olRZ := owns_kept olR6 fun k _ hk => hb73.block k hk
  clear c0 c1 c2 c3 c4 c5 c6 c7 c8 c9 om7 ol7 omR6 olR6
  go_wp2_with fail
  clear hZ3
  refine (cordonlaw_sameMsg k f t ep ba vo po va _ _ _ _ ms es Z3 (IntsAt.of_owns omZ) (IntsAt.of_owns omRZ) (LogAt.of_owns olZ) (LogAt.of_owns olRZ) (by omega) (by omega)).mono ?_
  rintro e W8 ⟨rfl, hb8⟩
  clear n0 n1 n2 n3 n4 n5 n6 n7 n8 n9 d0 d1 d2 d3 d4 d5 d6 d7 d8 d9
  have hb68 : Below W6.heap.size W6 W8 := hb73.trans (hb8.mono hb73.size)
  have HB8 : Hid (W8.heap[w.heap.size]? = some (.cells #[.slice aI 4 cI, .slice aL 4 cL, .slice none 0 0, .slice none 0 0] 40)) := hideA ((hb68.block _ (by omega)).trans HB6.out)
  have hI := book_ints (owns_kept oB6 fun k _ hk => hb68.block k hk) (by omega) (by omega) (owns_kept ov6 fun k _ hk => hb68.block k hk) (owns_kept o16 fun k _ hk => hb68.block k hk) (owns_kept o26 fun k _ hk => hb68.block k hk) (owns_kept o36 fun k _ hk => hb68.block k hk)
  have hLg := book_logs (owns_kept oL6 fun k _ hk => hb68.block k hk) (by omega) (by omega) (owns_kept ow6 fun k _ hk => hb68.block k hk) (owns_kept q16 fun k _ hk => hb68.block k hk) (owns_kept q26 fun k _ hk => hb68.block k hk) (owns_kept q36 fun k _ hk => hb68.block k hk)
  have HI := hideA hI
  have HLg := hideA hLg
  clear hI hLg oB6 ov6 o16 o26 o36 oL6 ow6 q16 q26 q36
  go_wp2_with fail
  refine (whole_any w.heap.size aI aL 4 4 cI cL W8 HB8.out HI.out HLg.out (by omega) (by omega)).mono ?_
  rintro e W9 ⟨rfl, hb9⟩
  have b5 : Below w.heap.size W4 W5 := M5.to_below (fun b hb => by
    rcases hb with rfl | h | h
    · exact Nat.le_refl _
    · have := ltm b h; omega
    · cases h) (by omega)
  have b6 : Below w.heap.size W5 W6 := M6.to_below (fun b hb => by
    rcases hb with rfl | h | h
    · exact Nat.le_refl _
    · have := ltl b h; omega
    · cases h) (by omega)
  have bF : Below w.heap.size w W9 := (((hb1w.trans b5).trans b6).trans (hb68.mono (by omega))).trans (hb9.mono (by have := hb68.size; omega))
  have HF := hideA bF
  clear b5 b6 bF
  go_wp2_with fail
  go_ret
  exact ⟨rfl, HF.out⟩
end Go.Proofs.Ytgieeeeeiggoeaa
