import Derived.Test.YtgieeeeeiggoeaaBackC
namespace Go.Proofs.Ytgieeeeeiggoeaa
open Go.RowKit

set_option maxHeartbeats 2000000 in
set_option maxRecDepth 100000 in
theorem Back_any (v1 v2 v3 : Value) (l mem log : List Int) (cut : Int) (w : World) (h1 : IntsAt w v1 l) (h2 : IntsAt w v2 mem) (h3 : IntsAt w v3 log) (i1 : I64s l) (i2 : I64s mem) (i3 : I64s log)
    (n1 : mem.length ≤ 9223372036854775807) (n2 : log.length ≤ 9223372036854775807) (c0 : -9223372036854775808 ≤ cut) (c1 : cut ≤ 9223372036854775807) :
    Calls Try.prog 6 #[v1, v2, v3, .int .i64 cut] w fun e w' => e = .returned (.bool true) ∧ Below w.heap.size w w' := by
  have hok := message_ok l mem log
  have hm5 : (numsI mem (min mem.length 5)).length ≤ 5 := by rw [numsI_length]; omega
  have hm24 : (entsI log (min log.length 24)).length ≤ 24 := by rw [entsI_length]; omega
  have hEnc : Hid (encOf (1 + pickI (l.getD 0 0) 16) [numI l 1, numI l 2, numI l 3, numI l 4, numI l 5, numI l 6, numI l 7] (numsI mem (min mem.length 5)) (entsI log (min log.length 24)) = (frame (1 + pickI (l.getD 0 0) 16) [numI l 1, numI l 2, numI l 3, numI l 4, numI l 5, numI l 6, numI l 7] (numsI mem (min mem.length 5)) (entsI log (min log.length 24)), 0)) := hideA (encOf_yes hok)
  have hDec := hideA (decOf_frame _ _ _ _ _ _ _ _ _ _ hok)
  have hCut := hideA (decOf_cut _ _ _ _ _ _ _ _ _ _ hok)
  have hLen := hideA (frame_length (1 + pickI (l.getD 0 0) 16) (numI l 1) (numI l 2) (numI l 3) (numI l 4) (numI l 5) (numI l 6) (numI l 7) (numsI mem (min mem.length 5)) (entsI log (min log.length 24)))
  have hmsg := message_any v1 v2 v3 l mem log w h1 h2 h3 i1 i2 i3 n1 n2
  clear hok
  go_enter Try.func6, Try.ntmps6
  go_wp2_with fail
  refine hmsg.mono ?_
  rintro e W ⟨hb1, vm, vl, rfl, om0, ol0⟩
  have om : W.ownsRow (w.heap.size + 1) 3 1 vm (numsI mem (min mem.length 5)).length (ints (numsI mem (min mem.length 5))) := by rw [numsI_length]; exact om0
  have ol : W.ownsRow (w.heap.size + 1) 59 5 vl (entsI log (min log.length 24)).length (ints (entsNums (entsI log (min log.length 24)))) := by rw [entsI_length]; exact ol0
  clear hmsg om0 ol0 h1 h2 h3 i1 i2 i3 n1 n2
  generalize numsI mem (min mem.length 5) = ms at *
  generalize entsI log (min log.length 24) = es at *
  generalize (1 + pickI (l.getD 0 0) 16) = k at *
  generalize numI l 1 = f at *
  generalize numI l 2 = t at *
  generalize numI l 3 = ep at *
  generalize numI l 4 = ba at *
  generalize numI l 5 = vo at *
  generalize numI l 6 = po at *
  generalize numI l 7 = va at *
  obtain ⟨am, cm, rfl⟩ := owns_shape om
  obtain ⟨al, cl, rfl⟩ := owns_shape ol
  obtain ⟨X, hX, hbX, hsX, qX, fX⟩ := boxed W #[.int .i64 k, .int .i64 f, .int .i64 t, .int .i64 ep, .int .i64 ba, .int .i64 vo, .int .i64 po, .int .i64 va, .slice am ms.length cm, .slice al es.length cl] 25
  have omX := owns_kept om fun k _ hk => hbX.block k hk
  have olX := owns_kept ol fun k _ hk => hbX.block k hk
  have q0 : X.cell? ⟨W.heap.size, 0, none⟩ = some (.int .i64 k) := qX 0
  have q1 : X.cell? ⟨W.heap.size, 1, none⟩ = some (.int .i64 f) := qX 1
  have q2 : X.cell? ⟨W.heap.size, 2, none⟩ = some (.int .i64 t) := qX 2
  have q3 : X.cell? ⟨W.heap.size, 3, none⟩ = some (.int .i64 ep) := qX 3
  have q4 : X.cell? ⟨W.heap.size, 4, none⟩ = some (.int .i64 ba) := qX 4
  have q5 : X.cell? ⟨W.heap.size, 5, none⟩ = some (.int .i64 vo) := qX 5
  have q6 : X.cell? ⟨W.heap.size, 6, none⟩ = some (.int .i64 po) := qX 6
  have q7 : X.cell? ⟨W.heap.size, 7, none⟩ = some (.int .i64 va) := qX 7
  have q8 : X.cell? ⟨W.heap.size, 8, none⟩ = some (.slice am ms.length cm) := qX 8
  have q9 : X.cell? ⟨W.heap.size, 9, none⟩ = some (.slice al es.length cl) := qX 9
  have hWX : W.heap.size < X.heap.size := by omega
  clear qX fX hsX
  have hbw := hb1.trans (hbX.mono hb1.size)
  go_wp2_with fail
  clear hX
  refine (wireEncode_any k f t ep ba vo po va _ _ ms es _ X (IntsAt.of_owns omX) olX).mono ?_
  rintro e W2 ⟨hb2, rfl⟩
  rw [hEnc.out]
  dsimp only
  have hl2 : (frame k [f, t, ep, ba, vo, po, va] ms es).length ≤ 1000 := by rw [hLen.out]; omega
  have hl3 : 21 ≤ (frame k [f, t, ep, ba, vo, po, va] ms es).length := by rw [hLen.out]; omega
  have Hl : Hid ((frame k [f, t, ep, ba, vo, po, va] ms es).length = 21 + 2 * ms.length + 10 * es.length) := hLen
  generalize frame k [f, t, ep, ba, vo, po, va] ms es = F at *
  go_wp2_with fail
  refine (wireDecode_any F _ (by omega)).mono ?_
  rintro e W3 ⟨hb3, mem3, log3, rfl, o3, p3⟩
  rw [hDec.out] at o3 p3 ⊢
  dsimp only [Dec.value] at o3 p3 ⊢
  obtain ⟨a3, c3, rfl⟩ := owns_shape o3
  obtain ⟨a4, c4, rfl⟩ := owns_shape p3
  have hbX3 : Below X.heap.size X W3 := hb2.trans (hb3.mono hb2.size)
  obtain ⟨Z, hZ, hbZ, hsZ, rZ, -⟩ := boxed W3 #[.int .i64 k, .int .i64 f, .int .i64 t, .int .i64 ep, .int .i64 ba, .int .i64 vo, .int .i64 po, .int .i64 va, .slice a3 ms.length c3, .slice a4 es.length c4] 25
  have hbXZ : Below X.heap.size X Z := hbX3.trans (hbZ.mono hbX3.size)
  have oZ := owns_kept o3 fun k _ hk => hbZ.block k hk
  have pZ := owns_kept p3 fun k _ hk => hbZ.block k hk
  have omZ := owns_kept omX fun k _ hk => hbXZ.block k hk
  have olZ := owns_kept olX fun k _ hk => hbXZ.block k hk
  have s0 := cell_later hbXZ q0
  have s1 := cell_later hbXZ q1
  have s2 := cell_later hbXZ q2
  have s3 := cell_later hbXZ q3
  have s4 := cell_later hbXZ q4
  have s5 := cell_later hbXZ q5
  have s6 := cell_later hbXZ q6
  have s7 := cell_later hbXZ q7
  have s8 := cell_later hbXZ q8
  have s9 := cell_later hbXZ q9
  have r0 : Z.cell? ⟨W3.heap.size, 0, none⟩ = some (.int .i64 k) := rZ 0
  have r1 : Z.cell? ⟨W3.heap.size, 1, none⟩ = some (.int .i64 f) := rZ 1
  have r2 : Z.cell? ⟨W3.heap.size, 2, none⟩ = some (.int .i64 t) := rZ 2
  have r3 : Z.cell? ⟨W3.heap.size, 3, none⟩ = some (.int .i64 ep) := rZ 3
  have r4 : Z.cell? ⟨W3.heap.size, 4, none⟩ = some (.int .i64 ba) := rZ 4
  have r5 : Z.cell? ⟨W3.heap.size, 5, none⟩ = some (.int .i64 vo) := rZ 5
  have r6 : Z.cell? ⟨W3.heap.size, 6, none⟩ = some (.int .i64 po) := rZ 6
  have r7 : Z.cell? ⟨W3.heap.size, 7, none⟩ = some (.int .i64 va) := rZ 7
  have r8 : Z.cell? ⟨W3.heap.size, 8, none⟩ = some (.slice a3 ms.length c3) := rZ 8
  have r9 : Z.cell? ⟨W3.heap.size, 9, none⟩ = some (.slice a4 es.length c4) := rZ 9
  have hbwZ := hbw.trans (hbXZ.mono hbw.size)
  clear q0 q1 q2 q3 q4 q5 q6 q7 q8 q9 rZ hsZ om ol omX olX o3 p3
  go_wp2_with fail
  clear hZ
  refine (cordonkeep_sameMsg k f t ep ba vo po va _ _ _ _ ms es Z (IntsAt.of_owns omZ) (IntsAt.of_owns oZ) (LogAt.of_owns olZ) (LogAt.of_owns pZ) (by omega) (by omega)).mono ?_
  rintro e W4 ⟨rfl, hb4⟩
  have t8 := cell_later hb4 s8
  have t9 := cell_later hb4 s9
  have hbs := bs_size F
  have hll : ((F.length : Int) == 21 + 2 * (ms.length : Int) + 10 * (es.length : Int)) = true := by rw [Hl.out, beq_iff_eq]; omega
  clear s0 s1 s2 s3 s4 s5 s6 s7 s8 s9 r0 r1 r2 r3 r4 r5 r6 r7 r8 r9
  have hbw4 := hbwZ.trans (hb4.mono hbwZ.size)
  go_wp2_with fail
  refine (pick_any _ _ _ (by omega) (by omega) c0 c1).mono ?_
  rintro e W5 ⟨rfl, rfl⟩
  have hpk := pickI_lt cut (F.length : Int) (by omega)
  obtain ⟨c, hc⟩ : ∃ c : Nat, pickI cut (F.length : Int) = c := ⟨(pickI cut (F.length : Int)).toNat, by omega⟩
  rw [hc]
  rw [hc] at hpk
  have hx := slice_to F (c : Int) c rfl (by omega)
  obtain ⟨er, hC, hne⟩ := hCut.out c (by omega)
  have HC := hideA hC
  clear hc hC t8 t9 hll
  go_wp2_with fail
  refine (wireDecode_any (F.take c) _ (by rw [List.length_take]; omega)).mono ?_
  rintro e W6 ⟨hb6, mem6, log6, rfl, o6, p6⟩
  rw [HC.out] at o6 p6 ⊢
  dsimp only [Dec.value, Dec.no] at o6 p6 ⊢
  obtain ⟨a6, c6, rfl⟩ := owns_shape o6
  obtain ⟨a7, c7, rfl⟩ := owns_shape p6
  have hbw6 := hbw4.trans (hb6.mono hbw4.size)
  obtain ⟨Y, hY, hbY, hsY, rY, -⟩ := boxed W6 #[.int .i64 0, .int .i64 0, .int .i64 0, .int .i64 0, .int .i64 0, .int .i64 0, .int .i64 0, .int .i64 0, .slice a6 0 c6, .slice a7 0 c7] 25
  have oY := owns_kept o6 fun k _ hk => hbY.block k hk
  have pY := owns_kept p6 fun k _ hk => hbY.block k hk
  have hbwY := hbw6.trans (hbY.mono hbw6.size)
  have y0 : Y.cell? ⟨W6.heap.size, 0, none⟩ = some (.int .i64 0) := rY 0
  have y1 : Y.cell? ⟨W6.heap.size, 1, none⟩ = some (.int .i64 0) := rY 1
  have y2 : Y.cell? ⟨W6.heap.size, 2, none⟩ = some (.int .i64 0) := rY 2
  have y3 : Y.cell? ⟨W6.heap.size, 3, none⟩ = some (.int .i64 0) := rY 3
  have y4 : Y.cell? ⟨W6.heap.size, 4, none⟩ = some (.int .i64 0) := rY 4
  have y5 : Y.cell? ⟨W6.heap.size, 5, none⟩ = some (.int .i64 0) := rY 5
  have y6 : Y.cell? ⟨W6.heap.size, 6, none⟩ = some (.int .i64 0) := rY 6
  have y7 : Y.cell? ⟨W6.heap.size, 7, none⟩ = some (.int .i64 0) := rY 7
  have y8 : Y.cell? ⟨W6.heap.size, 8, none⟩ = some (.slice a6 0 c6) := rY 8
  have y9 : Y.cell? ⟨W6.heap.size, 9, none⟩ = some (.slice a7 0 c7) := rY 9
  clear rY hsY hx
  go_wp2_with fail
  clear hY
  refine (cordonkeep_sameMsg 0 0 0 0 0 0 0 0 _ _ _ _ [] [] Y (IntsAt.of_owns oY) (IntsAt.nil _) (LogAt.of_owns pY) (LogAt.nil _) (by simp) (by simp)).mono ?_
  rintro e W7 ⟨rfl, hb7⟩
  clear y0 y1 y2 y3 y4 y5 y6 y7 y8 y9
  go_wp2_with fail
  go_ret
  refine ⟨?_, hbwY.trans (hb7.mono hbwY.size)⟩
  simp [hne]
end Go.Proofs.Ytgieeeeeiggoeaa
