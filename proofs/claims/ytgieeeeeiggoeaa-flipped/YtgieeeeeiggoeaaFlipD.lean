import Derived.Test.YtgieeeeeiggoeaaFlipA
namespace Go.Proofs.Ytgieeeeeiggoeaa
open Go.RowKit

theorem flip_byte (b K : Nat) (hb : b < 256) : Go.bits .xor .u8 (b : Int) (wrap64 (2 ^ (K % 8)) % 256) = ((b ^^^ 2 ^ (K % 8) : Nat) : Int) := by
  have hj : K % 8 < 8 := by omega
  generalize K % 8 = j at *
  have e : ∀ j, j < 8 → wrap64 (2 ^ j) % 256 = ((2 ^ j : Nat) : Int) := by decide +kernel
  rw [e j hj]
  exact u8_xor_nat b _ hb (Nat.lt_of_le_of_lt (Nat.pow_le_pow_right (by omega) (show j ≤ 7 by omega)) (by decide))

set_option maxHeartbeats 2000000 in
set_option maxRecDepth 100000 in
theorem Flipped_any (v1 v2 v3 v4 : Value) (l mem log bits : List Int) (w : World) (h1 : IntsAt w v1 l) (h2 : IntsAt w v2 mem) (h3 : IntsAt w v3 log) (h4 : IntsAt w v4 bits) (i1 : I64s l) (i2 : I64s mem) (i3 : I64s log) (i4 : I64s bits)
    (n1 : mem.length ≤ 9223372036854775807) (n2 : log.length ≤ 9223372036854775807) :
    Calls Try.prog 7 #[v1, v2, v3, v4] w fun e w' => e = .returned (.bool true) ∧ Below w.heap.size w w' := by
  have hok := message_ok l mem log
  have hm5 : (numsI mem (min mem.length 5)).length ≤ 5 := by rw [numsI_length]; omega
  have hm24 : (entsI log (min log.length 24)).length ≤ 24 := by rw [entsI_length]; omega
  have hEnc : Hid (encOf (1 + pickI (l.getD 0 0) 16) [numI l 1, numI l 2, numI l 3, numI l 4, numI l 5, numI l 6, numI l 7] (numsI mem (min mem.length 5)) (entsI log (min log.length 24)) = (frame (1 + pickI (l.getD 0 0) 16) [numI l 1, numI l 2, numI l 3, numI l 4, numI l 5, numI l 6, numI l 7] (numsI mem (min mem.length 5)) (entsI log (min log.length 24)), 0)) := hideA (encOf_yes hok)
  have hDec := hideA (decOf_frame _ _ _ _ _ _ _ _ _ _ hok)
  have hRes : Hid (crcFrom 4294967295 (frame (1 + pickI (l.getD 0 0) 16) [numI l 1, numI l 2, numI l 3, numI l 4, numI l 5, numI l 6, numI l 7] (numsI mem (min mem.length 5)) (entsI log (min log.length 24))) = resid) := hideA (resid_sum _)
  have hLen := hideA (frame_length (1 + pickI (l.getD 0 0) 16) (numI l 1) (numI l 2) (numI l 3) (numI l 4) (numI l 5) (numI l 6) (numI l 7) (numsI mem (min mem.length 5)) (entsI log (min log.length 24)))
  have hmsg := message_any v1 v2 v3 l mem log w h1 h2 h3 i1 i2 i3 n1 n2
  clear hok
  go_enter Try.func7, Try.ntmps7
  go_wp2_with fail
  refine hmsg.mono ?_
  rintro e W ⟨hb1, vm, vl, rfl, om0, ol0⟩
  have om : W.ownsRow (w.heap.size + 1) 3 1 vm (numsI mem (min mem.length 5)).length (ints (numsI mem (min mem.length 5))) := by rw [numsI_length]; exact om0
  have ol : W.ownsRow (w.heap.size + 1) 59 5 vl (entsI log (min log.length 24)).length (ints (entsNums (entsI log (min log.length 24)))) := by rw [entsI_length]; exact ol0
  clear hmsg om0 ol0 h1 h2 h3 i1 i2 i3 n1 n2
  generalize numsI mem (min mem.length 5) = ms at *
  generalize entsI log (min log.length 24) = es at *
  generalize (1 + pickI (l.getD 0 0) 16) = k at *
  generalize numI l 1 = f at *
  generalize numI l 2 = t at *
  generalize numI l 3 = ep at *
  generalize numI l 4 = ba at *
  generalize numI l 5 = vo at *
  generalize numI l 6 = po at *
  generalize numI l 7 = va at *
  obtain ⟨am, cm, rfl⟩ := owns_shape om
  obtain ⟨al, cl, rfl⟩ := owns_shape ol
  obtain ⟨X, hX, hbX, hsX, qX, fX⟩ := boxed W #[.int .i64 k, .int .i64 f, .int .i64 t, .int .i64 ep, .int .i64 ba, .int .i64 vo, .int .i64 po, .int .i64 va, .slice am ms.length cm, .slice al es.length cl] 25
  have omX := owns_kept om fun k _ hk => hbX.block k hk
  have olX := owns_kept ol fun k _ hk => hbX.block k hk
  have q0 : X.cell? ⟨W.heap.size, 0, none⟩ = some (.int .i64 k) := qX 0
  have q1 : X.cell? ⟨W.heap.size, 1, none⟩ = some (.int .i64 f) := qX 1
  have q2 : X.cell? ⟨W.heap.size, 2, none⟩ = some (.int .i64 t) := qX 2
  have q3 : X.cell? ⟨W.heap.size, 3, none⟩ = some (.int .i64 ep) := qX 3
  have q4 : X.cell? ⟨W.heap.size, 4, none⟩ = some (.int .i64 ba) := qX 4
  have q5 : X.cell? ⟨W.heap.size, 5, none⟩ = some (.int .i64 vo) := qX 5
  have q6 : X.cell? ⟨W.heap.size, 6, none⟩ = some (.int .i64 po) := qX 6
  have q7 : X.cell? ⟨W.heap.size, 7, none⟩ = some (.int .i64 va) := qX 7
  have q8 : X.cell? ⟨W.heap.size, 8, none⟩ = some (.slice am ms.length cm) := qX 8
  have q9 : X.cell? ⟨W.heap.size, 9, none⟩ = some (.slice al es.length cl) := qX 9
  have hWX : W.heap.size < X.heap.size := by omega
  clear qX fX hsX
  have hbw := hb1.trans (hbX.mono hb1.size)
  go_wp2_with fail
  clear hX
  refine (wireEncode_any k f t ep ba vo po va _ _ ms es _ X (IntsAt.of_owns omX) olX).mono ?_
  rintro e W2 ⟨hb2, rfl⟩
  rw [hEnc.out]
  dsimp only
  have hl2 : (frame k [f, t, ep, ba, vo, po, va] ms es).length ≤ 271 := by rw [hLen.out]; omega
  have hl3 : 21 ≤ (frame k [f, t, ep, ba, vo, po, va] ms es).length := by rw [hLen.out]; omega
  generalize frame k [f, t, ep, ba, vo, po, va] ms es = F at *
  clear hEnc hLen
  obtain ⟨cb, W3, hcv, hb3, ht3, hs3⟩ := conv_text F W2
  have hne : (bs F).toList.isEmpty = false := by
    rw [ByteArray.toList_eq, bs_list]
    cases F with
    | nil => simp at hl3
    | cons => rfl
  have hbX3 : Below X.heap.size X W3 := hb2.trans (hb3.mono hb2.size)
  have hbw3 := hbw.trans (hbX3.mono hbw.size)
  obtain ⟨ab, cb4, hv4, -⟩ := id h4
  subst hv4
  go_wp2_with fail
  clear hcv
  go_loopw [13] (fun i wr => ∃ (n : Nat), (n ≤ bits.length ∧ n ≤ 3) ∧ i = .int .i64 (n : Int) ∧ TextIn wr W2.heap.size (flips F (bitsK F.length bits n)) ∧ Below W2.heap.size W2 wr ∧ W2.heap.size < wr.heap.size)
    (fun i _ => 3 - (intOf i).toNat)
  case atStart => exact ⟨0, ⟨Nat.zero_le _, Nat.zero_le _⟩, rfl, ht3, hb3, by omega⟩
  case round =>
    obtain ⟨n, hn, rfl, ht, hb, hsw⟩ := hrel
    have hL : (flips F (bitsK F.length bits n)).length = F.length := flips_length _ _
    generalize hFL : flips F (bitsK F.length bits n) = L at *
    by_cases hlt : n < bits.length ∧ n < 3
    · obtain ⟨hlt1, hlt2⟩ := hlt
      have hbw4 : Below w.heap.size w wr := (hbw.trans (hb2.mono hbw.size)).trans (hb.mono (by have := (hbw.trans (hb2.mono hbw.size)).size; omega))
      have h4r := h4.below hbw4
      obtain ⟨a, c, hv, hc⟩ := h4r
      obtain ⟨bb, off, hab, hcell⟩ := hc n hlt1
      have hx := i4.getD n
      have hK : Hid (bitK F.length (bits.getD n 0) = (pickI (bits.getD n 0) (8 * (F.length : Int))).toNat) := hideA rfl
      generalize hxx : bits.getD n 0 = x at *
      have HX := hideA hxx
      clear hxx
      cases hv
      subst hab
      clear hc
      go_wp2_with fail
      refine (pick_any _ _ _ (by omega) (by omega) hx.1 hx.2).mono ?_
      rintro e W5 ⟨rfl, rfl⟩
      have hpk := pickI_lt x (8 * (F.length : Int)) (by omega)
      have hbk : pickI x (8 * (F.length : Int)) = (bitK F.length x : Int) := by rw [hK.out]; omega
      rw [hbk]
      rw [hbk] at hpk
      generalize hKK : bitK F.length x = K at *
      have HK := hideA hKK
      clear hbk hK hKK
      have hKi : K / 8 < L.length := by omega
      obtain ⟨c1, c2⟩ := ht (K / 8) hKi
      go_wp2_with fail
      refine ⟨⟨n + 1, ⟨by omega, by omega⟩, by go_num, ?_, hb.setCell (by exact Nat.le_refl _) _, by simpa using hsw⟩, by simp [intOf]; omega⟩
      rw [bitsK_succ, flips_snoc, hFL, HX.out, HK.out]
      exact ht.set K _ (by omega) (flip_byte _ _ (byteAt_lt _ _))
    · have hcv := conv_back (c := cb) ht
      rw [hL] at hcv
      have hbX4 : Below X.heap.size X wr := hb2.trans (hb.mono hb2.size)
      have hbw4 : Below w.heap.size w wr := hbw.trans (hbX4.mono hbw.size)
      have hfl : Hid (L = F ∨ decOf L = Dec.no 2) := by
        rw [← hFL]
        exact flips_told F hRes.out hl3 hl2 _ (by rw [bitsK_length]; exact hn.2) (bitsK_lt _ (by omega) _ _)
      clear hFL hRes
      have hor : (n < bits.length ∧ ¬ n < 3) ∨ ¬ n < bits.length := by omega
      clear hlt
      have hgt : W2.heap.size < wr.heap.size := hsw
      rcases hor with ⟨hlt1, hlt2⟩ | hlt1
      all_goals
        go_wp2_with fail
        clear hcv
        refine (wireDecode_any L _ (by omega)).mono ?_
        rintro e W6 ⟨hb6, mem3, log3, rfl, o3, p3⟩
        by_cases hLF : L = F
        · subst hLF
          rw [hDec.out] at o3 p3 ⊢
          dsimp only [Dec.value] at o3 p3 ⊢
          obtain ⟨a3, c3, rfl⟩ := owns_shape o3
          obtain ⟨a4, c4, rfl⟩ := owns_shape p3
          have hbX6 : Below X.heap.size X W6 := hbX4.trans (hb6.mono hbX4.size)
          obtain ⟨Z, hZ, hbZ, hsZ, rZ, -⟩ := boxed W6 #[.int .i64 k, .int .i64 f, .int .i64 t, .int .i64 ep, .int .i64 ba, .int .i64 vo, .int .i64 po, .int .i64 va, .slice a3 ms.length c3, .slice a4 es.length c4] 25
          have hbXZ : Below X.heap.size X Z := hbX6.trans (hbZ.mono hbX6.size)
          have oZ := owns_kept o3 fun k _ hk => hbZ.block k hk
          have pZ := owns_kept p3 fun k _ hk => hbZ.block k hk
          have omZ := owns_kept omX fun k _ hk => hbXZ.block k hk
          have olZ := owns_kept olX fun k _ hk => hbXZ.block k hk
          have hbrZ : Below wr.heap.size wr Z := hb6.trans (hbZ.mono hb6.size)
          have hcv := conv_back (c := cb) (ht.below hbrZ hsw)
          have s0 := cell_later hbXZ q0
          have s1 := cell_later hbXZ q1
          have s2 := cell_later hbXZ q2
          have s3 := cell_later hbXZ q3
          have s4 := cell_later hbXZ q4
          have s5 := cell_later hbXZ q5
          have s6 := cell_later hbXZ q6
          have s7 := cell_later hbXZ q7
          have s8 := cell_later hbXZ q8
          have s9 := cell_later hbXZ q9
          have r0 : Z.cell? ⟨W6.heap.size, 0, none⟩ = some (.int .i64 k) := rZ 0
          have r1 : Z.cell? ⟨W6.heap.size, 1, none⟩ = some (.int .i64 f) := rZ 1
          have r2 : Z.cell? ⟨W6.heap.size, 2, none⟩ = some (.int .i64 t) := rZ 2
          have r3 : Z.cell? ⟨W6.heap.size, 3, none⟩ = some (.int .i64 ep) := rZ 3
          have r4 : Z.cell? ⟨W6.heap.size, 4, none⟩ = some (.int .i64 ba) := rZ 4
          have r5 : Z.cell? ⟨W6.heap.size, 5, none⟩ = some (.int .i64 vo) := rZ 5
          have r6 : Z.cell? ⟨W6.heap.size, 6, none⟩ = some (.int .i64 po) := rZ 6
          have r7 : Z.cell? ⟨W6.heap.size, 7, none⟩ = some (.int .i64 va) := rZ 7
          have r8 : Z.cell? ⟨W6.heap.size, 8, none⟩ = some (.slice a3 ms.length c3) := rZ 8
          have r9 : Z.cell? ⟨W6.heap.size, 9, none⟩ = some (.slice a4 es.length c4) := rZ 9
          have hbwZ := hbw.trans (hbXZ.mono hbw.size)
          clear q0 q1 q2 q3 q4 q5 q6 q7 q8 q9 rZ hsZ om ol omX olX o3 p3
          go_wp2_with fail
          clear hZ
          refine (cordonkeep_sameMsg k f t ep ba vo po va _ _ _ _ ms es Z (IntsAt.of_owns omZ) (IntsAt.of_owns oZ) (LogAt.of_owns olZ) (LogAt.of_owns pZ) (by omega) (by omega)).mono ?_
          rintro e W7 ⟨rfl, hb7⟩
          clear s0 s1 s2 s3 s4 s5 s6 s7 s8 s9 r0 r1 r2 r3 r4 r5 r6 r7 r8 r9 hcv
          go_wp2_with fail
          go_ret
          exact ⟨rfl, hbwZ.trans (hb7.mono hbwZ.size)⟩
        · have hD := hfl.out.resolve_left hLF
          rw [hD] at o3 p3 ⊢
          dsimp only [Dec.value, Dec.no] at o3 p3 ⊢
          obtain ⟨a3, c3, rfl⟩ := owns_shape o3
          obtain ⟨a4, c4, rfl⟩ := owns_shape p3
          have hbX6 : Below X.heap.size X W6 := hbX4.trans (hb6.mono hbX4.size)
          obtain ⟨Z, hZ, hbZ, hsZ, rZ, -⟩ := boxed W6 #[.int .i64 0, .int .i64 0, .int .i64 0, .int .i64 0, .int .i64 0, .int .i64 0, .int .i64 0, .int .i64 0, .slice a3 0 c3, .slice a4 0 c4] 25
          have hbXZ : Below X.heap.size X Z := hbX6.trans (hbZ.mono hbX6.size)
          have oZ := owns_kept o3 fun k _ hk => hbZ.block k hk
          have pZ := owns_kept p3 fun k _ hk => hbZ.block k hk
          have hbrZ : Below wr.heap.size wr Z := hb6.trans (hbZ.mono hb6.size)
          have hcv := conv_back (c := cb) (ht.below hbrZ hsw)
          rw [hL] at hcv
          have hne2 : ((bs L).toList == (bs F).toList) = false := by rw [eq_bs]; exact decide_eq_false hLF
          have r0 : Z.cell? ⟨W6.heap.size, 0, none⟩ = some (.int .i64 0) := rZ 0
          have r1 : Z.cell? ⟨W6.heap.size, 1, none⟩ = some (.int .i64 0) := rZ 1
          have r2 : Z.cell? ⟨W6.heap.size, 2, none⟩ = some (.int .i64 0) := rZ 2
          have r3 : Z.cell? ⟨W6.heap.size, 3, none⟩ = some (.int .i64 0) := rZ 3
          have r4 : Z.cell? ⟨W6.heap.size, 4, none⟩ = some (.int .i64 0) := rZ 4
          have r5 : Z.cell? ⟨W6.heap.size, 5, none⟩ = some (.int .i64 0) := rZ 5
          have r6 : Z.cell? ⟨W6.heap.size, 6, none⟩ = some (.int .i64 0) := rZ 6
          have r7 : Z.cell? ⟨W6.heap.size, 7, none⟩ = some (.int .i64 0) := rZ 7
          have r8 : Z.cell? ⟨W6.heap.size, 8, none⟩ = some (.slice a3 0 c3) := rZ 8
          have r9 : Z.cell? ⟨W6.heap.size, 9, none⟩ = some (.slice a4 0 c4) := rZ 9
          have hbwZ := hbw.trans (hbXZ.mono hbw.size)
          clear q0 q1 q2 q3 q4 q5 q6 q7 q8 q9 rZ hsZ om ol omX olX o3 p3
          go_wp2_with fail
          clear hZ
          refine (cordonkeep_sameMsg 0 0 0 0 0 0 0 0 _ _ _ _ [] [] Z (IntsAt.of_owns oZ) (IntsAt.nil _) (LogAt.of_owns pZ) (LogAt.nil _) (by simp) (by simp)).mono ?_
          rintro e W7 ⟨rfl, hb7⟩
          clear r0 r1 r2 r3 r4 r5 r6 r7 r8 r9 hcv
          go_wp2_with fail
          go_ret
          exact ⟨rfl, hbwZ.trans (hb7.mono hbwZ.size)⟩
end Go.Proofs.Ytgieeeeeiggoeaa
