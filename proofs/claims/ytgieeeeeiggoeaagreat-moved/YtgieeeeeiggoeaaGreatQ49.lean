import Derived.Test.YtgieeeeeiggoeaaGreatQ48
namespace Go.Proofs.YtgieeeeeiggoeaaGreat
open Go.RowKit
def chosenTo (n bits from_ k : Nat) : List Int := ((List.range k).map (fun i => (from_ + i) % n)).filterMap (fun k => if bits.testBit k then some (k : Int) else none)
theorem chosenTo_succ (n bits from_ k : Nat) : chosenTo n bits from_ (k + 1) = if bits.testBit ((from_ + k) % n) then chosenTo n bits from_ k ++ [(((from_ + k) % n : Nat) : Int)] else chosenTo n bits from_ k := by
 unfold chosenTo
 rw [List.range_succ,List.map_append,List.filterMap_append,List.map_singleton]
 split
 ·rename_i h
  simp [h]
 ·rename_i h
  simp [h]
theorem chosenTo_len (n bits from_ k : Nat) : (chosenTo n bits from_ k).length ≤ k := by
 unfold chosenTo
 refine Nat.le_trans (List.length_filterMap_le _ _) ?_
 simp
theorem bit_all : ∀ B : Nat,B < 32 → ∀ K,K < 5 → Go.bits .and .i64 ((B : Int) / 2 ^ K) 1 = (if B.testBit K then 1 else 0 : Int) := by decide +kernel
theorem chosen_all : ∀ n : Nat,n < 6 → ∀ B : Nat,B < 32 → ∀ kb : Nat,kb < 5 → (decide (0 < B) && decide (B < 2 ^ n) && decide (kb < n) && (chosenTo n B kb n).isEmpty) = false := by decide +kernel
theorem chosen_some (n : Nat) (h1 : n < 6) (B : Nat) (h2 : B < 32) (kb : Nat) (h3 : kb < 5) (h4 : 0 < B) (h5 : B < 2 ^ n) (h6 : kb < n) : chosenTo n B kb n ≠ [] := by
 intro h
 have := chosen_all n h1 B h2 kb h3
 simp [h,h4,h5,h6] at this
theorem one_lt (n : Nat) (h : 1 ≤ n) : 1 < 2 ^ n := by
 have := Nat.pow_le_pow_right (show 0 < 2 by omega) h
 omega
theorem wrap_pow (n : Nat) (h5 : n ≤ 5) : wrap64 ((2 : Int) ^ n) = ((2 ^ n : Nat) : Int) := by
 have hpw : (2 : Nat) ^ n ≤ 32 := Nat.le_trans (Nat.pow_le_pow_right (by omega) h5) (by decide)
 have e : ((2 : Int) ^ n) = ((2 ^ n : Nat) : Int) := by simp
 rw [e]
 have hp0 := Nat.two_pow_pos n
 generalize (2 : Nat) ^ n = m at *
 unfold wrap64
 omega
set_option maxHeartbeats 2000000 in
set_option maxRecDepth 100000 in
theorem members_any (p n : Nat) (a b : Int) (w : World) (hc : w.cell? ⟨p,1,none⟩ = some (.int .i64 (n : Int))) (h1 : 1 ≤ n) (h5 : n ≤ 5) (i0 : -9223372036854775808 ≤ a) (i1 : a ≤ 9223372036854775807) (i2 : -9223372036854775808 ≤ b) (i3 : b ≤ 9223372036854775807) :
  Calls Tryz.prog 17 #[.pointer (some ⟨p,0,none⟩), .int .i64 a, .int .i64 b] w fun e w' => ∃ v,e = .returned v ∧ w'.ownsRow w.heap.size 3 1 v (membersOf n a b).length (ints (membersOf n a b)) ∧ Below w.heap.size w w' := by
 have hpw : (2 : Nat) ^ n ≤ 32 := Nat.le_trans (Nat.pow_le_pow_right (by omega) h5) (by decide)
 have hp0 := Nat.two_pow_pos n
 have hpa := pickI_lt a ((2 ^ n : Nat) : Int) (by omega)
 have hpb := pickI_lt b (n : Int) (by omega)
 have hka := pick_any a ((2 ^ n : Nat) : Int) w (by omega) (by omega) i0 i1
 have hkb := pick_any b (n : Int) w (by omega) (by omega) i2 i3
 have hw := wrap_pow n h5
 have HB : Hid (bitsOf n a = if (pickI a ((2 ^ n : Nat) : Int)).toNat = 0 then 1 else (pickI a ((2 ^ n : Nat) : Int)).toNat) := hideA rfl
 have HM : Hid (membersOf n a b = if chosenOf n (bitsOf n a) (pickI b n).toNat = [] then [0] else chosenOf n (bitsOf n a) (pickI b n).toNat) := hideA rfl
 obtain ⟨ka,hka1⟩ : ∃ ka : Nat,pickI a ((2 ^ n : Nat) : Int) = ka := ⟨(pickI a ((2 ^ n : Nat) : Int)).toNat,by omega⟩
 obtain ⟨kb,hkb1⟩ : ∃ kb : Nat,pickI b (n : Int) = kb := ⟨(pickI b (n : Int)).toNat,by omega⟩
 rw [hka1] at hka hpa HB
 rw [hkb1] at hkb hpb HM
 rw [Int.toNat_natCast] at HB HM
 generalize bitsOf n a = B at *
 by_cases hz : ka = 0
 ·subst hz
  have hB : B = 1 := by rw [HB.out,if_pos rfl]
  subst hB
  clear HB
  have hB32 : 1 < 32 := by omega
  have hBn : 1 < 2 ^ n := one_lt n h1
  go_enter Tryz.func17,Tryz.ntmps17
  go_wp2_with fail
  refine hka.mono ?_
  rintro e w1 ⟨rfl,rfl⟩
  clear hka hw
  go_wp2_with fail
  refine hkb.mono ?_
  rintro e w1 ⟨rfl,rfl⟩
  clear hkb
  go_wp2_with fail
  go_loopw [9,10] (fun v i wr => ∃ k : Nat,k ≤ n ∧ i = .int .i64 k ∧ wr.ownsRow w1.heap.size 3 1 v (chosenTo n 1 kb k).length (ints (chosenTo n 1 kb k)) ∧ Below w1.heap.size w1 wr) (fun _ i _ => n - (intOf i).toNat)
  case atStart => exact ⟨0,Nat.zero_le _,rfl,⟨rfl, .inl ⟨rfl,rfl⟩⟩,Below.refl _ _⟩
  case round =>
   obtain ⟨k,hk,rfl,hown,hbr⟩ := hrel
   have hcr := cell_later hbr hc
   by_cases hlt : k < n
   ·have hk1 : (k : Int) < (n : Int) := by omega
    have hn0 : (0 : Int) < (n : Int) := by omega
    have hKn := Nat.mod_lt (kb + k) (show n > 0 by omega)
    have hK : ((kb : Int) + (k : Int)) % (n : Int) = (((kb + k) % n : Nat) : Int) := by simp
    have hs := hideA (chosenTo_succ n 1 kb k)
    have hln := chosenTo_len n 1 kb k
    have hbit : Go.bits .and .i64 ((1 : Int) / 2 ^ ((kb + k) % n)) 1 = (if (1 : Nat).testBit ((kb + k) % n) then 1 else 0 : Int) := bit_all 1 hB32 ((kb + k) % n) (by omega)
    generalize (kb + k) % n = K at *
    have hK0 : (0 : Int) ≤ (K : Int) := by omega
    have hK1 : (K : Int) ≤ 64 := by omega
    have hbs := Nat.le_trans (Nat.le_refl w1.heap.size) hbr.size
    by_cases ht : (1 : Nat).testBit K = true
    ·rw [if_pos ht] at hbit
     have H : Hid (chosenTo n 1 kb (k + 1) = chosenTo n 1 kb k ++ [(K : Int)]) := hideA (by rw [hs.out,if_pos ht])
     go_wp2_with (at_builtin; refine wpList_keeps_int rfl _ _ rfl w1.heap.size _ (chosenTo n 1 kb k) rfl (hown.alloc _) wr.heap.size 1 (K : Int) rfl (by simp) (by omega) (by simp; omega) ?_)
     intro g' cap' w2 o2 gr2 _ _
     go_wp2_with fail
     go_roundw
     case rel => exact ⟨k + 1,by omega,by go_num,by rw [H.out,List.length_append]; exact o2,hbr.trans (below_step hbs (by exact gr2) (fun j hj => (hown.lt j hj).1))⟩
     case measure => simp [intOf]; omega
    ·rw [if_neg ht] at hbit
     have H : Hid (chosenTo n 1 kb (k + 1) = chosenTo n 1 kb k) := hideA (by rw [hs.out,if_neg ht])
     go_wp2_with fail
     go_roundw
     case rel => exact ⟨k + 1,by omega,by go_num,by rw [H.out]; exact hown,hbr⟩
     case measure => simp [intOf]; omega
   ·have hk1 : ¬ (k : Int) < (n : Int) := by omega
    have hkn : k = n := by omega
    subst hkn
    have he : chosenTo k 1 kb k ≠ [] := chosen_some k (by omega) 1 hB32 kb (by omega) (by omega) hBn (by omega)
    have hE : membersOf k a b = chosenTo k 1 kb k := by rw [HM.out]; exact if_neg he
    have hpos : 0 < (chosenTo k 1 kb k).length := List.length_pos_iff.mpr he
    clear HM
    obtain ⟨gl,cl,rfl⟩ : ∃ g c,u9 = .slice (some ⟨g,0,none⟩) (chosenTo k 1 kb k).length c := by
     rcases hown.2 with ⟨_,h0⟩ | ⟨g,c,cur,hv, -⟩
     ·omega
     ·exact ⟨g,c,hv⟩
    have hz1 : (((chosenTo k 1 kb k).length : Int) == 0) = false := by simp; omega
    go_wp2_with fail
    go_ret
    exact ⟨_,rfl,hown,hbr⟩
 ·have hzd : ((ka : Int) == 0) = false := by simp; omega
  have hB : B = ka := by rw [HB.out,if_neg hz]
  subst hB
  clear HB
  have hB32 : B < 32 := by omega
  have hBn : B < 2 ^ n := by omega
  go_enter Tryz.func17,Tryz.ntmps17
  go_wp2_with fail
  refine hka.mono ?_
  rintro e w1 ⟨rfl,rfl⟩
  clear hka hw
  go_wp2_with fail
  refine hkb.mono ?_
  rintro e w1 ⟨rfl,rfl⟩
  clear hkb
  go_wp2_with fail
  go_loopw [9,10] (fun v i wr => ∃ k : Nat,k ≤ n ∧ i = .int .i64 k ∧ wr.ownsRow w1.heap.size 3 1 v (chosenTo n B kb k).length (ints (chosenTo n B kb k)) ∧ Below w1.heap.size w1 wr) (fun _ i _ => n - (intOf i).toNat)
  case atStart => exact ⟨0,Nat.zero_le _,rfl,⟨rfl, .inl ⟨rfl,rfl⟩⟩,Below.refl _ _⟩
  case round =>
   obtain ⟨k,hk,rfl,hown,hbr⟩ := hrel
   have hcr := cell_later hbr hc
   by_cases hlt : k < n
   ·have hk1 : (k : Int) < (n : Int) := by omega
    have hn0 : (0 : Int) < (n : Int) := by omega
    have hKn := Nat.mod_lt (kb + k) (show n > 0 by omega)
    have hK : ((kb : Int) + (k : Int)) % (n : Int) = (((kb + k) % n : Nat) : Int) := by simp
    have hs := hideA (chosenTo_succ n B kb k)
    have hln := chosenTo_len n B kb k
    have hbit := bit_all B hB32 ((kb + k) % n) (by omega)
    generalize (kb + k) % n = K at *
    have hK0 : (0 : Int) ≤ (K : Int) := by omega
    have hK1 : (K : Int) ≤ 64 := by omega
    have hbs := Nat.le_trans (Nat.le_refl w1.heap.size) hbr.size
    by_cases ht : B.testBit K = true
    ·rw [if_pos ht] at hbit
     have H : Hid (chosenTo n B kb (k + 1) = chosenTo n B kb k ++ [(K : Int)]) := hideA (by rw [hs.out,if_pos ht])
     go_wp2_with (at_builtin; refine wpList_keeps_int rfl _ _ rfl w1.heap.size _ (chosenTo n B kb k) rfl (hown.alloc _) wr.heap.size 1 (K : Int) rfl (by simp) (by omega) (by simp; omega) ?_)
     intro g' cap' w2 o2 gr2 _ _
     go_wp2_with fail
     go_roundw
     case rel => exact ⟨k + 1,by omega,by go_num,by rw [H.out,List.length_append]; exact o2,hbr.trans (below_step hbs (by exact gr2) (fun j hj => (hown.lt j hj).1))⟩
     case measure => simp [intOf]; omega
    ·rw [if_neg ht] at hbit
     have H : Hid (chosenTo n B kb (k + 1) = chosenTo n B kb k) := hideA (by rw [hs.out,if_neg ht])
     go_wp2_with fail
     go_roundw
     case rel => exact ⟨k + 1,by omega,by go_num,by rw [H.out]; exact hown,hbr⟩
     case measure => simp [intOf]; omega
   ·have hk1 : ¬ (k : Int) < (n : Int) := by omega
    have hkn : k = n := by omega
    subst hkn
    have he : chosenTo k B kb k ≠ [] := chosen_some k (by omega) B hB32 kb (by omega) (by omega) hBn (by omega)
    have hE : membersOf k a b = chosenTo k B kb k := by rw [HM.out]; exact if_neg he
    have hpos : 0 < (chosenTo k B kb k).length := List.length_pos_iff.mpr he
    clear HM
    obtain ⟨gl,cl,rfl⟩ : ∃ g c,u9 = .slice (some ⟨g,0,none⟩) (chosenTo k B kb k).length c := by
     rcases hown.2 with ⟨_,h0⟩ | ⟨g,c,cur,hv, -⟩
     ·omega
     ·exact ⟨g,c,hv⟩
    have hz1 : (((chosenTo k B kb k).length : Int) == 0) = false := by simp; omega
    go_wp2_with fail
    go_ret
    exact ⟨_,rfl,hown,hbr⟩
theorem below4 (w : World) (o1 o2 o3 o4 : Obj) : Below w.heap.size w ((((w.alloc o1).alloc o2).alloc o3).alloc o4) :=
 (below3 w o1 o2 o3).alloc (by rw [World.size_alloc,World.size_alloc,World.size_alloc]; omega) _
theorem wrap_seq (q : Int) (h1 : -1 ≤ q) (h2 : q ≤ 1000) : IntKind.i64.wrap (q + 1) = q + 1 := by
 rw [IntKind.wrap_i64]
 omega
def lastTo (c : Int) (ws : List Wish) (k : Nat) : Ent := lastWish c (ws.take k)
theorem lastTo_succ {c : Int} {ws : List Wish} {k : Nat} {x : Wish} (h : ws[k]? = some x) : lastTo c ws (k + 1) = if x.e.client = c then x.e else lastTo c ws k := by
 obtain ⟨a,b⟩ := List.getElem?_eq_some_iff.1 h
 unfold lastTo lastWish
 rw [List.take_succ_eq_append_getElem a,List.foldl_append,b]
 rfl
theorem lastTo_seq {c : Int} {ws : List Wish} (h : ∀ x ∈ ws, -1 ≤ x.e.seq ∧ x.e.seq ≤ 1000) (k : Nat) (hk : k ≤ ws.length) : -1 ≤ (lastTo c ws k).seq ∧ (lastTo c ws k).seq ≤ 1000 := by
 induction k with
 | zero => show (-1 : Int) ≤ -1 ∧ (-1 : Int) ≤ 1000; omega
 | succ k ih =>
  have hx : ws[k]? = some ws[k] := List.getElem?_eq_getElem (by omega)
  rw [lastTo_succ hx]
  split
  ·exact h _ (List.mem_of_getElem? hx)
  ·exact ih (by omega)
def KStep.val (o : KStep) (vL : Value) : Value := .agg #[.int .i64 o.kind, .int .i64 o.N, .int .i64 o.I, .int .i64 o.A, .int .i64 o.B,vL]
structure KStep.Fit (o : KStep) : Prop where
 k : -9223372036854775808 ≤ o.kind ∧ o.kind ≤ 9223372036854775807
 n : -9223372036854775808 ≤ o.N ∧ o.N ≤ 9223372036854775807
 i : -9223372036854775808 ≤ o.I ∧ o.I ≤ 9223372036854775807
 a : -9223372036854775808 ≤ o.A ∧ o.A ≤ 9223372036854775807
 b : -9223372036854775808 ≤ o.B ∧ o.B ≤ 9223372036854775807
 l : I64s o.L
set_option maxHeartbeats 2000000 in
set_option maxRecDepth 100000 in
theorem entry_any (p : Nat) (r : Run) (aW : Option Addr) (cW : Nat) (o : KStep) (vL : Value) (w : World)
  (c2 : w.cell? ⟨p,2,none⟩ = some (.slice aW r.wishes.length cW)) (hW : WishAt w aW r.wishes) (hwl : r.wishes.length ≤ 1000000) (hL : IntsAt w vL o.L) (ho : o.Fit)
  (hsq : ∀ x ∈ r.wishes, -1 ≤ x.e.seq ∧ x.e.seq ≤ 1000) :
  Calls Tryz.prog 15 #[.pointer (some ⟨p,0,none⟩),o.val vL] w fun e w' => e = .returned (r.entry o).val ∧ Below w.heap.size w w' := by
 have hpk : ∀ w,Calls Tryz.prog 14 #[.int .i64 o.B, .int .i64 4] w fun e w' => e = .returned (.int .i64 (pickI o.B 4)) ∧ w' = w := fun w => pick_any o.B 4 w (by omega) (by omega) ho.b.1 ho.b.2
 unfold KStep.val
 go_enter Tryz.func15,Tryz.ntmps15
 go_wp2_with fail
 refine (hpk _).mono ?_
 rintro e w1 ⟨rfl,rfl⟩
 clear hpk
 have HE : Hid (r.entry o = if 0 ≤ (lastTo (pickI o.B 4) r.wishes r.wishes.length).seq ∧ (o.A.tmod 2 ≠ 0 ∨ 900 ≤ (lastTo (pickI o.B 4) r.wishes r.wishes.length).seq) then lastTo (pickI o.B 4) r.wishes r.wishes.length else nextEntry (pickI o.B 4) ((lastTo (pickI o.B 4) r.wishes r.wishes.length).seq + 1) o.L) := hideA (by
  unfold Run.entry lastTo
  rw [List.take_length])
 have HW := hideA hW
 have HL := hideA hL
 clear hW hL
 generalize pickI o.B 4 = cl at *
 go_wp2_with fail
 go_loopw [7] (fun i wr => ∃ k : Nat,k ≤ r.wishes.length ∧ i = .int .i64 k ∧ wr = (((w.alloc (Obj.cells #[.int .i64 o.kind, .int .i64 o.N, .int .i64 o.I, .int .i64 o.A, .int .i64 o.B,vL] 31)).alloc (Obj.cells #[.int .i64 0, .int .i64 0, .int .i64 0, .int .i64 0, .int .i64 0] 42)).alloc (Obj.cells #[.int .i64 (lastTo cl r.wishes k).client, .int .i64 (lastTo cl r.wishes k).seq, .int .i64 (lastTo cl r.wishes k).kind, .int .i64 (lastTo cl r.wishes k).key, .int .i64 (lastTo cl r.wishes k).value] 42))) (fun i _ => r.wishes.length - (intOf i).toNat)
 case atStart => exact ⟨0,Nat.zero_le _,rfl,rfl⟩
 case round =>
  obtain ⟨k,hk,rfl,rfl⟩ := hrel
  have hb3 : Below w.heap.size w (((w.alloc (Obj.cells #[.int .i64 o.kind, .int .i64 o.N, .int .i64 o.I, .int .i64 o.A, .int .i64 o.B,vL] 31)).alloc (Obj.cells #[.int .i64 0, .int .i64 0, .int .i64 0, .int .i64 0, .int .i64 0] 42)).alloc (Obj.cells #[.int .i64 (lastTo cl r.wishes k).client, .int .i64 (lastTo cl r.wishes k).seq, .int .i64 (lastTo cl r.wishes k).kind, .int .i64 (lastTo cl r.wishes k).key, .int .i64 (lastTo cl r.wishes k).value] 42)) := below3 _ _ _ _
  have d2 := cell_later hb3 c2
  by_cases hlt : k < r.wishes.length
  ·have hk1 : (k : Int) < (r.wishes.length : Int) := by omega
   have hkx : r.wishes[k]? = some r.wishes[k] := List.getElem?_eq_getElem hlt
   obtain ⟨b,rfl,b0,b1,b2,b3,b4, -⟩ := HW.out k _ hkx
   have e0 := cell_later hb3 b0
   have e1 := cell_later hb3 b1
   have e2 := cell_later hb3 b2
   have e3 := cell_later hb3 b3
   have e4 := cell_later hb3 b4
   have hs := hideA (lastTo_succ (c := cl) hkx)
   clear hkx
   generalize r.wishes[k] = x at *
   by_cases hc : x.e.client = cl
   ·have H : Hid (lastTo cl r.wishes (k + 1) = x.e) := hideA (by rw [hs.out,if_pos hc])
    go_wp2_with fail
    go_roundw
    case rel => exact ⟨k + 1,by omega,by go_num,by rw [H.out,hc]⟩
    case measure => simp [intOf]; omega
   ·have H : Hid (lastTo cl r.wishes (k + 1) = lastTo cl r.wishes k) := hideA (by rw [hs.out,if_neg hc])
    have hcd : (x.e.client == cl) = false := by simp [hc]
    go_wp2_with fail
    go_roundw
    case rel => exact ⟨k + 1,by omega,by go_num,by rw [H.out]⟩
    case measure => simp [intOf]; omega
  ·obtain rfl : k = r.wishes.length := by omega
   have hsz := lastTo_seq (c := cl) hsq r.wishes.length (Nat.le_refl _)
   have HR0 : Hid (∀ W,Below w.heap.size w W → Calls Tryz.prog 29 #[vL, .int .i64 0] W fun e w' => e = .returned (.int .i64 (o.L.getD 0 0)) ∧ w' = W) := hideA (fun W hb => raw_any vL o.L 0 W (HL.out.below hb) (by omega))
   have HR1 : Hid (∀ W,Below w.heap.size w W → Calls Tryz.prog 29 #[vL, .int .i64 1] W fun e w' => e = .returned (.int .i64 (o.L.getD 1 0)) ∧ w' = W) := hideA (fun W hb => raw_any vL o.L 1 W (HL.out.below hb) (by omega))
   have HR2 : Hid (∀ W,Below w.heap.size w W → Calls Tryz.prog 29 #[vL, .int .i64 2] W fun e w' => e = .returned (.int .i64 (o.L.getD 2 0)) ∧ w' = W) := hideA (fun W hb => raw_any vL o.L 2 W (HL.out.below hb) (by omega))
   have HP0 : Hid (∀ W,Calls Tryz.prog 14 #[.int .i64 (o.L.getD 0 0), .int .i64 3] W fun e w' => e = .returned (.int .i64 (pickI (o.L.getD 0 0) 3)) ∧ w' = W) := hideA (fun W => pick_any _ 3 W (by omega) (by omega) (ho.l.getD 0).1 (ho.l.getD 0).2)
   have HP1 : Hid (∀ W,Calls Tryz.prog 14 #[.int .i64 (o.L.getD 1 0), .int .i64 3] W fun e w' => e = .returned (.int .i64 (pickI (o.L.getD 1 0) 3)) ∧ w' = W) := hideA (fun W => pick_any _ 3 W (by omega) (by omega) (ho.l.getD 1).1 (ho.l.getD 1).2)
   have HP2 : Hid (∀ W,Calls Tryz.prog 14 #[.int .i64 (o.L.getD 2 0), .int .i64 1000] W fun e w' => e = .returned (.int .i64 (pickI (o.L.getD 2 0) 1000)) ∧ w' = W) := hideA (fun W => pick_any _ 1000 W (by omega) (by omega) (ho.l.getD 2).1 (ho.l.getD 2).2)
   have HK : Hid (∀ q,nextEntry cl q o.L = if 0 < pickI (o.L.getD 1 0) 3 then ⟨cl,q,1,pickI (o.L.getD 0 0) 3,pickI (o.L.getD 2 0) 1000⟩ else ⟨cl,q,2,pickI (o.L.getD 0 0) 3,0⟩) := hideA (fun _ => rfl)
   generalize pickI (o.L.getD 0 0) 3 = y0 at *
   generalize pickI (o.L.getD 1 0) 3 = y1 at *
   generalize pickI (o.L.getD 2 0) 1000 = y2 at *
   generalize o.L.getD 0 0 = g0 at *
   generalize o.L.getD 1 0 = g1 at *
   generalize o.L.getD 2 0 = g2 at *
   clear HW HL hsq c2
   generalize lastTo cl r.wishes r.wishes.length = z at *
   have hwr : IntKind.i64.wrap (z.seq + 1) = z.seq + 1 := wrap_seq _ hsz.1 hsz.2
   have hcs : (0 ≤ z.seq ∧ o.A.tmod 2 ≠ 0) ∨ (0 ≤ z.seq ∧ o.A.tmod 2 = 0 ∧ 900 ≤ z.seq) ∨ (¬ 0 ≤ z.seq) ∨ (0 ≤ z.seq ∧ o.A.tmod 2 = 0 ∧ ¬ 900 ≤ z.seq) := by omega
   rcases hcs with ⟨q1,q2⟩ | ⟨q1,q2,q3⟩ | q1 | ⟨q1,q2,q3⟩
   ·have HN : Hid (r.entry o = z) := hideA (by rw [HE.out]; exact if_pos ⟨q1, .inl q2⟩)
    clear HE
    have q2d : (o.A.tmod 2 == 0) = false := by simp [q2]
    go_wp2_with fail
    have HF : (Ending.returned z.val = Ending.returned (r.entry o).val) ∧ Below w.heap.size w (((w.alloc (Obj.cells #[.int .i64 o.kind, .int .i64 o.N, .int .i64 o.I, .int .i64 o.A, .int .i64 o.B,vL] 31)).alloc (Obj.cells #[.int .i64 z.client, .int .i64 z.seq, .int .i64 z.kind, .int .i64 z.key, .int .i64 z.value] 42)).alloc (Obj.cells #[.int .i64 z.client, .int .i64 z.seq, .int .i64 z.kind, .int .i64 z.key, .int .i64 z.value] 42)) := ⟨by rw [HN.out],below3 _ _ _ _⟩
    exact bodyPost_ret (v := z.val) (by simp [results,Tryz.results15,go_sem,Ent.val]) rfl HF
   ·have HN : Hid (r.entry o = z) := hideA (by rw [HE.out]; exact if_pos ⟨q1, .inr q3⟩)
    clear HE
    go_wp2_with fail
    have HF : (Ending.returned z.val = Ending.returned (r.entry o).val) ∧ Below w.heap.size w (((w.alloc (Obj.cells #[.int .i64 o.kind, .int .i64 o.N, .int .i64 o.I, .int .i64 o.A, .int .i64 o.B,vL] 31)).alloc (Obj.cells #[.int .i64 z.client, .int .i64 z.seq, .int .i64 z.kind, .int .i64 z.key, .int .i64 z.value] 42)).alloc (Obj.cells #[.int .i64 z.client, .int .i64 z.seq, .int .i64 z.kind, .int .i64 z.key, .int .i64 z.value] 42)) := ⟨by rw [HN.out],below3 _ _ _ _⟩
    exact bodyPost_ret (v := z.val) (by simp [results,Tryz.results15,go_sem,Ent.val]) rfl HF
   ·have HN : Hid (r.entry o = nextEntry cl (z.seq + 1) o.L) := hideA (by rw [HE.out]; exact if_neg (fun h => q1 h.1))
    clear HE
    have q1d : decide (0 ≤ z.seq) = false := decide_eq_false q1
    go_upto_region 10 with fail
    go_cut [8] (fun b wx => b = .pointer (some ⟨w.heap.size + 1 + 1 + 1,0,none⟩) ∧ wx = ((((w.alloc (Obj.cells #[.int .i64 o.kind, .int .i64 o.N, .int .i64 o.I, .int .i64 o.A, .int .i64 o.B,vL] 31)).alloc (Obj.cells #[.int .i64 0, .int .i64 0, .int .i64 0, .int .i64 0, .int .i64 0] 42)).alloc (Obj.cells #[.int .i64 z.client, .int .i64 z.seq, .int .i64 z.kind, .int .i64 z.key, .int .i64 z.value] 42)).alloc (Obj.cells #[.int .i64 cl, .int .i64 (z.seq + 1), .int .i64 2, .int .i64 y0, .int .i64 0] 42)).drew)
    case first =>
     go_region_held3 (fun w' => w'.cell? ⟨w.heap.size + 1 + 1,1,none⟩ = some (.int .i64 z.seq) ∧ w'.cell? ⟨w.heap.size,5,none⟩ = some vL) (first | (simp [go_sem]; done) | (simp [go_sem, *]; done) | go_keep) (first | (go_at_call 29; refine (HR0.out _ (by first | exact below3 _ _ _ _ | exact (below3 _ _ _ _).drew | exact below4 _ _ _ _ _ | exact (below4 _ _ _ _ _).drew)).mono ?_; rintro e w9 ⟨rfl,rfl⟩) | (go_at_call 14; refine (HP0.out _).mono ?_; rintro e w9 ⟨rfl,rfl⟩))
     all_goals
      go_wp2_with fail
      go_meet
     all_goals exact ⟨rfl,by first | rfl | rw [hwr]⟩
    case rest =>
     obtain ⟨rfl,rfl⟩ := hcut
     have hb4 : ∀ o4,Below w.heap.size w ((((w.alloc (Obj.cells #[.int .i64 o.kind, .int .i64 o.N, .int .i64 o.I, .int .i64 o.A, .int .i64 o.B,vL] 31)).alloc (Obj.cells #[.int .i64 0, .int .i64 0, .int .i64 0, .int .i64 0, .int .i64 0] 42)).alloc (Obj.cells #[.int .i64 z.client, .int .i64 z.seq, .int .i64 z.kind, .int .i64 z.key, .int .i64 z.value] 42)).alloc o4).drew := fun o4 => (below4 _ _ _ _ o4).drew
     go_wp2_with fail
     refine (HR1.out _ (hb4 _)).mono ?_
     rintro e w9 ⟨rfl,rfl⟩
     go_wp2_with fail
     refine (HP1.out _).mono ?_
     rintro e w9 ⟨rfl,rfl⟩
     by_cases hp : 0 < y1
     ·have HV : Hid (r.entry o = ⟨cl,z.seq + 1,1,y0,y2⟩) := hideA (by rw [HN.out,HK.out,if_pos hp])
      go_wp2_with fail
      refine (HR2.out _ (hb4 _)).mono ?_
      rintro e w9 ⟨rfl,rfl⟩
      go_wp2_with fail
      refine (HP2.out _).mono ?_
      rintro e w9 ⟨rfl,rfl⟩
      go_wp2_with fail
      have HF : (Ending.returned (Ent.val ⟨cl,z.seq + 1,1,y0,y2⟩) = Ending.returned (r.entry o).val) ∧ Below w.heap.size w ((((w.alloc (Obj.cells #[.int .i64 o.kind, .int .i64 o.N, .int .i64 o.I, .int .i64 o.A, .int .i64 o.B,vL] 31)).alloc (Obj.cells #[.int .i64 cl, .int .i64 (z.seq + 1), .int .i64 1, .int .i64 y0, .int .i64 y2] 42)).alloc (Obj.cells #[.int .i64 z.client, .int .i64 z.seq, .int .i64 z.kind, .int .i64 z.key, .int .i64 z.value] 42)).alloc (Obj.cells #[.int .i64 cl, .int .i64 (z.seq + 1), .int .i64 1, .int .i64 y0, .int .i64 y2] 42)).drew := ⟨by rw [HV.out],(below4 _ _ _ _ _).drew⟩
      exact bodyPost_ret (v := Ent.val ⟨cl,z.seq + 1,1,y0,y2⟩) (by simp [results,Tryz.results15,go_sem,Ent.val]) rfl HF
     ·have HV : Hid (r.entry o = ⟨cl,z.seq + 1,2,y0,0⟩) := hideA (by rw [HN.out,HK.out,if_neg hp])
      have hpd : decide (0 < y1) = false := decide_eq_false hp
      go_wp2_with fail
      have HF : (Ending.returned (Ent.val ⟨cl,z.seq + 1,2,y0,0⟩) = Ending.returned (r.entry o).val) ∧ Below w.heap.size w ((((w.alloc (Obj.cells #[.int .i64 o.kind, .int .i64 o.N, .int .i64 o.I, .int .i64 o.A, .int .i64 o.B,vL] 31)).alloc (Obj.cells #[.int .i64 cl, .int .i64 (z.seq + 1), .int .i64 2, .int .i64 y0, .int .i64 0] 42)).alloc (Obj.cells #[.int .i64 z.client, .int .i64 z.seq, .int .i64 z.kind, .int .i64 z.key, .int .i64 z.value] 42)).alloc (Obj.cells #[.int .i64 cl, .int .i64 (z.seq + 1), .int .i64 2, .int .i64 y0, .int .i64 0] 42)).drew := ⟨by rw [HV.out],(below4 _ _ _ _ _).drew⟩
      exact bodyPost_ret (v := Ent.val ⟨cl,z.seq + 1,2,y0,0⟩) (by simp [results,Tryz.results15,go_sem,Ent.val]) rfl HF
   ·have HN : Hid (r.entry o = nextEntry cl (z.seq + 1) o.L) := hideA (by rw [HE.out]; exact if_neg (fun h => by rcases h.2 with h | h <;> omega))
    clear HE
    have q3d : decide (900 ≤ z.seq) = false := decide_eq_false q3
    go_upto_region 10 with fail
    go_cut [8] (fun b wx => b = .pointer (some ⟨w.heap.size + 1 + 1 + 1,0,none⟩) ∧ wx = ((((w.alloc (Obj.cells #[.int .i64 o.kind, .int .i64 o.N, .int .i64 o.I, .int .i64 o.A, .int .i64 o.B,vL] 31)).alloc (Obj.cells #[.int .i64 0, .int .i64 0, .int .i64 0, .int .i64 0, .int .i64 0] 42)).alloc (Obj.cells #[.int .i64 z.client, .int .i64 z.seq, .int .i64 z.kind, .int .i64 z.key, .int .i64 z.value] 42)).alloc (Obj.cells #[.int .i64 cl, .int .i64 (z.seq + 1), .int .i64 2, .int .i64 y0, .int .i64 0] 42)).drew)
    case first =>
     go_region_held3 (fun w' => w'.cell? ⟨w.heap.size + 1 + 1,1,none⟩ = some (.int .i64 z.seq) ∧ w'.cell? ⟨w.heap.size,5,none⟩ = some vL) (first | (simp [go_sem]; done) | (simp [go_sem, *]; done) | go_keep) (first | (go_at_call 29; refine (HR0.out _ (by first | exact below3 _ _ _ _ | exact (below3 _ _ _ _).drew | exact below4 _ _ _ _ _ | exact (below4 _ _ _ _ _).drew)).mono ?_; rintro e w9 ⟨rfl,rfl⟩) | (go_at_call 14; refine (HP0.out _).mono ?_; rintro e w9 ⟨rfl,rfl⟩))
     all_goals
      go_wp2_with fail
      go_meet
     all_goals exact ⟨rfl,by first | rfl | rw [hwr]⟩
    case rest =>
     obtain ⟨rfl,rfl⟩ := hcut
     have hb4 : ∀ o4,Below w.heap.size w ((((w.alloc (Obj.cells #[.int .i64 o.kind, .int .i64 o.N, .int .i64 o.I, .int .i64 o.A, .int .i64 o.B,vL] 31)).alloc (Obj.cells #[.int .i64 0, .int .i64 0, .int .i64 0, .int .i64 0, .int .i64 0] 42)).alloc (Obj.cells #[.int .i64 z.client, .int .i64 z.seq, .int .i64 z.kind, .int .i64 z.key, .int .i64 z.value] 42)).alloc o4).drew := fun o4 => (below4 _ _ _ _ o4).drew
     go_wp2_with fail
     refine (HR1.out _ (hb4 _)).mono ?_
     rintro e w9 ⟨rfl,rfl⟩
     go_wp2_with fail
     refine (HP1.out _).mono ?_
     rintro e w9 ⟨rfl,rfl⟩
     by_cases hp : 0 < y1
     ·have HV : Hid (r.entry o = ⟨cl,z.seq + 1,1,y0,y2⟩) := hideA (by rw [HN.out,HK.out,if_pos hp])
      go_wp2_with fail
      refine (HR2.out _ (hb4 _)).mono ?_
      rintro e w9 ⟨rfl,rfl⟩
      go_wp2_with fail
      refine (HP2.out _).mono ?_
      rintro e w9 ⟨rfl,rfl⟩
      go_wp2_with fail
      have HF : (Ending.returned (Ent.val ⟨cl,z.seq + 1,1,y0,y2⟩) = Ending.returned (r.entry o).val) ∧ Below w.heap.size w ((((w.alloc (Obj.cells #[.int .i64 o.kind, .int .i64 o.N, .int .i64 o.I, .int .i64 o.A, .int .i64 o.B,vL] 31)).alloc (Obj.cells #[.int .i64 cl, .int .i64 (z.seq + 1), .int .i64 1, .int .i64 y0, .int .i64 y2] 42)).alloc (Obj.cells #[.int .i64 z.client, .int .i64 z.seq, .int .i64 z.kind, .int .i64 z.key, .int .i64 z.value] 42)).alloc (Obj.cells #[.int .i64 cl, .int .i64 (z.seq + 1), .int .i64 1, .int .i64 y0, .int .i64 y2] 42)).drew := ⟨by rw [HV.out],(below4 _ _ _ _ _).drew⟩
      exact bodyPost_ret (v := Ent.val ⟨cl,z.seq + 1,1,y0,y2⟩) (by simp [results,Tryz.results15,go_sem,Ent.val]) rfl HF
     ·have HV : Hid (r.entry o = ⟨cl,z.seq + 1,2,y0,0⟩) := hideA (by rw [HN.out,HK.out,if_neg hp])
      have hpd : decide (0 < y1) = false := decide_eq_false hp
      go_wp2_with fail
      have HF : (Ending.returned (Ent.val ⟨cl,z.seq + 1,2,y0,0⟩) = Ending.returned (r.entry o).val) ∧ Below w.heap.size w ((((w.alloc (Obj.cells #[.int .i64 o.kind, .int .i64 o.N, .int .i64 o.I, .int .i64 o.A, .int .i64 o.B,vL] 31)).alloc (Obj.cells #[.int .i64 cl, .int .i64 (z.seq + 1), .int .i64 2, .int .i64 y0, .int .i64 0] 42)).alloc (Obj.cells #[.int .i64 z.client, .int .i64 z.seq, .int .i64 z.kind, .int .i64 z.key, .int .i64 z.value] 42)).alloc (Obj.cells #[.int .i64 cl, .int .i64 (z.seq + 1), .int .i64 2, .int .i64 y0, .int .i64 0] 42)).drew := ⟨by rw [HV.out],(below4 _ _ _ _ _).drew⟩
      exact bodyPost_ret (v := Ent.val ⟨cl,z.seq + 1,2,y0,0⟩) (by simp [results,Tryz.results15,go_sem,Ent.val]) rfl HF
end Go.Proofs.YtgieeeeeiggoeaaGreat
