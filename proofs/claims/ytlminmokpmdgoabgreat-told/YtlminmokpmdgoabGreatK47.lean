import Derived.Test.YtlminmokpmdgoabGreatK46
namespace Go.Proofs.YtlminmokpmdgoabGreat
open Go.RowKit
theorem below4 (w : World) (o1 o2 o3 o4 : Obj) : Below w.heap.size w ((((w.alloc o1).alloc o2).alloc o3).alloc o4) :=
 (below3 w o1 o2 o3).alloc (by rw [World.size_alloc, World.size_alloc, World.size_alloc]; omega) _
theorem wrap_seq (q : Int) (h1 : -1 ≤ q) (h2 : q ≤ 1000) : IntKind.i64.wrap (q + 1) = q + 1 := by
 rw [IntKind.wrap_i64]
 omega
def lastTo (c : Int) (ws : List Wish) (k : Nat) : Ent := lastWish c (ws.take k)
theorem lastTo_succ {c : Int} {ws : List Wish} {k : Nat} {x : Wish} (h : ws[k]? = some x) : lastTo c ws (k + 1) = if x.e.client = c then x.e else lastTo c ws k := by
 obtain ⟨a, b⟩ := List.getElem?_eq_some_iff.1 h
 unfold lastTo lastWish
 rw [List.take_succ_eq_append_getElem a, List.foldl_append, b]
 rfl
theorem lastTo_seq {c : Int} {ws : List Wish} (h : ∀ x ∈ ws, -1 ≤ x.e.seq ∧ x.e.seq ≤ 1000) (k : Nat) (hk : k ≤ ws.length) : -1 ≤ (lastTo c ws k).seq ∧ (lastTo c ws k).seq ≤ 1000 := by
 induction k with
 | zero => show (-1 : Int) ≤ -1 ∧ (-1 : Int) ≤ 1000; omega
 | succ k ih =>
  have hx : ws[k]? = some ws[k] := List.getElem?_eq_getElem (by omega)
  rw [lastTo_succ hx]
  split
  ·exact h _ (List.mem_of_getElem? hx)
  ·exact ih (by omega)
def KStep.val (o : KStep) (vL : Value) : Value := .agg #[.int .i64 o.kind, .int .i64 o.N, .int .i64 o.I, .int .i64 o.A, .int .i64 o.B, vL]
structure KStep.Fit (o : KStep) : Prop where
 k : -9223372036854775808 ≤ o.kind ∧ o.kind ≤ 9223372036854775807
 n : -9223372036854775808 ≤ o.N ∧ o.N ≤ 9223372036854775807
 i : -9223372036854775808 ≤ o.I ∧ o.I ≤ 9223372036854775807
 a : -9223372036854775808 ≤ o.A ∧ o.A ≤ 9223372036854775807
 b : -9223372036854775808 ≤ o.B ∧ o.B ≤ 9223372036854775807
 l : I64s o.L
set_option maxHeartbeats 2000000 in
set_option maxRecDepth 100000 in
theorem entry_any (p : Nat) (r : Run) (aW : Option Addr) (cW : Nat) (o : KStep) (vL : Value) (w : World)
  (c2 : w.cell? ⟨p, 2, none⟩ = some (.slice aW r.wishes.length cW)) (hW : WishAt w aW r.wishes) (hwl : r.wishes.length ≤ 1000000) (hL : IntsAt w vL o.L) (ho : o.Fit)
  (hsq : ∀ x ∈ r.wishes, -1 ≤ x.e.seq ∧ x.e.seq ≤ 1000) :
  Calls Tryz.prog 13 #[.pointer (some ⟨p, 0, none⟩), o.val vL] w fun e w' => e = .returned (r.entry o).val ∧ Below w.heap.size w w' := by
 have hpk : ∀ w, Calls Tryz.prog 9 #[.int .i64 o.B, .int .i64 4] w fun e w' => e = .returned (.int .i64 (pickI o.B 4)) ∧ w' = w := fun w => pick_any o.B 4 w (by omega) (by omega) ho.b.1 ho.b.2
 unfold KStep.val
 go_enter Tryz.func13, Tryz.ntmps13
 go_wp2_with fail
 refine (hpk _).mono ?_
 rintro e w1 ⟨rfl, rfl⟩
 clear hpk
 have HE : Hid (r.entry o = if 0 ≤ (lastTo (pickI o.B 4) r.wishes r.wishes.length).seq ∧ (o.A.tmod 2 ≠ 0 ∨ 900 ≤ (lastTo (pickI o.B 4) r.wishes r.wishes.length).seq) then lastTo (pickI o.B 4) r.wishes r.wishes.length else nextEntry (pickI o.B 4) ((lastTo (pickI o.B 4) r.wishes r.wishes.length).seq + 1) o.L) := hideA (by
  unfold Run.entry lastTo
  rw [List.take_length])
 have HW := hideA hW
 have HL := hideA hL
 clear hW hL
 generalize pickI o.B 4 = cl at *
 go_wp2_with fail
 go_loopw [7] (fun i wr => ∃ k : Nat, k ≤ r.wishes.length ∧ i = .int .i64 k ∧ wr = (((w.alloc (Obj.cells #[.int .i64 o.kind, .int .i64 o.N, .int .i64 o.I, .int .i64 o.A, .int .i64 o.B, vL] 37)).alloc (Obj.cells #[.int .i64 0, .int .i64 0, .int .i64 0, .int .i64 0, .int .i64 0] 46)).alloc (Obj.cells #[.int .i64 (lastTo cl r.wishes k).client, .int .i64 (lastTo cl r.wishes k).seq, .int .i64 (lastTo cl r.wishes k).kind, .int .i64 (lastTo cl r.wishes k).key, .int .i64 (lastTo cl r.wishes k).value] 46))) (fun i _ => r.wishes.length - (intOf i).toNat)
 case atStart => exact ⟨0, Nat.zero_le _, rfl, rfl⟩
 case round =>
  obtain ⟨k, hk, rfl, rfl⟩ := hrel
  have hb3 : Below w.heap.size w (((w.alloc (Obj.cells #[.int .i64 o.kind, .int .i64 o.N, .int .i64 o.I, .int .i64 o.A, .int .i64 o.B, vL] 37)).alloc (Obj.cells #[.int .i64 0, .int .i64 0, .int .i64 0, .int .i64 0, .int .i64 0] 46)).alloc (Obj.cells #[.int .i64 (lastTo cl r.wishes k).client, .int .i64 (lastTo cl r.wishes k).seq, .int .i64 (lastTo cl r.wishes k).kind, .int .i64 (lastTo cl r.wishes k).key, .int .i64 (lastTo cl r.wishes k).value] 46)) := below3 _ _ _ _
  have d2 := cell_later hb3 c2
  by_cases hlt : k < r.wishes.length
  ·have hk1 : (k : Int) < (r.wishes.length : Int) := by omega
   have hkx : r.wishes[k]? = some r.wishes[k] := List.getElem?_eq_getElem hlt
   obtain ⟨b, rfl, b0, b1, b2, b3, b4, -⟩ := HW.out k _ hkx
   have e0 := cell_later hb3 b0
   have e1 := cell_later hb3 b1
   have e2 := cell_later hb3 b2
   have e3 := cell_later hb3 b3
   have e4 := cell_later hb3 b4
   have hs := hideA (lastTo_succ (c := cl) hkx)
   clear hkx
   generalize r.wishes[k] = x at *
   by_cases hc : x.e.client = cl
   ·have H : Hid (lastTo cl r.wishes (k + 1) = x.e) := hideA (by rw [hs.out, if_pos hc])
    go_wp2_with fail
    go_roundw
    case rel => exact ⟨k + 1, by omega, by go_num, by rw [H.out, hc]⟩
    case measure => simp [intOf]; omega
   ·have H : Hid (lastTo cl r.wishes (k + 1) = lastTo cl r.wishes k) := hideA (by rw [hs.out, if_neg hc])
    have hcd : (x.e.client == cl) = false := by simp [hc]
    go_wp2_with fail
    go_roundw
    case rel => exact ⟨k + 1, by omega, by go_num, by rw [H.out]⟩
    case measure => simp [intOf]; omega
  ·obtain rfl : k = r.wishes.length := by omega
   have hsz := lastTo_seq (c := cl) hsq r.wishes.length (Nat.le_refl _)
   have HR0 : Hid (∀ W, Below w.heap.size w W → Calls Tryz.prog 33 #[vL, .int .i64 0] W fun e w' => e = .returned (.int .i64 (o.L.getD 0 0)) ∧ w' = W) := hideA (fun W hb => raw_any vL o.L 0 W (HL.out.below hb) (by omega))
   have HR1 : Hid (∀ W, Below w.heap.size w W → Calls Tryz.prog 33 #[vL, .int .i64 1] W fun e w' => e = .returned (.int .i64 (o.L.getD 1 0)) ∧ w' = W) := hideA (fun W hb => raw_any vL o.L 1 W (HL.out.below hb) (by omega))
   have HR2 : Hid (∀ W, Below w.heap.size w W → Calls Tryz.prog 33 #[vL, .int .i64 2] W fun e w' => e = .returned (.int .i64 (o.L.getD 2 0)) ∧ w' = W) := hideA (fun W hb => raw_any vL o.L 2 W (HL.out.below hb) (by omega))
   have HP0 : Hid (∀ W, Calls Tryz.prog 9 #[.int .i64 (o.L.getD 0 0), .int .i64 3] W fun e w' => e = .returned (.int .i64 (pickI (o.L.getD 0 0) 3)) ∧ w' = W) := hideA (fun W => pick_any _ 3 W (by omega) (by omega) (ho.l.getD 0).1 (ho.l.getD 0).2)
   have HP1 : Hid (∀ W, Calls Tryz.prog 9 #[.int .i64 (o.L.getD 1 0), .int .i64 3] W fun e w' => e = .returned (.int .i64 (pickI (o.L.getD 1 0) 3)) ∧ w' = W) := hideA (fun W => pick_any _ 3 W (by omega) (by omega) (ho.l.getD 1).1 (ho.l.getD 1).2)
   have HP2 : Hid (∀ W, Calls Tryz.prog 9 #[.int .i64 (o.L.getD 2 0), .int .i64 1000] W fun e w' => e = .returned (.int .i64 (pickI (o.L.getD 2 0) 1000)) ∧ w' = W) := hideA (fun W => pick_any _ 1000 W (by omega) (by omega) (ho.l.getD 2).1 (ho.l.getD 2).2)
   have HK : Hid (∀ q, nextEntry cl q o.L = if 0 < pickI (o.L.getD 1 0) 3 then ⟨cl, q, 1, pickI (o.L.getD 0 0) 3, pickI (o.L.getD 2 0) 1000⟩ else ⟨cl, q, 2, pickI (o.L.getD 0 0) 3, 0⟩) := hideA (fun _ => rfl)
   generalize pickI (o.L.getD 0 0) 3 = y0 at *
   generalize pickI (o.L.getD 1 0) 3 = y1 at *
   generalize pickI (o.L.getD 2 0) 1000 = y2 at *
   generalize o.L.getD 0 0 = g0 at *
   generalize o.L.getD 1 0 = g1 at *
   generalize o.L.getD 2 0 = g2 at *
   clear HW HL hsq c2
   generalize lastTo cl r.wishes r.wishes.length = z at *
   have hwr : IntKind.i64.wrap (z.seq + 1) = z.seq + 1 := wrap_seq _ hsz.1 hsz.2
   have hcs : (0 ≤ z.seq ∧ o.A.tmod 2 ≠ 0) ∨ (0 ≤ z.seq ∧ o.A.tmod 2 = 0 ∧ 900 ≤ z.seq) ∨ (¬ 0 ≤ z.seq) ∨ (0 ≤ z.seq ∧ o.A.tmod 2 = 0 ∧ ¬ 900 ≤ z.seq) := by omega
   rcases hcs with ⟨q1, q2⟩ | ⟨q1, q2, q3⟩ | q1 | ⟨q1, q2, q3⟩
   ·have HN : Hid (r.entry o = z) := hideA (by rw [HE.out]; exact if_pos ⟨q1, .inl q2⟩)
    clear HE
    have q2d : (o.A.tmod 2 == 0) = false := by simp [q2]
    go_wp2_with fail
    have HF : (Ending.returned z.val = Ending.returned (r.entry o).val) ∧ Below w.heap.size w (((w.alloc (Obj.cells #[.int .i64 o.kind, .int .i64 o.N, .int .i64 o.I, .int .i64 o.A, .int .i64 o.B, vL] 37)).alloc (Obj.cells #[.int .i64 z.client, .int .i64 z.seq, .int .i64 z.kind, .int .i64 z.key, .int .i64 z.value] 46)).alloc (Obj.cells #[.int .i64 z.client, .int .i64 z.seq, .int .i64 z.kind, .int .i64 z.key, .int .i64 z.value] 46)) := ⟨by rw [HN.out], below3 _ _ _ _⟩
    exact bodyPost_ret (v := z.val) (by simp [results, Tryz.results13, go_sem, Ent.val]) rfl HF
   ·have HN : Hid (r.entry o = z) := hideA (by rw [HE.out]; exact if_pos ⟨q1, .inr q3⟩)
    clear HE
    go_wp2_with fail
    have HF : (Ending.returned z.val = Ending.returned (r.entry o).val) ∧ Below w.heap.size w (((w.alloc (Obj.cells #[.int .i64 o.kind, .int .i64 o.N, .int .i64 o.I, .int .i64 o.A, .int .i64 o.B, vL] 37)).alloc (Obj.cells #[.int .i64 z.client, .int .i64 z.seq, .int .i64 z.kind, .int .i64 z.key, .int .i64 z.value] 46)).alloc (Obj.cells #[.int .i64 z.client, .int .i64 z.seq, .int .i64 z.kind, .int .i64 z.key, .int .i64 z.value] 46)) := ⟨by rw [HN.out], below3 _ _ _ _⟩
    exact bodyPost_ret (v := z.val) (by simp [results, Tryz.results13, go_sem, Ent.val]) rfl HF
   ·have HN : Hid (r.entry o = nextEntry cl (z.seq + 1) o.L) := hideA (by rw [HE.out]; exact if_neg (fun h => q1 h.1))
    clear HE
    have q1d : decide (0 ≤ z.seq) = false := decide_eq_false q1
    go_upto_region 10 with fail
    go_cut [8] (fun b wx => b = .pointer (some ⟨w.heap.size + 1 + 1 + 1, 0, none⟩) ∧ wx = ((((w.alloc (Obj.cells #[.int .i64 o.kind, .int .i64 o.N, .int .i64 o.I, .int .i64 o.A, .int .i64 o.B, vL] 37)).alloc (Obj.cells #[.int .i64 0, .int .i64 0, .int .i64 0, .int .i64 0, .int .i64 0] 46)).alloc (Obj.cells #[.int .i64 z.client, .int .i64 z.seq, .int .i64 z.kind, .int .i64 z.key, .int .i64 z.value] 46)).alloc (Obj.cells #[.int .i64 cl, .int .i64 (z.seq + 1), .int .i64 2, .int .i64 y0, .int .i64 0] 46)).drew)
    case first =>
     go_region_held3 (fun w' => w'.cell? ⟨w.heap.size + 1 + 1, 1, none⟩ = some (.int .i64 z.seq) ∧ w'.cell? ⟨w.heap.size, 5, none⟩ = some vL) (first | (simp [go_sem]; done) | (simp [go_sem, *]; done) | go_keep) (first | (go_at_call 33; refine (HR0.out _ (by first | exact below3 _ _ _ _ | exact (below3 _ _ _ _).drew | exact below4 _ _ _ _ _ | exact (below4 _ _ _ _ _).drew)).mono ?_; rintro e w9 ⟨rfl, rfl⟩) | (go_at_call 9; refine (HP0.out _).mono ?_; rintro e w9 ⟨rfl, rfl⟩))
     all_goals
      go_wp2_with fail
      go_meet
     all_goals exact ⟨rfl, by first | rfl | rw [hwr]⟩
    case rest =>
     obtain ⟨rfl, rfl⟩ := hcut
     have hb4 : ∀ o4, Below w.heap.size w ((((w.alloc (Obj.cells #[.int .i64 o.kind, .int .i64 o.N, .int .i64 o.I, .int .i64 o.A, .int .i64 o.B, vL] 37)).alloc (Obj.cells #[.int .i64 0, .int .i64 0, .int .i64 0, .int .i64 0, .int .i64 0] 46)).alloc (Obj.cells #[.int .i64 z.client, .int .i64 z.seq, .int .i64 z.kind, .int .i64 z.key, .int .i64 z.value] 46)).alloc o4).drew := fun o4 => (below4 _ _ _ _ o4).drew
     go_wp2_with fail
     refine (HR1.out _ (hb4 _)).mono ?_
     rintro e w9 ⟨rfl, rfl⟩
     go_wp2_with fail
     refine (HP1.out _).mono ?_
     rintro e w9 ⟨rfl, rfl⟩
     by_cases hp : 0 < y1
     ·have HV : Hid (r.entry o = ⟨cl, z.seq + 1, 1, y0, y2⟩) := hideA (by rw [HN.out, HK.out, if_pos hp])
      go_wp2_with fail
      refine (HR2.out _ (hb4 _)).mono ?_
      rintro e w9 ⟨rfl, rfl⟩
      go_wp2_with fail
      refine (HP2.out _).mono ?_
      rintro e w9 ⟨rfl, rfl⟩
      go_wp2_with fail
      have HF : (Ending.returned (Ent.val ⟨cl, z.seq + 1, 1, y0, y2⟩) = Ending.returned (r.entry o).val) ∧ Below w.heap.size w ((((w.alloc (Obj.cells #[.int .i64 o.kind, .int .i64 o.N, .int .i64 o.I, .int .i64 o.A, .int .i64 o.B, vL] 37)).alloc (Obj.cells #[.int .i64 cl, .int .i64 (z.seq + 1), .int .i64 1, .int .i64 y0, .int .i64 y2] 46)).alloc (Obj.cells #[.int .i64 z.client, .int .i64 z.seq, .int .i64 z.kind, .int .i64 z.key, .int .i64 z.value] 46)).alloc (Obj.cells #[.int .i64 cl, .int .i64 (z.seq + 1), .int .i64 1, .int .i64 y0, .int .i64 y2] 46)).drew := ⟨by rw [HV.out], (below4 _ _ _ _ _).drew⟩
      exact bodyPost_ret (v := Ent.val ⟨cl, z.seq + 1, 1, y0, y2⟩) (by simp [results, Tryz.results13, go_sem, Ent.val]) rfl HF
     ·have HV : Hid (r.entry o = ⟨cl, z.seq + 1, 2, y0, 0⟩) := hideA (by rw [HN.out, HK.out, if_neg hp])
      have hpd : decide (0 < y1) = false := decide_eq_false hp
      go_wp2_with fail
      have HF : (Ending.returned (Ent.val ⟨cl, z.seq + 1, 2, y0, 0⟩) = Ending.returned (r.entry o).val) ∧ Below w.heap.size w ((((w.alloc (Obj.cells #[.int .i64 o.kind, .int .i64 o.N, .int .i64 o.I, .int .i64 o.A, .int .i64 o.B, vL] 37)).alloc (Obj.cells #[.int .i64 cl, .int .i64 (z.seq + 1), .int .i64 2, .int .i64 y0, .int .i64 0] 46)).alloc (Obj.cells #[.int .i64 z.client, .int .i64 z.seq, .int .i64 z.kind, .int .i64 z.key, .int .i64 z.value] 46)).alloc (Obj.cells #[.int .i64 cl, .int .i64 (z.seq + 1), .int .i64 2, .int .i64 y0, .int .i64 0] 46)).drew := ⟨by rw [HV.out], (below4 _ _ _ _ _).drew⟩
      exact bodyPost_ret (v := Ent.val ⟨cl, z.seq + 1, 2, y0, 0⟩) (by simp [results, Tryz.results13, go_sem, Ent.val]) rfl HF
   ·have HN : Hid (r.entry o = nextEntry cl (z.seq + 1) o.L) := hideA (by rw [HE.out]; exact if_neg (fun h => by rcases h.2 with h | h <;> omega))
    clear HE
    have q3d : decide (900 ≤ z.seq) = false := decide_eq_false q3
    go_upto_region 10 with fail
    go_cut [8] (fun b wx => b = .pointer (some ⟨w.heap.size + 1 + 1 + 1, 0, none⟩) ∧ wx = ((((w.alloc (Obj.cells #[.int .i64 o.kind, .int .i64 o.N, .int .i64 o.I, .int .i64 o.A, .int .i64 o.B, vL] 37)).alloc (Obj.cells #[.int .i64 0, .int .i64 0, .int .i64 0, .int .i64 0, .int .i64 0] 46)).alloc (Obj.cells #[.int .i64 z.client, .int .i64 z.seq, .int .i64 z.kind, .int .i64 z.key, .int .i64 z.value] 46)).alloc (Obj.cells #[.int .i64 cl, .int .i64 (z.seq + 1), .int .i64 2, .int .i64 y0, .int .i64 0] 46)).drew)
    case first =>
     go_region_held3 (fun w' => w'.cell? ⟨w.heap.size + 1 + 1, 1, none⟩ = some (.int .i64 z.seq) ∧ w'.cell? ⟨w.heap.size, 5, none⟩ = some vL) (first | (simp [go_sem]; done) | (simp [go_sem, *]; done) | go_keep) (first | (go_at_call 33; refine (HR0.out _ (by first | exact below3 _ _ _ _ | exact (below3 _ _ _ _).drew | exact below4 _ _ _ _ _ | exact (below4 _ _ _ _ _).drew)).mono ?_; rintro e w9 ⟨rfl, rfl⟩) | (go_at_call 9; refine (HP0.out _).mono ?_; rintro e w9 ⟨rfl, rfl⟩))
     all_goals
      go_wp2_with fail
      go_meet
     all_goals exact ⟨rfl, by first | rfl | rw [hwr]⟩
    case rest =>
     obtain ⟨rfl, rfl⟩ := hcut
     have hb4 : ∀ o4, Below w.heap.size w ((((w.alloc (Obj.cells #[.int .i64 o.kind, .int .i64 o.N, .int .i64 o.I, .int .i64 o.A, .int .i64 o.B, vL] 37)).alloc (Obj.cells #[.int .i64 0, .int .i64 0, .int .i64 0, .int .i64 0, .int .i64 0] 46)).alloc (Obj.cells #[.int .i64 z.client, .int .i64 z.seq, .int .i64 z.kind, .int .i64 z.key, .int .i64 z.value] 46)).alloc o4).drew := fun o4 => (below4 _ _ _ _ o4).drew
     go_wp2_with fail
     refine (HR1.out _ (hb4 _)).mono ?_
     rintro e w9 ⟨rfl, rfl⟩
     go_wp2_with fail
     refine (HP1.out _).mono ?_
     rintro e w9 ⟨rfl, rfl⟩
     by_cases hp : 0 < y1
     ·have HV : Hid (r.entry o = ⟨cl, z.seq + 1, 1, y0, y2⟩) := hideA (by rw [HN.out, HK.out, if_pos hp])
      go_wp2_with fail
      refine (HR2.out _ (hb4 _)).mono ?_
      rintro e w9 ⟨rfl, rfl⟩
      go_wp2_with fail
      refine (HP2.out _).mono ?_
      rintro e w9 ⟨rfl, rfl⟩
      go_wp2_with fail
      have HF : (Ending.returned (Ent.val ⟨cl, z.seq + 1, 1, y0, y2⟩) = Ending.returned (r.entry o).val) ∧ Below w.heap.size w ((((w.alloc (Obj.cells #[.int .i64 o.kind, .int .i64 o.N, .int .i64 o.I, .int .i64 o.A, .int .i64 o.B, vL] 37)).alloc (Obj.cells #[.int .i64 cl, .int .i64 (z.seq + 1), .int .i64 1, .int .i64 y0, .int .i64 y2] 46)).alloc (Obj.cells #[.int .i64 z.client, .int .i64 z.seq, .int .i64 z.kind, .int .i64 z.key, .int .i64 z.value] 46)).alloc (Obj.cells #[.int .i64 cl, .int .i64 (z.seq + 1), .int .i64 1, .int .i64 y0, .int .i64 y2] 46)).drew := ⟨by rw [HV.out], (below4 _ _ _ _ _).drew⟩
      exact bodyPost_ret (v := Ent.val ⟨cl, z.seq + 1, 1, y0, y2⟩) (by simp [results, Tryz.results13, go_sem, Ent.val]) rfl HF
     ·have HV : Hid (r.entry o = ⟨cl, z.seq + 1, 2, y0, 0⟩) := hideA (by rw [HN.out, HK.out, if_neg hp])
      have hpd : decide (0 < y1) = false := decide_eq_false hp
      go_wp2_with fail
      have HF : (Ending.returned (Ent.val ⟨cl, z.seq + 1, 2, y0, 0⟩) = Ending.returned (r.entry o).val) ∧ Below w.heap.size w ((((w.alloc (Obj.cells #[.int .i64 o.kind, .int .i64 o.N, .int .i64 o.I, .int .i64 o.A, .int .i64 o.B, vL] 37)).alloc (Obj.cells #[.int .i64 cl, .int .i64 (z.seq + 1), .int .i64 2, .int .i64 y0, .int .i64 0] 46)).alloc (Obj.cells #[.int .i64 z.client, .int .i64 z.seq, .int .i64 z.kind, .int .i64 z.key, .int .i64 z.value] 46)).alloc (Obj.cells #[.int .i64 cl, .int .i64 (z.seq + 1), .int .i64 2, .int .i64 y0, .int .i64 0] 46)).drew := ⟨by rw [HV.out], (below4 _ _ _ _ _).drew⟩
      exact bodyPost_ret (v := Ent.val ⟨cl, z.seq + 1, 2, y0, 0⟩) (by simp [results, Tryz.results13, go_sem, Ent.val]) rfl HF
end Go.Proofs.YtlminmokpmdgoabGreat
namespace Go.Proofs.YtlminmokpmdgoabGreat
open Go.RowKit Go.Shelf
def Wish.nums (x : Wish) : List Int := [x.e.client, x.e.seq, x.e.kind, x.e.key, x.e.value, x.floor]
def wishNums (l : List Wish) : List Int := l.flatMap Wish.nums
theorem wishNums_at (l : List Wish) (i j : Nat) (x : Wish) (hx : l[i]? = some x) (hj : j < 6) : (wishNums l)[i * 6 + j]? = x.nums[j]? := by
 induction l generalizing i with
 | nil => simp at hx
 | cons a t ih =>
  have e : wishNums (a :: t) = a.nums ++ wishNums t := by simp [wishNums]
  have hl : a.nums.length = 6 := rfl
  rw [e]
  cases i with
  | zero =>
   rw [List.getElem?_append_left (by omega)]
   simp at hx
   subst hx
   simp
  | succ i =>
   rw [List.getElem?_append_right (by omega), hl, show (i + 1) * 6 + j - 6 = i * 6 + j by omega, ih i (by simpa using hx)]
theorem wishAt_of {w : World} {base : Nat} {v : Value} {l : List Wish} (h : w.ownsRow base 64 6 v l.length (ints (wishNums l))) : ∃ a c, v = .slice a l.length c ∧ WishAt w a l := by
 obtain ⟨a, c, rfl⟩ := owns_shape h
 refine ⟨a, c, rfl, fun i x hx => ?_⟩
 have hi := (List.getElem?_eq_some_iff.1 hx).1
 obtain ⟨g, cap, hv, _, _⟩ := h.form (by omega)
 cases hv
 have at_ : ∀ j, j < 6 → ∀ z, x.nums[j]? = some z → w.cell? ⟨g, i * 6 + j, none⟩ = some (.int .i64 z) := by
  intro j hj z hz
  rw [World.ownsRow.cellAt h (i * 6 + j) (by omega)]
  unfold ints
  rw [List.getElem?_map, wishNums_at l i j x hx hj, hz]
  rfl
 exact ⟨g, rfl, at_ 0 (by omega) _ rfl, at_ 1 (by omega) _ rfl, at_ 2 (by omega) _ rfl, at_ 3 (by omega) _ rfl, at_ 4 (by omega) _ rfl, at_ 5 (by omega) _ rfl⟩
abbrev StatV := Rep × Value × Value
def scells (t : StatV) : List Value := [.bool t.1.up, .int .i64 t.1.epoch, .int .i64 t.1.lock, .int .i64 (t.1.commit : Int), t.2.1, t.2.2]
def LastOwn (w : World) (FR : Nat → Prop) (v : Value) (l : List Rep) : Prop :=
 ∃ ws : List StatV, ws.map Prod.fst = l ∧ w.ownsRow 0 49 6 v l.length (ws.flatMap scells) ∧ ∀ t ∈ ws, IntOwn w t.2.1 t.1.mems ∧ LogOwn w t.2.2 t.1.log ∧ (∀ k, t.2.1.ownBlock = some k → FR k) ∧ ∀ k, t.2.2.ownBlock = some k → FR k
def OwnR (p : Nat) (vW vF vL : Value) (FR : Nat → Prop) (k : Nat) : Prop := k = p ∨ vW.ownBlock = some k ∨ vF.ownBlock = some k ∨ vL.ownBlock = some k ∨ FR k
def runCells (r : Run) (x : Nat) (vW vF vL : Value) : Array Value :=
 #[.pointer (some ⟨x, 0, none⟩), .int .i64 (r.n : Int), vW, vF, vL, .int .i64 (r.begun0 : Int), .int .i64 (r.begun1 : Int), .int .i64 (r.answers : Int), .int .i64 r.top, .bool r.ok, .bool r.agreed, .bool r.lasts, .bool r.told, .bool r.sealed]
structure RunIn (w : World) (p x : Nat) (FX FR : Nat → Prop) (r : Run) (vW vF vL : Value) : Prop where
 blk : w.heap[p]? = some (.cells (runCells r x vW vF vL) 31)
 clu : CAt w FX x r.x
 hW : w.ownsRow 0 64 6 vW r.wishes.length (ints (wishNums r.wishes))
 hF : w.ownsRow 0 96 6 vF r.fixed.length (ints (fixNums r.fixed))
 hL : LastOwn w FR vL r.last
 off : ∀ k, FX k → ¬ OwnR p vW vF vL FR k
 lt : ∀ k, FR k → k < w.heap.size
def RunAt (w0 w : World) (p x : Nat) (r : Run) : Prop :=
 ∃ FX FR vW vF vL, RunIn w p x FX FR r vW vF vL ∧ (∀ k, FX k ∨ OwnR p vW vF vL FR k → w0.heap.size ≤ k) ∧ Below w0.heap.size w0 w
def KeepB (w w' : World) (p : Nat) (FX FR : Nat → Prop) (vW vF vL : Value) : Prop := ∀ k, k < w.heap.size → ¬ (FX k ∨ OwnR p vW vF vL FR k) → w'.heap[k]? = w.heap[k]?
theorem LastOwn.keep {w w' : World} {FR : Nat → Prop} {v : Value} {l : List Rep} (h : LastOwn w FR v l) (hv : ∀ k, v.ownBlock = some k → w'.heap[k]? = w.heap[k]?) (hk : ∀ k, FR k → w'.heap[k]? = w.heap[k]?) : LastOwn w' FR v l := by
 obtain ⟨ws, h1, h2, h3⟩ := h
 exact ⟨ws, h1, owns_only h2 hv, fun t ht => ⟨owns_only (h3 t ht).1 fun k e => hk k ((h3 t ht).2.2.1 k e), owns_only (h3 t ht).2.1 fun k e => hk k ((h3 t ht).2.2.2 k e), (h3 t ht).2.2.1, (h3 t ht).2.2.2⟩⟩
theorem RunIn.ownLt {w : World} {p x : Nat} {FX FR : Nat → Prop} {r : Run} {vW vF vL : Value} (h : RunIn w p x FX FR r vW vF vL) {k : Nat} (hk : OwnR p vW vF vL FR k) : k < w.heap.size := by
 have key : ∀ {base size n : Nat} {e : TypeId} {v : Value} {xs : List Value}, w.ownsRow base e size v n xs → v.ownBlock = some k → k < w.heap.size := fun hr e => (Array.getElem?_eq_some_iff.1 (ownBlock_cells hr e).choose_spec.1).1
 rcases hk with e | e | e | e | e
 ·rw [e]; exact (Array.getElem?_eq_some_iff.1 h.blk).1
 ·exact key h.hW e
 ·exact key h.hF e
 ·obtain ⟨ws, _, h2, _⟩ := h.hL
  exact key h2 e
 ·exact h.lt k e
theorem RunIn.keep {w w' : World} {p x : Nat} {FX FR : Nat → Prop} {r : Run} {vW vF vL : Value} (h : RunIn w p x FX FR r vW vF vL) (hk : ∀ k, FX k ∨ OwnR p vW vF vL FR k → w'.heap[k]? = w.heap[k]?) : RunIn w' p x FX FR r vW vF vL :=
 ⟨(hk p (.inr (.inl rfl))).trans h.blk, cApi.keep h.clu fun k e => hk k (.inl e), owns_only h.hW fun k e => hk k (.inr (.inr (.inl e))), owns_only h.hF fun k e => hk k (.inr (.inr (.inr (.inl e)))), h.hL.keep (fun k e => hk k (.inr (.inr (.inr (.inr (.inl e)))))) (fun k e => hk k (.inr (.inr (.inr (.inr (.inr e)))))), h.off, fun k e => lt_of_keep (h.lt k e) (hk k (.inr (.inr (.inr (.inr (.inr e))))))⟩
theorem RunIn.below {w w' : World} {p x : Nat} {FX FR : Nat → Prop} {r : Run} {vW vF vL : Value} (h : RunIn w p x FX FR r vW vF vL) (hb : Below w.heap.size w w') : RunIn w' p x FX FR r vW vF vL :=
 h.keep fun k hk => hb.block k (hk.elim (fun e => cApi.lt h.clu e) (fun e => h.ownLt e))
theorem RunAt.below {w0 w w' : World} {p x : Nat} {r : Run} (h : RunAt w0 w p x r) (hb : Below w.heap.size w w') : RunAt w0 w' p x r := by
 obtain ⟨FX, FR, vW, vF, vL, h1, h2, h3⟩ := h
 exact ⟨FX, FR, vW, vF, vL, h1.below hb, h2, h3.trans (hb.mono h3.size)⟩
theorem RunIn.after {w w' : World} {p x : Nat} {FX FR : Nat → Prop} {r : Run} {vW vF vL : Value} (h : RunIn w p x FX FR r vW vF vL) (c' : Clu) (ha : CAfter w FX x c' w') :
  ∃ F', RunIn w' p x F' FR { r with x := c' } vW vF vL ∧ Moved w w' FX ∧ ∀ k, F' k → FX k ∨ w.heap.size ≤ k := by
 obtain ⟨F', h1, h2, h3⟩ := ha
 have hO : ∀ k, OwnR p vW vF vL FR k → w'.heap[k]? = w.heap[k]? := fun k hk => h2.block k (h.ownLt hk) (fun e => h.off k e hk)
 refine ⟨F', ⟨(hO p (.inl rfl)).trans h.blk, h1, owns_only h.hW fun k e => hO k (.inr (.inl e)), owns_only h.hF fun k e => hO k (.inr (.inr (.inl e))), h.hL.keep (fun k e => hO k (.inr (.inr (.inr (.inl e))))) (fun k e => hO k (.inr (.inr (.inr (.inr e))))), fun k hk hO2 => ?_, fun k e => lt_of_keep (h.lt k e) (hO k (.inr (.inr (.inr (.inr e)))))⟩, h2, h3⟩
 rcases h3 k hk with e | e
 ·exact h.off k e hO2
 ·have := h.ownLt hO2; omega
theorem RunAt.after {w0 w w' : World} {p x : Nat} {FX FR : Nat → Prop} {r : Run} {vW vF vL : Value} (h : RunIn w p x FX FR r vW vF vL) (hn : ∀ k, FX k ∨ OwnR p vW vF vL FR k → w0.heap.size ≤ k) (hb : Below w0.heap.size w0 w) (c' : Clu) (ha : CAfter w FX x c' w') : RunAt w0 w' p x { r with x := c' } := by
 obtain ⟨F', h1, h2, h3⟩ := h.after c' ha
 have hs := hb.size
 refine ⟨F', FR, vW, vF, vL, h1, fun k hk => ?_, hb.trans (h2.to_below (fun k e => hn k (.inl e)) hs)⟩
 rcases hk with e | e
 ·rcases h3 k e with e | e
  ·exact hn k (.inl e)
  ·omega
 ·exact hn k (.inr e)
theorem RunIn.flags {w w' : World} {p x : Nat} {FX FR : Nat → Prop} {r r' : Run} {vW vF vL : Value} (h : RunIn w p x FX FR r vW vF vL) (hb : w'.heap[p]? = some (.cells (runCells r' x vW vF vL) 31)) (hk : ∀ k, k ≠ p → w'.heap[k]? = w.heap[k]?)
  (e1 : r'.x = r.x) (e2 : r'.wishes = r.wishes) (e3 : r'.fixed = r.fixed) (e4 : r'.last = r.last) : RunIn w' p x FX FR r' vW vF vL := by
 have hpx : ¬ FX p := fun e => h.off p e (.inl rfl)
 have hFRp : ∀ {base size n : Nat} {e : TypeId} {v : Value} {xs : List Value}, w.ownsRow base e size v n xs → e ≠ 31 → ∀ k, v.ownBlock = some k → k ≠ p := fun hv he k e1 e2 => blk_type h.blk hv he (e2 ▸ e1)
 refine ⟨hb, by rw [e1]; exact cApi.keep h.clu fun k e => hk k (fun e2 => hpx (e2 ▸ e)), by rw [e2]; exact owns_only h.hW fun k e => hk k (hFRp h.hW (by decide) k e), by rw [e3]; exact owns_only h.hF fun k e => hk k (hFRp h.hF (by decide) k e), ?_, h.off, ?_⟩
 ·rw [e4]
  obtain ⟨ws, h1, h2, h3⟩ := h.hL
  exact ⟨ws, h1, owns_only h2 fun k e => hk k (hFRp h2 (by decide) k e), fun t ht => ⟨owns_only (h3 t ht).1 fun k e => hk k (hFRp (h3 t ht).1 (by decide) k e), owns_only (h3 t ht).2.1 fun k e => hk k (hFRp (h3 t ht).2.1 (by decide) k e), (h3 t ht).2.2.1, (h3 t ht).2.2.2⟩⟩
 ·intro k e
  by_cases ek : k = p
  ·rw [ek]; exact (Array.getElem?_eq_some_iff.1 hb).1
  ·exact lt_of_keep (h.lt k e) (hk k ek)
end Go.Proofs.YtlminmokpmdgoabGreat
