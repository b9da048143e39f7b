import Derived.Test.YtgieeeeeiggoeaaGreatQ18
import Derived.Test.YtgieeeeeiggoeaaGreatQ12
import Derived.Test.YtgieeeeeiggoeaaGreatQ02
import Derived.Test.YtgieeeeeiggoeaaGreatQ15
namespace Go.Proofs.YtgieeeeeiggoeaaGreat
open Go.RowKit
def placeTo (fixed : List Fix) (c q : Int) (k : Nat) : Int :=
 (List.range k).foldl (fun (at_ : Int) p => if (fixed.getD p Fix.zero).e.client = c ∧ (fixed.getD p Fix.zero).e.seq = q then (p : Int) else at_) (-1)
theorem placeTo_succ (fixed : List Fix) (c q : Int) (k : Nat) : placeTo fixed c q (k + 1) = if (fixed.getD k Fix.zero).e.client = c ∧ (fixed.getD k Fix.zero).e.seq = q then (k : Int) else placeTo fixed c q k := by
 unfold placeTo; rw [List.range_succ,List.foldl_append]; rfl
theorem placeTo_range (fixed : List Fix) (c q : Int) (k : Nat) : -1 ≤ placeTo fixed c q k ∧ placeTo fixed c q k < k := by
 induction k with
 | zero => show (-1 : Int) ≤ -1 ∧ (-1 : Int) < 0; omega
 | succ k ih =>
  rw [placeTo_succ]
  split <;> omega
def floorTo (ws : List Wish) (e : Ent) (k : Nat) : Int := floorOf (ws.take k) e
theorem floorTo_succ {ws : List Wish} {e : Ent} {k : Nat} {x : Wish} (h : ws[k]? = some x) : floorTo ws e (k + 1) = if x.e = e then x.floor else floorTo ws e k := by
 obtain ⟨a,b⟩ := List.getElem?_eq_some_iff.1 h
 unfold floorTo floorOf
 rw [List.take_succ_eq_append_getElem a,List.foldl_append,b]
 rfl
theorem hear1_some {r : Run} {top t : Int} {a : Ans} (h : hear1 r top a = some t) : 0 ≤ placeOf r.fixed a.client a.seq ∧ floorOf r.wishes (r.fixed.getD (placeOf r.fixed a.client a.seq).toNat Fix.zero).e ≠ -2 ∧
  floorOf r.wishes (r.fixed.getD (placeOf r.fixed a.client a.seq).toNat Fix.zero).e < placeOf r.fixed a.client a.seq ∧ a.value = valueAt r.fixed (placeOf r.fixed a.client a.seq).toNat ∧ t = if top < placeOf r.fixed a.client a.seq then placeOf r.fixed a.client a.seq else top := by
 unfold hear1 at h
 simp only [] at h
 split at h
 ·cases h
 ·split at h
  ·cases h
  ·rename_i h1 h2
   injection h with h
   refine ⟨by omega,fun q => h2 (.inl q), ?_, ?_,h.symm⟩
   ·have : ¬ placeOf r.fixed a.client a.seq ≤ _ := fun q => h2 (.inr (.inl q))
    omega
   ·exact Decidable.byContradiction fun q => h2 (.inr (.inr q))
def WishAt (w : World) (a : Option Addr) (ws : List Wish) : Prop := ∀ (i : Nat) (x : Wish),ws[i]? = some x → ∃ b,a = some ⟨b,0,none⟩ ∧
 w.cell? ⟨b,i * 6,none⟩ = some (.int .i64 x.e.client) ∧ w.cell? ⟨b,i * 6 + 1,none⟩ = some (.int .i64 x.e.seq) ∧
 w.cell? ⟨b,i * 6 + 2,none⟩ = some (.int .i64 x.e.kind) ∧ w.cell? ⟨b,i * 6 + 3,none⟩ = some (.int .i64 x.e.key) ∧
 w.cell? ⟨b,i * 6 + 4,none⟩ = some (.int .i64 x.e.value) ∧ w.cell? ⟨b,i * 6 + 5,none⟩ = some (.int .i64 x.floor)
theorem ent_ext {a b : Ent} (h0 : a.client = b.client) (h1 : a.seq = b.seq) (h2 : a.kind = b.kind) (h3 : a.key = b.key) (h4 : a.value = b.value) : a = b := by
 cases a; cases b; simp_all
def AnsAt (w : World) (a : Option Addr) (l : List Ans) : Prop := ∀ (i : Nat) (x : Ans),l[i]? = some x → ∃ b,a = some ⟨b,0,none⟩ ∧
 w.cell? ⟨b,i * 3,none⟩ = some (.int .i64 x.client) ∧ w.cell? ⟨b,i * 3 + 1,none⟩ = some (.int .i64 x.seq) ∧ w.cell? ⟨b,i * 3 + 2,none⟩ = some (.int .i64 x.value)
set_option maxHeartbeats 4000000 in
set_option maxRecDepth 100000 in
theorem hears_any (p xx : Nat) (r : Run) (aW aF : Option Addr) (cW cF : Nat) (w : World)
  (c0 : w.cell? ⟨p,0,none⟩ = some (.pointer (some ⟨xx,0,none⟩))) (c2 : w.cell? ⟨p,2,none⟩ = some (.slice aW r.wishes.length cW)) (c3 : w.cell? ⟨p,3,none⟩ = some (.slice aF r.fixed.length cF))
  (c7 : w.cell? ⟨p,7,none⟩ = some (.int .i64 (r.answers : Int))) (c8 : w.cell? ⟨p,8,none⟩ = some (.int .i64 r.top)) (f7 : w.frozen? ⟨p,7,none⟩ = false) (f8 : w.frozen? ⟨p,8,none⟩ = false)
  (hW : WishAt w aW r.wishes) (hF : FixAt w aF r.fixed) (hwl : r.wishes.length ≤ 1000000) (hfl : r.fixed.length ≤ 1000) (hal : r.answers ≤ r.x.told.length) (htl : r.x.told.length ≤ 3000000000000)
  (hans : Calls Tryz.prog 103 #[.pointer (some ⟨xx,0,none⟩)] w fun e w' => ∃ a c,e = .returned (.slice a r.x.told.length c) ∧ AnsAt w' a r.x.told ∧ Below w.heap.size w w')
  (t : Int) (hh : hearAll r r.top (r.x.told.drop r.answers) = some t) :
  Calls Tryz.prog 58 #[.pointer (some ⟨p,0,none⟩)] w fun e w' => e = .returned (.tuple #[]) ∧ ∃ W,Below w.heap.size w W ∧ w' = (W.setCell ⟨p,8,none⟩ (.int .i64 t)).setCell ⟨p,7,none⟩ (.int .i64 (r.x.told.length : Int)) := by
 go_enter Tryz.func58,Tryz.ntmps58
 go_wp2_with fail
 refine hans.mono ?_
 rintro e W ⟨aA,cA,rfl,hA,hb⟩
 have d2 := cell_later hb c2
 have d3 := cell_later hb c3
 have d7 := cell_later hb c7
 have d8 := cell_later hb c8
 have g7 : W.frozen? ⟨p,7,none⟩ = false := (hb.frozen (p := ⟨p,7,none⟩) (cell_lt c7)).trans f7
 have g8 : W.frozen? ⟨p,8,none⟩ = false := (hb.frozen (p := ⟨p,8,none⟩) (cell_lt c8)).trans f8
 have HA := hideA hA
 have HF : Hid (FixAt W aF r.fixed) := hideA (fun i hi => by
  obtain ⟨b,e,a0,a1,a2,a3,a4,a5⟩ := hF i hi
  exact ⟨b,e,cell_later hb a0,cell_later hb a1,cell_later hb a2,cell_later hb a3,cell_later hb a4,cell_later hb a5⟩)
 have HW : Hid (WishAt W aW r.wishes) := hideA (fun i x hi => by
  obtain ⟨b,e,a0,a1,a2,a3,a4,a5⟩ := hW i x hi
  exact ⟨b,e,cell_later hb a0,cell_later hb a1,cell_later hb a2,cell_later hb a3,cell_later hb a4,cell_later hb a5⟩)
 have hal2 : ¬ (r.x.told.length : Int) < (r.answers : Int) := by omega
 have hald : decide ((r.x.told.length : Int) < (r.answers : Int)) = false := decide_eq_false hal2
 have hald2 : decide (r.x.told.length < r.answers) = false := decide_eq_false (by omega)
 clear hal2
 clear hA hF hW c0 c2 c3 c7 c8 f7 f8 hans
 go_wp2_with fail
 go_loopw [3,4] (fun tp i wr => ∃ (k d : Nat) (z : Int),k ≤ r.x.told.length ∧ i = .int .i64 k ∧ tp = .int .i64 z ∧ wr = W.drewN d ∧ Hid (hearAll r z (r.x.told.drop k) = some t)) (fun _ i _ => r.x.told.length - (intOf i).toNat)
 case atStart => exact ⟨r.answers,0,r.top,hal,rfl,rfl,rfl,hideA hh⟩
 case round =>
  obtain ⟨k,d,z,hk,rfl,rfl,rfl,hz⟩ := hrel
  by_cases hlt : k < r.x.told.length
  ·have hk1 : (k : Int) < (r.x.told.length : Int) := by omega
   have hka : r.x.told[k]? = some r.x.told[k] := List.getElem?_eq_getElem hlt
   obtain ⟨bA,rfl,e0,e1,e2⟩ := HA.out k _ hka
   have hdrop : r.x.told.drop k = r.x.told[k] :: r.x.told.drop (k + 1) := List.drop_eq_getElem_cons hlt
   have hz2 := hz.out
   rw [hdrop] at hz2
   generalize r.x.told[k] = a at *
   unfold hearAll at hz2
   cases h1 : hear1 r z a with
   | none => rw [h1] at hz2; cases hz2
   | some t1 =>
    rw [h1] at hz2
    have HZ := hideA hz2
    have HS := hideA (hear1_some h1)
    clear hz2 h1 hdrop hka
    go_wp2_with fail
    go_loopw [5,6] (fun q j wr => ∃ m d : Nat,m ≤ r.fixed.length ∧ j = .int .i64 m ∧ q = .int .i64 (placeTo r.fixed a.client a.seq m) ∧ wr = W.drewN d) (fun _ j _ => r.fixed.length - (intOf j).toNat)
    case atStart => exact ⟨0,d,Nat.zero_le _,rfl,rfl,rfl⟩
    case round =>
     obtain ⟨m,d,hm,rfl,rfl,rfl⟩ := hrel
     by_cases hlm : m < r.fixed.length
     ·obtain ⟨bF,rfl,b0,b1, -, -, -, -⟩ := HF.out m hlm
      have hm1 : (m : Int) < (r.fixed.length : Int) := by omega
      have hps := hideA (placeTo_succ r.fixed a.client a.seq m)
      generalize (r.fixed.getD m Fix.zero).e = x at *
      by_cases hc : x.client = a.client
      ·by_cases hs : x.seq = a.seq
       ·have H : Hid (placeTo r.fixed a.client a.seq (m + 1) = m) := hideA (by rw [hps.out,if_pos ⟨hc,hs⟩])
        rw [hc] at b0
        rw [hs] at b1
        go_wp2_with fail
        go_quiet (fail)
        go_wp2_with fail
        exact ⟨⟨m + 1,_,by omega,by go_num,by rw [H.out],rfl⟩,by simp [intOf]; omega⟩
       ·have H : Hid (placeTo r.fixed a.client a.seq (m + 1) = placeTo r.fixed a.client a.seq m) := hideA (by rw [hps.out,if_neg (fun q => hs q.2)])
        have hs' : (x.seq == a.seq) = false := by simpa using hs
        rw [hc] at b0
        go_wp2_with fail
        go_quiet (fail)
        go_wp2_with fail
        exact ⟨⟨m + 1,_,by omega,by go_num,by rw [H.out],rfl⟩,by simp [intOf]; omega⟩
      ·have H : Hid (placeTo r.fixed a.client a.seq (m + 1) = placeTo r.fixed a.client a.seq m) := hideA (by rw [hps.out,if_neg (fun q => hc q.1)])
       have hc' : (x.client == a.client) = false := by simpa using hc
       go_wp2_with fail
       go_quiet (fail)
       go_wp2_with fail
       exact ⟨⟨m + 1,_,by omega,by go_num,by rw [H.out],rfl⟩,by simp [intOf]; omega⟩
     ·obtain rfl : m = r.fixed.length := by omega
      have hPe : placeTo r.fixed a.client a.seq r.fixed.length = placeOf r.fixed a.client a.seq := rfl
      have hPr := placeTo_range r.fixed a.client a.seq r.fixed.length
      rw [hPe] at hPr ⊢
      obtain ⟨s1,s2,s3,s4,s5⟩ := HS.out
      obtain ⟨P,hP⟩ : ∃ P : Nat,placeOf r.fixed a.client a.seq = P := ⟨(placeOf r.fixed a.client a.seq).toNat,by omega⟩
      rw [hP] at hPr s2 s3 s4 s5 ⊢
      rw [Int.toNat_natCast] at s2 s3 s4
      have hPl : P < r.fixed.length := by omega
      obtain ⟨bF,rfl,b0,b1,b2,b3,b4, -⟩ := HF.out P hPl
      have HX : Hid (floorTo r.wishes (r.fixed.getD P Fix.zero).e r.wishes.length = floorOf r.wishes (r.fixed.getD P Fix.zero).e) := hideA (by unfold floorTo; rw [List.take_length])
      have HV := value_any p bF r.fixed.length cF r.fixed P
      have hval := hideA s4
      generalize hx : (r.fixed.getD P Fix.zero).e = x at *
      clear hPe hP s1 s4 hx
      have hP0 : (0 : Int) ≤ (P : Int) := by omega
      have HB : Hid (W.cell? ⟨bF,P * 6,none⟩ = some (.int .i64 x.client) ∧ W.cell? ⟨bF,P * 6 + 1,none⟩ = some (.int .i64 x.seq) ∧ W.cell? ⟨bF,P * 6 + 2,none⟩ = some (.int .i64 x.kind) ∧ W.cell? ⟨bF,P * 6 + 3,none⟩ = some (.int .i64 x.key) ∧ W.cell? ⟨bF,P * 6 + 4,none⟩ = some (.int .i64 x.value)) := ⟨b0,b1,b2,b3,b4⟩
      clear b0 b1 b2 b3 b4
      go_wp2_with fail
      go_loopw [7,8] (fun q j wr => ∃ m d : Nat,m ≤ r.wishes.length ∧ j = .int .i64 m ∧ q = .int .i64 (floorTo r.wishes x m) ∧ wr = W.drewN d) (fun _ j _ => r.wishes.length - (intOf j).toNat)
      case atStart => exact ⟨0,d,Nat.zero_le _,rfl,rfl,rfl⟩
      case round =>
       obtain ⟨m,d,hm,rfl,rfl,rfl⟩ := hrel
       by_cases hlm : m < r.wishes.length
       ·have hwm : r.wishes[m]? = some r.wishes[m] := List.getElem?_eq_getElem hlm
        obtain ⟨bW,rfl,w0,w1,w2,w3,w4,w5⟩ := HW.out m _ hwm
        obtain ⟨b0,b1,b2,b3,b4⟩ := HB.out
        have hm1 : (m : Int) < (r.wishes.length : Int) := by omega
        have hPl1 : (P : Int) < (r.fixed.length : Int) := by omega
        have hfs := hideA (floorTo_succ (e := x) hwm)
        generalize r.wishes[m] = y at *
        clear hwm
        by_cases he : y.e = x
        ·have H : Hid (floorTo r.wishes x (m + 1) = y.floor) := hideA (by rw [hfs.out,if_pos he])
         rw [he] at w0 w1 w2 w3 w4
         clear he
         go_wp2_with fail
         go_quiet (fail)
         go_wp2_with fail
         exact ⟨⟨m + 1,_,by omega,by go_num,by rw [H.out],rfl⟩,by simp [intOf]; omega⟩
        ·have H : Hid (floorTo r.wishes x (m + 1) = floorTo r.wishes x m) := hideA (by rw [hfs.out,if_neg he])
         have he := hideA he
         by_cases h0 : y.e.client = x.client
         ·rw [h0] at w0
          by_cases h1 : y.e.seq = x.seq
          ·rw [h1] at w1
           by_cases h2 : y.e.kind = x.kind
           ·rw [h2] at w2
            by_cases h3 : y.e.key = x.key
            ·rw [h3] at w3
             by_cases h4 : y.e.value = x.value
             ·exact absurd (ent_ext h0 h1 h2 h3 h4) he.out
             ·have hd : (y.e.value == x.value) = false := by simpa using h4
              go_wp2_with fail
              go_quiet (fail)
              go_wp2_with fail
              exact ⟨⟨m + 1,_,by omega,by go_num,by rw [H.out],rfl⟩,by simp [intOf]; omega⟩
            ·have hd : (y.e.key == x.key) = false := by simpa using h3
             go_wp2_with fail
             go_quiet (fail)
             go_wp2_with fail
             exact ⟨⟨m + 1,_,by omega,by go_num,by rw [H.out],rfl⟩,by simp [intOf]; omega⟩
           ·have hd : (y.e.kind == x.kind) = false := by simpa using h2
            go_wp2_with fail
            go_quiet (fail)
            go_wp2_with fail
            exact ⟨⟨m + 1,_,by omega,by go_num,by rw [H.out],rfl⟩,by simp [intOf]; omega⟩
          ·have hd : (y.e.seq == x.seq) = false := by simpa using h1
           go_wp2_with fail
           go_quiet (fail)
           go_wp2_with fail
           exact ⟨⟨m + 1,_,by omega,by go_num,by rw [H.out],rfl⟩,by simp [intOf]; omega⟩
         ·have hd : (y.e.client == x.client) = false := by simpa using h0
          go_wp2_with fail
          go_quiet (fail)
          go_wp2_with fail
          exact ⟨⟨m + 1,_,by omega,by go_num,by rw [H.out],rfl⟩,by simp [intOf]; omega⟩
       ·obtain rfl : m = r.wishes.length := by omega
        rw [HX.out]
        generalize hfo : floorOf r.wishes x = fo at *
        have n1 : decide ((P : Int) < 0) = false := decide_eq_false (by omega)
        have n2 : (fo == -2) = false := by simpa using s2
        have n3 : decide ((P : Int) ≤ fo) = false := decide_eq_false (by omega)
        have hPl1 : (P : Int) < (r.fixed.length : Int) := by omega
        rw [hval.out] at e2
        have HV2 := hideA (fun q => HV (W.drewN q) (by trivial) (by exact d3) (by exact FixAt.row HF.out) hPl hfl)
        generalize valueAt r.fixed P = vv at *
        clear HV hfo HB s2 s3
        by_cases hzP : z < (P : Int)
        ·have H : Hid (t1 = (P : Int)) := hideA (by rw [s5,if_pos hzP])
         clear s5
         go_wp2_with fail
         go_quiet ((go_at_call 113; refine (HV2.out _).mono ?_; rintro e w9 ⟨rfl,q9,rfl⟩; exact ⟨rfl,_,drewN_more _ _ _ _⟩))
         go_wp2_with fail
         go_roundw
         case rel => exact ⟨k + 1,_,(P : Int),by omega,by go_num,rfl,rfl,hideA (by rw [← H.out]; exact HZ.out)⟩
         case measure => simp [intOf]; omega
        ·have H : Hid (t1 = z) := hideA (by rw [s5,if_neg hzP])
         have hzd : decide (z < (P : Int)) = false := decide_eq_false hzP
         clear s5
         go_wp2_with fail
         go_quiet ((go_at_call 113; refine (HV2.out _).mono ?_; rintro e w9 ⟨rfl,q9,rfl⟩; exact ⟨rfl,_,drewN_more _ _ _ _⟩))
         go_wp2_with fail
         go_roundw
         case rel => exact ⟨k + 1,_,z,by omega,by go_num,rfl,rfl,hideA (by rw [← H.out]; exact HZ.out)⟩
         case measure => simp [intOf]; omega
  ·obtain rfl : k = r.x.told.length := by omega
   have hzt : z = t := by
    have := hz.out
    rw [List.drop_length] at this
    unfold hearAll at this
    injection this
   subst hzt
   go_wp2_with fail
   go_end0
   exact ⟨rfl,W.drewN d,below_drewN hb _,rfl⟩
def Ans.nums (a : Ans) : List Int := [a.client,a.seq,a.value]
def ansNums (l : List Ans) : List Int := l.flatMap Ans.nums
def Ent.val (e : Ent) : Value := .agg #[.int .i64 e.client, .int .i64 e.seq, .int .i64 e.kind, .int .i64 e.key, .int .i64 e.value]
theorem ansNums_length (l : List Ans) : (ansNums l).length = l.length * 3 := by
 unfold ansNums
 induction l with
 | nil => rfl
 | cons a t ih => rw [List.flatMap_cons,List.length_append,ih]; simp [Ans.nums]; omega
theorem ansNums_at (l : List Ans) (i j : Nat) (x : Ans) (hx : l[i]? = some x) (hj : j < 3) : (ansNums l)[i * 3 + j]? = x.nums[j]? := by
 induction l generalizing i with
 | nil => simp at hx
 | cons a t ih =>
  have e : ansNums (a :: t) = a.nums ++ ansNums t := by simp [ansNums]
  have hl : a.nums.length = 3 := rfl
  rw [e]
  cases i with
  | zero =>
   rw [List.getElem?_append_left (by omega)]
   simp at hx
   subst hx
   simp
  | succ i =>
   rw [List.getElem?_append_right (by omega),hl,show (i + 1) * 3 + j - 3 = i * 3 + j by omega,ih i (by simpa using hx)]
def CellsAt (w : World) (v : Value) (n : Nat) (xs : List Value) : Prop :=
 ∃ a c,v = .slice a n c ∧ (∀ j u,xs[j]? = some u → ∃ x,a = some x ∧ w.cell? (x.add j) = some u)
theorem IntsAt.cells {w : World} {v : Value} {l : List Int} (h : IntsAt w v l) : CellsAt w v l.length (ints l) := by
 obtain ⟨a,c,rfl,hc⟩ := h
 refine ⟨a,c,rfl,fun j u hj => ?_⟩
 have hjl : j < l.length := by
  have := (List.getElem?_eq_some_iff.1 hj).1
  rwa [ints_length] at this
 obtain ⟨b,off,rfl,hb⟩ := hc j hjl
 refine ⟨_,rfl, ?_⟩
 rw [show (⟨b,off,none⟩ : Addr).add j = ⟨b,off + j,none⟩ by unfold Addr.add; simp]
 rw [hb]
 simp [ints,List.getElem?_eq_getElem hjl] at hj
 simp [List.getD,List.getElem?_eq_getElem hjl,hj]
theorem CellsAt.of_owns {w : World} {base size n : Nat} {e : TypeId} {v : Value} {xs : List Value} (h : w.ownsRow base e size v n xs) : CellsAt w v n xs := by
 rcases h.2 with ⟨rfl,rfl⟩ | ⟨g,cap,cur,rfl,hb,hg,hn,hm,hs,ht⟩
 ·refine ⟨_,_,rfl,fun j u hj => ?_⟩
  have h0 := h.1
  have := (List.getElem?_eq_some_iff.1 hj).1
  omega
 ·exact ⟨_,_,rfl,fun j u hj => ⟨_,rfl,h.cells rfl j u hj⟩⟩
theorem infoStr : (Tryz.prog.info? 9).map (fun i => (i.zero,i.size,i.bytes)) = some (some (.string ⟨#[]⟩),1,16) := by kernel_rfl
theorem infoAns : (Tryz.prog.info? 113).map (fun i => (i.zero,i.size,i.bytes)) = some (some (.agg #[.int .i64 0, .int .i64 0, .int .i64 0]),3,24) := by kernel_rfl
theorem below_grown_new {w w' : World} {o : Obj} (hg : (w.alloc o).grownBy w' (Value.ownBlock (.slice (some ⟨w.heap.size,0,none⟩) 0 0))) : Below w.heap.size w w' :=
 ((Below.refl w.heap.size w).alloc (Nat.le_refl _) o).grown hg (by simp) (fun k hk => by simp [Value.ownBlock] at hk; omega)
theorem eqNil_ints (w : World) (a : Option Addr) (n c : Nat) : (binOp .eql 29 (.slice a n c) (.slice none 0 0)).run Tryz.prog w = .ok (.bool a.isNone) w := by
 unfold binOp
 simp [run_equal_slice_nil w _ _ a n c Tryz.underlying29]
set_option maxRecDepth 100000 in
set_option maxHeartbeats 1000000 in
theorem clone_ints (v : Value) (n : Nat) (xs : List Value) (w : World) (hv : CellsAt w v n xs) (hx : xs.length = n * 1) (h1 : ∀ u ∈ xs,u.oneCell' = true) (hl : n ≤ 3000000000000) :
  Calls Tryz.prog 69 #[v] w fun e w' => ∃ v',e = .returned v' ∧ w'.ownsRow w.heap.size 3 1 v' n xs ∧ Below w.heap.size w w' := by
 obtain ⟨a,c,rfl,hc⟩ := hv
 have Hc := hideA hc
 have hE := fun w => eqNil_ints w a n c
 have H1 := hideA h1
 clear hc h1
 cases a with
 | none =>
  obtain rfl : xs = [] := by
   cases xs with
   | nil => rfl
   | cons u t => obtain ⟨x,hx,_⟩ := Hc.out 0 u rfl; cases hx
  obtain rfl : n = 0 := by simp at hx; omega
  go_enter Tryz.func69,Tryz.ntmps69
  go_wp2_with fail
  go_ret
  exact ⟨_,rfl,World.ownsRow_nil _ _ _ _,Below.refl _ _⟩
 | some ad =>
  obtain ⟨i0,hi,hz0,hz1,hz2⟩ := info_parts infoInt
  go_enter Tryz.func69,Tryz.ntmps69
  go_wp2_with (at_builtin; refine wpList_append_own _ rfl _ _ 29 rfl w.heap.size 3 i0 _ 1 8 Tryz.underlying29 hi hz0 hz1 hz2 rfl (by decide) (.slice (some ⟨w.heap.size,0,none⟩) 0 0) 0 [] rfl (World.ownsRow_made w #[] 0 (Nat.le_refl _) (by unfold maxLen; omega) rfl) ad n c xs rfl hx (fun j u hj => by obtain ⟨x,e,hc⟩ := Hc.out j u hj; cases e; exact cell_later ((Below.refl _ w).alloc (Nat.le_refl _) _) hc) H1.out (by unfold maxLen; omega) (by omega) (by simp) ?_)
  intro v' w' ho hg _
  go_wp2_with fail
  go_ret
  exact ⟨_,rfl,by simpa using ho,below_grown_new hg⟩
theorem eqNil_ents (w : World) (a : Option Addr) (n c : Nat) : (binOp .eql 44 (.slice a n c) (.slice none 0 0)).run Tryz.prog w = .ok (.bool a.isNone) w := by
 unfold binOp
 simp [run_equal_slice_nil w _ _ a n c Tryz.underlying44]
set_option maxRecDepth 100000 in
set_option maxHeartbeats 1000000 in
theorem clone_ents (v : Value) (n : Nat) (xs : List Value) (w : World) (hv : CellsAt w v n xs) (hx : xs.length = n * 5) (h1 : ∀ u ∈ xs,u.oneCell' = true) (hl : n ≤ 3000000000000) :
  Calls Tryz.prog 147 #[v] w fun e w' => ∃ v',e = .returned v' ∧ w'.ownsRow w.heap.size 42 5 v' n xs ∧ Below w.heap.size w w' := by
 obtain ⟨a,c,rfl,hc⟩ := hv
 have Hc := hideA hc
 have hE := fun w => eqNil_ents w a n c
 have H1 := hideA h1
 clear hc h1
 cases a with
 | none =>
  obtain rfl : xs = [] := by
   cases xs with
   | nil => rfl
   | cons u t => obtain ⟨x,hx,_⟩ := Hc.out 0 u rfl; cases hx
  obtain rfl : n = 0 := by simp at hx; omega
  go_enter Tryz.func147,Tryz.ntmps147
  go_wp2_with fail
  go_ret
  exact ⟨_,rfl,World.ownsRow_nil _ _ _ _,Below.refl _ _⟩
 | some ad =>
  obtain ⟨i0,hi,hz0,hz1,hz2⟩ := info_parts infoEnt
  go_enter Tryz.func147,Tryz.ntmps147
  go_wp2_with (at_builtin; refine wpList_append_own _ rfl _ _ 44 rfl w.heap.size 42 i0 _ 5 40 Tryz.underlying44 hi hz0 hz1 hz2 rfl (by decide) (.slice (some ⟨w.heap.size,0,none⟩) 0 0) 0 [] rfl (World.ownsRow_made w #[] 0 (Nat.le_refl _) (by unfold maxLen; omega) rfl) ad n c xs rfl hx (fun j u hj => by obtain ⟨x,e,hc⟩ := Hc.out j u hj; cases e; exact cell_later ((Below.refl _ w).alloc (Nat.le_refl _) _) hc) H1.out (by unfold maxLen; omega) (by omega) (by simp) ?_)
  intro v' w' ho hg _
  go_wp2_with fail
  go_ret
  exact ⟨_,rfl,by simpa using ho,below_grown_new hg⟩
theorem eqNil_anss (w : World) (a : Option Addr) (n c : Nat) : (binOp .eql 91 (.slice a n c) (.slice none 0 0)).run Tryz.prog w = .ok (.bool a.isNone) w := by
 unfold binOp
 simp [run_equal_slice_nil w _ _ a n c Tryz.underlying91]
set_option maxRecDepth 100000 in
set_option maxHeartbeats 1000000 in
theorem clone_anss (v : Value) (n : Nat) (xs : List Value) (w : World) (hv : CellsAt w v n xs) (hx : xs.length = n * 3) (h1 : ∀ u ∈ xs,u.oneCell' = true) (hl : n ≤ 3000000000000) :
  Calls Tryz.prog 146 #[v] w fun e w' => ∃ v',e = .returned v' ∧ w'.ownsRow w.heap.size 113 3 v' n xs ∧ Below w.heap.size w w' := by
 obtain ⟨a,c,rfl,hc⟩ := hv
 have Hc := hideA hc
 have hE := fun w => eqNil_anss w a n c
 have H1 := hideA h1
 clear hc h1
 cases a with
 | none =>
  obtain rfl : xs = [] := by
   cases xs with
   | nil => rfl
   | cons u t => obtain ⟨x,hx,_⟩ := Hc.out 0 u rfl; cases hx
  obtain rfl : n = 0 := by simp at hx; omega
  go_enter Tryz.func146,Tryz.ntmps146
  go_wp2_with fail
  go_ret
  exact ⟨_,rfl,World.ownsRow_nil _ _ _ _,Below.refl _ _⟩
 | some ad =>
  obtain ⟨i0,hi,hz0,hz1,hz2⟩ := info_parts infoAns
  go_enter Tryz.func146,Tryz.ntmps146
  go_wp2_with (at_builtin; refine wpList_append_own _ rfl _ _ 91 rfl w.heap.size 113 i0 _ 3 24 Tryz.underlying91 hi hz0 hz1 hz2 rfl (by decide) (.slice (some ⟨w.heap.size,0,none⟩) 0 0) 0 [] rfl (World.ownsRow_made w #[] 0 (Nat.le_refl _) (by unfold maxLen; omega) rfl) ad n c xs rfl hx (fun j u hj => by obtain ⟨x,e,hc⟩ := Hc.out j u hj; cases e; exact cell_later ((Below.refl _ w).alloc (Nat.le_refl _) _) hc) H1.out (by unfold maxLen; omega) (by omega) (by simp) ?_)
  intro v' w' ho hg _
  go_wp2_with fail
  go_ret
  exact ⟨_,rfl,by simpa using ho,below_grown_new hg⟩
def idxI (l : List Int) (x : Int) : Int := if x ∈ l then (l.idxOf x : Int) else -1
theorem idx_take (l : List Int) (x : Int) (k : Nat) (hk : k < l.length) (hn : x ∉ l.take k) (he : l.getD k 0 = x) : idxI l x = k := by
 have hm : x ∈ l := by
  rw [← he,List.getD,List.getElem?_eq_getElem hk]
  exact List.getElem_mem hk
 unfold idxI
 rw [if_pos hm]
 have e : l = l.take k ++ l.getD k 0 :: l.drop (k + 1) := by
  rw [show l.getD k 0 = l[k] by simp [List.getD,List.getElem?_eq_getElem hk]]
  simp
 rw [e,List.idxOf_append,if_neg hn,he]
 simp
 omega
theorem idx_none (l : List Int) (x : Int) (hn : x ∉ l) : idxI l x = -1 := by unfold idxI; rw [if_neg hn]
theorem idxI_range (l : List Int) (x : Int) : -1 ≤ idxI l x ∧ idxI l x < l.length := by
 unfold idxI
 split
 ·rename_i h
  have := List.idxOf_lt_length_of_mem h
  omega
 ·omega
set_option maxRecDepth 100000 in
set_option maxHeartbeats 1000000 in
theorem index_ints (v : Value) (l : List Int) (x : Int) (w : World) (hv : IntsAt w v l) (hl : l.length ≤ 1000000) :
  Calls Tryz.prog 152 #[v, .int .i64 x] w fun e w' => e = .returned (.int .i64 (idxI l x)) ∧ w' = w := by
 obtain ⟨a,c,rfl,hc⟩ := hv
 have Hc := hideA hc
 clear hc
 go_enter Tryz.func152,Tryz.ntmps152
 go_wp2_with fail
 go_loopw [8] (fun i wr => ∃ k : Nat,k ≤ l.length ∧ i = .int .i64 k ∧ wr = w ∧ x ∉ l.take k) (fun i _ => l.length - (intOf i).toNat)
 case atStart => exact ⟨0,Nat.zero_le _,rfl,rfl,by simp⟩
 case round =>
  obtain ⟨k,hk,rfl,rfl,hn⟩ := hrel
  by_cases hlt : k < l.length
  ·obtain ⟨b,off,rfl,ck⟩ := Hc.out k hlt
   have hk1 : (k : Int) < (l.length : Int) := by omega
   have ht : Hid (l.take (k + 1) = l.take k ++ [l.getD k 0]) := take_snoc_ints l k hlt
   have hf := hideA (idx_take l x k hlt hn)
   generalize l.getD k 0 = y at *
   by_cases hxy : x = y
   ·have H : Hid (idxI l x = k) := hideA (hf.out hxy.symm)
    subst hxy
    go_wp2_with fail
    go_ret
    exact ⟨by rw [H.out]; rfl,rfl⟩
   ·have hxd : (x == y) = false := by simp [hxy]
    go_wp2_with fail
    go_roundw
    case rel => exact ⟨k + 1,by omega,by go_num,by trivial,by rw [ht.out]; simp [hn,hxy]⟩
    case measure => simp [intOf]; omega
  ·obtain rfl : k = l.length := by omega
   have H : Hid (idxI l x = -1) := hideA (idx_none l x (by rwa [List.take_length] at hn))
   go_wp2_with fail
   go_ret
   exact ⟨by rw [H.out]; rfl,rfl⟩
set_option maxRecDepth 100000 in
set_option maxHeartbeats 1000000 in
theorem contains_ints (v : Value) (l : List Int) (x : Int) (w : World) (hv : IntsAt w v l) (hl : l.length ≤ 1000000) :
  Calls Tryz.prog 121 #[v, .int .i64 x] w fun e w' => e = .returned (.bool (decide (x ∈ l))) ∧ w' = w := by
 have hi := index_ints v l x w hv hl
 have hr := idxI_range l x
 have H : Hid (decide (x ∈ l) = decide (0 ≤ idxI l x)) := hideA (by unfold idxI; split <;> simp_all)
 rw [H.out]
 obtain ⟨a,c,rfl,hc⟩ := hv
 clear hc
 generalize idxI l x = k at *
 go_enter Tryz.func121,Tryz.ntmps121
 go_wp2_with fail
 refine hi.mono ?_
 rintro e w1 ⟨rfl,rfl⟩
 go_wp2_with fail
 go_ret
 exact ⟨rfl,rfl⟩
end Go.Proofs.YtgieeeeeiggoeaaGreat
