import Derived.Test.YtgieeeeeiggoeaaGreatQ16
import Derived.Test.YtgieeeeeiggoeaaGreatQ15
import Derived.Deep.AppendLies
import Derived.Deep.RegionLaw
import Derived.Test.YtgieeeeeiggoeaaGreatQ09
import Derived.Lib.SmallJoins
namespace Go.Proofs.YtgieeeeeiggoeaaGreat
open Go.RowKit
theorem slice_to (L : List UInt8) (i : Int) (k : Nat) (hi : i = k) (hk : k ≤ L.length) : ∀ w,(Instr.slice 9 (.string (bs L)) none (some (.int .i64 i)) none).run Tryz.prog w = .ok (.string (bs (L.take k))) w := by
 intro w
 subst hi
 have hs := bs_size L
 have hx := bs_take L k
 have hk' : (k : Int) ≤ (L.length : Int) := by omega
 have h0 : (0 : Int) ≤ k := by omega
 go_simp
theorem slice_from (L : List UInt8) (i : Int) (k : Nat) (hi : i = k) (hk : k ≤ L.length) : ∀ w,(Instr.slice 9 (.string (bs L)) (some (.int .i64 i)) none none).run Tryz.prog w = .ok (.string (bs (L.drop k))) w := by
 intro w
 subst hi
 have hs := bs_size L
 have hx := bs_drop L k
 have hk' : (k : Int) ≤ (L.length : Int) := by omega
 have h0 : (0 : Int) ≤ k := by omega
 go_simp
set_option maxHeartbeats 400000 in
set_option maxRecDepth 100000 in
theorem wireDecode_a (L : List UInt8) (w : World) (h : L.length < 21) :
  Calls Tryz.prog 117 #[.string (bs L)] w fun e w' => Below w.heap.size w w' ∧ e = .returned (.tuple #[.agg #[.int .i64 0, .int .i64 0, .int .i64 0, .int .i64 0, .int .i64 0, .int .i64 0, .int .i64 0, .int .i64 0, .slice none 0 0, .slice none 0 0], .int .i64 1]) := by
 have hs := bs_size L
 go_enter Tryz.func117,Tryz.ntmps117
 go_wp2_with fail
 exact bodyPost_ret (v := .tuple #[.agg #[.int .i64 0, .int .i64 0, .int .i64 0, .int .i64 0, .int .i64 0, .int .i64 0, .int .i64 0, .int .i64 0, .slice none 0 0, .slice none 0 0], .int .i64 1]) (by simp [results,Tryz.results117,go_sem]) rfl ⟨(Below.refl _ _).alloc (Nat.le_refl _) _,rfl⟩
theorem owns_base {w : World} {base base' size n : Nat} {e : TypeId} {v : Value} {xs : List Value} (h : w.ownsRow base e size v n xs) (hb : base' ≤ base) : w.ownsRow base' e size v n xs := by
 refine ⟨h.1, ?_⟩
 rcases h.2 with h0 | ⟨g,cap,cur,hv,hg,rest⟩
 ·exact .inl h0
 ·exact .inr ⟨g,cap,cur,hv,Nat.le_trans hb hg,rest⟩
theorem owns_shape {w : World} {base size n : Nat} {e : TypeId} {v : Value} {xs : List Value} (h : w.ownsRow base e size v n xs) : ∃ a cap,v = .slice a n cap := by
 rcases h.2 with ⟨h1,h0⟩ | ⟨g,cap,_,hv,_⟩
 ·exact ⟨none,0,by rw [h1,h0]⟩
 ·exact ⟨_,cap,hv⟩
def WDecPost (T : List UInt8) (w : World) (e : Ending) (w' : World) : Prop :=
 (decOk T = true ∧ ∃ mem log,w'.ownsRow (w.heap.size + 1) 3 1 mem (pMems T).length (ints (pMems T)) ∧ w'.ownsRow (w.heap.size + 1) 42 5 log (pEnts T).length (ints (entsNums (pEnts T))) ∧
  e = .returned (.tuple #[.agg #[.int .i64 (pKind T), .int .i64 (numAt T 1), .int .i64 (numAt T 3), .int .i64 (numAt T 5), .int .i64 (numAt T 7), .int .i64 (numAt T 9), .int .i64 (numAt T 11), .int .i64 (numAt T 13),mem,log], .int .i64 0])) ∨
 (decOk T = false ∧ e = .returned (.tuple #[.agg #[.int .i64 0, .int .i64 0, .int .i64 0, .int .i64 0, .int .i64 0, .int .i64 0, .int .i64 0, .int .i64 0, .slice none 0 0, .slice none 0 0], .int .i64 1]))
set_option maxHeartbeats 1000000 in
set_option maxRecDepth 100000 in
theorem wireDecode_b (L T : List UInt8) (w : World) (h : 21 ≤ L.length) (hm : L.length ≤ 140737488355328) (hT : T = L.take (L.length - 4)) (hno : L.drop (L.length - 4) ≠ sumOf T) :
  Calls Tryz.prog 117 #[.string (bs L)] w fun e w' => Below w.heap.size w w' ∧ e = .returned (.tuple #[.agg #[.int .i64 0, .int .i64 0, .int .i64 0, .int .i64 0, .int .i64 0, .int .i64 0, .int .i64 0, .int .i64 0, .slice none 0 0, .slice none 0 0], .int .i64 2]) := by
 have hs := bs_size L
 have hx := slice_to L ((L.length : Int) - 4) (L.length - 4) (by omega) (by omega)
 rw [← hT] at hx
 have hy := slice_from L ((L.length : Int) - 4) (L.length - 4) (by omega) (by omega)
 have hw4 : IntKind.i64.wrap ((L.length : Int) - 4) = (L.length : Int) - 4 := by
  rw [show ((L.length : Int) - 4) = ((L.length - 4 : Nat) : Int) by omega]; exact wrap_i64_nat _ (by omega)
 have hTl : T.length ≤ 140737488355328 := by rw [hT,List.length_take]; omega
 clear hT
 obtain ⟨W,hW,hb0,hsz,q,fz⟩ := boxed w #[.int .i64 0, .int .i64 0, .int .i64 0, .int .i64 0, .int .i64 0, .int .i64 0, .int .i64 0, .int .i64 0, .slice none 0 0, .slice none 0 0] 134
 go_enter Tryz.func117,Tryz.ntmps117
 go_wp2_with fail
 clear hW
 go_region_held3 (fun _ => True) (trivial) (fail)
 go_wp2_with fail
 refine (sumBytes_any (bs T) _ (by rw [bs_size]; unfold maxLen; omega)).mono ?_
 rintro e w5 ⟨rfl,hb5⟩
 rw [bs_list]
 have hb5' : Below W.heap.size W w5 := (Below.refl W.heap.size W).drew.trans (by exact hb5)
 obtain ⟨q',fz'⟩ := boxed_later hb5' hsz q fz
 have hbw := hb0.trans (hb5'.mono hb0.size)
 have hne : ((bs (L.drop (L.length - 4))).toList == (bs (sumOf T)).toList) = false := by rw [eq_bs]; exact decide_eq_false hno
 clear q fz hsz hx hy
 go_wp2_with fail
 refine bodyPost_ret (v := .tuple #[.agg #[.int .i64 0, .int .i64 0, .int .i64 0, .int .i64 0, .int .i64 0, .int .i64 0, .int .i64 0, .int .i64 0, .slice none 0 0, .slice none 0 0], .int .i64 2]) (by simp [results,Tryz.results117,go_sem,q']) rfl ⟨?_,rfl⟩
 iterate 10 refine Below.setCell ?_ (by exact Nat.le_refl _) _
 exact hbw
set_option maxHeartbeats 1000000 in
set_option maxRecDepth 100000 in
theorem wireDecode_c (L T : List UInt8) (w : World) (h : 21 ≤ L.length) (hm : L.length ≤ 140737488355328) (hT : T = L.take (L.length - 4)) (hyes : L.drop (L.length - 4) = sumOf T) :
  Calls Tryz.prog 117 #[.string (bs L)] w fun e w' => Below w.heap.size w w' ∧ WDecPost T w e w' := by
 have hs := bs_size L
 have hx := slice_to L ((L.length : Int) - 4) (L.length - 4) (by omega) (by omega)
 rw [← hT] at hx
 have hy := slice_from L ((L.length : Int) - 4) (L.length - 4) (by omega) (by omega)
 have hw4 : IntKind.i64.wrap ((L.length : Int) - 4) = (L.length : Int) - 4 := by
  rw [show ((L.length : Int) - 4) = ((L.length - 4 : Nat) : Int) by omega]; exact wrap_i64_nat _ (by omega)
 have hTl : T.length ≤ 140737488355328 := by rw [hT,List.length_take]; omega
 have hT17 : 17 ≤ T.length := by rw [hT,List.length_take]; omega
 clear hT
 obtain ⟨W,hW,hb0,hsz,q,fz⟩ := boxed w #[.int .i64 0, .int .i64 0, .int .i64 0, .int .i64 0, .int .i64 0, .int .i64 0, .int .i64 0, .int .i64 0, .slice none 0 0, .slice none 0 0] 134
 go_enter Tryz.func117,Tryz.ntmps117
 go_wp2_with fail
 clear hW
 go_region_held3 (fun _ => True) (trivial) (fail)
 go_wp2_with fail
 refine (sumBytes_any (bs T) _ (by rw [bs_size]; unfold maxLen; omega)).mono ?_
 rintro e w5 ⟨rfl,hb5⟩
 rw [bs_list]
 have hb5' : Below W.heap.size W w5 := (Below.refl W.heap.size W).drew.trans (by exact hb5)
 obtain ⟨q',fz'⟩ := boxed_later hb5' hsz q fz
 have hbw := hb0.trans (hb5'.mono hb0.size)
 have hne : ((bs (L.drop (L.length - 4))).toList == (bs (sumOf T)).toList) = true := by rw [eq_bs]; exact decide_eq_true hyes
 have i0 := index_bs T 0 0 rfl (by omega)
 have hb256 := byteAt_lt T 0
 have hwT : w.heap.size < w5.heap.size := by have := hb5'.size; omega
 clear q fz hsz hx hy hw4
 go_wp2_with fail
 refine (measure_any T _ hT17 hTl).mono ?_
 rintro e w6 ⟨rfl,rfl⟩
 by_cases hok : decOk T = true
 ·obtain ⟨hk,hm5,hm24,hlen,hmeas⟩ := decOk_parts hok
  have hm3 : (measOf T).2.2 = true := by rw [hmeas]
  have hHk : Hid (measOf T = (byteAt T 15,byteAt T (16 + 2 * byteAt T 15),true)) := hmeas
  rw [hmeas]
  have HKK : Hid (kindOk (byteAt T 0 : Nat) = true) := hk
  have hok' : Hid (decOk T = true) := hok
  clear hmeas hm3 hk hok
  have HE : Hid (pEnts T = entsFrom T (17 + 2 * byteAt T 15) (byteAt T (16 + 2 * byteAt T 15))) := rfl
  have HM : Hid (pMems T = numsFrom T 16 (byteAt T 15)) := rfl
  go_wp2_with fail
  refine (isKind_any _ _).mono ?_
  rintro e w7 ⟨rfl,rfl⟩
  rw [HKK.out]
  go_wp2_with fail
  refine (readBody_any T _ _ _ hm5 hm24 hlen).mono ?_
  rintro e w8 ⟨hb8,mem,log,rfl,om,ol⟩
  have r1 : ∀ j,w8.cell? ⟨w.heap.size,j,none⟩ = #[.int .i64 0, .int .i64 0, .int .i64 0, .int .i64 0, .int .i64 0, .int .i64 0, .int .i64 0, .int .i64 0, .slice none 0 0, .slice none 0 0][j]? := fun j => (hb8.cell (p := ⟨w.heap.size,j,none⟩) hwT).trans (q' j)
  have r2 : ∀ j,w8.frozen? ⟨w.heap.size,j,none⟩ = false := fun j => (hb8.frozen (p := ⟨w.heap.size,j,none⟩) hwT).trans (fz' j)
  have hbw8 := hbw.trans (hb8.mono hbw.size)
  obtain ⟨am,cm,hvm⟩ := owns_shape om
  obtain ⟨al,cl,hvl⟩ := owns_shape ol
  rw [hvm,hvl]
  have Hvm : Hid (mem = .slice am (byteAt T 15) cm) := hvm
  have Hvl : Hid (log = .slice al (byteAt T (16 + 2 * byteAt T 15)) cl) := hvl
  clear hvm hvl i0 q' fz'
  go_wp2_with fail
  refine bodyPost_ret (v := .tuple #[.agg #[.int .i64 (pKind T), .int .i64 (numAt T 1), .int .i64 (numAt T 3), .int .i64 (numAt T 5), .int .i64 (numAt T 7), .int .i64 (numAt T 9), .int .i64 (numAt T 11), .int .i64 (numAt T 13),mem,log], .int .i64 0]) (by simp [results,Tryz.results117,go_sem,r1,Hvm.out,Hvl.out]) rfl ⟨?_, .inl ⟨hok'.out,mem,log, ?_, ?_,rfl⟩⟩
  ·iterate 10 refine Below.setCell ?_ (by exact Nat.le_refl _) _
   exact hbw8
  ·iterate 10 refine ownsRow_setCell_below ?_ (by exact Nat.lt_succ_self _) _
   rw [HM.out,numsFrom_length]
   exact owns_base om (by omega)
  ·iterate 10 refine ownsRow_setCell_below ?_ (by exact Nat.lt_succ_self _) _
   rw [HE.out,entsFrom_length]
   exact owns_base ol (by omega)
 ·have hfin : ∀ w',WDecPost T w (.returned (.tuple #[.agg #[.int .i64 0, .int .i64 0, .int .i64 0, .int .i64 0, .int .i64 0, .int .i64 0, .int .i64 0, .int .i64 0, .slice none 0 0, .slice none 0 0], .int .i64 1])) w' := fun w' => .inr ⟨by simpa using hok,rfl⟩
  cases hm : (measOf T).2.2 with
  | false =>
   go_wp2_with fail
   refine bodyPost_ret (v := .tuple #[.agg #[.int .i64 0, .int .i64 0, .int .i64 0, .int .i64 0, .int .i64 0, .int .i64 0, .int .i64 0, .int .i64 0, .slice none 0 0, .slice none 0 0], .int .i64 1]) (by simp [results,Tryz.results117,go_sem,q']) rfl ⟨?_,hfin _⟩
   iterate 10 refine Below.setCell ?_ (by exact Nat.le_refl _) _
   exact hbw
  | true =>
   have hk : Hid (kindOk (byteAt T 0 : Nat) = false) := decOk_kind hok hm
   go_wp2_with fail
   refine (isKind_any _ _).mono ?_
   rintro e w7 ⟨rfl,rfl⟩
   rw [hk.out]
   go_wp2_with fail
   refine bodyPost_ret (v := .tuple #[.agg #[.int .i64 0, .int .i64 0, .int .i64 0, .int .i64 0, .int .i64 0, .int .i64 0, .int .i64 0, .int .i64 0, .slice none 0 0, .slice none 0 0], .int .i64 1]) (by simp [results,Tryz.results117,go_sem,q']) rfl ⟨?_,hfin _⟩
   iterate 10 refine Below.setCell ?_ (by exact Nat.le_refl _) _
   exact hbw
theorem below_step {wr w1 : World} {o : Obj} {row : Option Nat} {base : Nat} (hs : base ≤ wr.heap.size) (hg : (wr.alloc o).grownBy w1 row) (hr : ∀ k,row = some k → base ≤ k) : Below base wr w1 :=
 ((Below.refl base wr).alloc hs o).grown hg (by simp; omega) hr
def FixRow (w : World) (b : Nat) (fixed : List Fix) : Prop := ∀ i,i < fixed.length →
 w.cell? ⟨b,i * 6,none⟩ = some (.int .i64 (fixed.getD i Fix.zero).e.client) ∧ w.cell? ⟨b,i * 6 + 1,none⟩ = some (.int .i64 (fixed.getD i Fix.zero).e.seq) ∧
 w.cell? ⟨b,i * 6 + 2,none⟩ = some (.int .i64 (fixed.getD i Fix.zero).e.kind) ∧ w.cell? ⟨b,i * 6 + 3,none⟩ = some (.int .i64 (fixed.getD i Fix.zero).e.key) ∧
 w.cell? ⟨b,i * 6 + 4,none⟩ = some (.int .i64 (fixed.getD i Fix.zero).e.value) ∧ w.cell? ⟨b,i * 6 + 5,none⟩ = some (.int .i64 (fixed.getD i Fix.zero).epoch)
def FixAt (w : World) (a : Option Addr) (fixed : List Fix) : Prop := ∀ i,i < fixed.length → ∃ b,a = some ⟨b,0,none⟩ ∧
 w.cell? ⟨b,i * 6,none⟩ = some (.int .i64 (fixed.getD i Fix.zero).e.client) ∧ w.cell? ⟨b,i * 6 + 1,none⟩ = some (.int .i64 (fixed.getD i Fix.zero).e.seq) ∧
 w.cell? ⟨b,i * 6 + 2,none⟩ = some (.int .i64 (fixed.getD i Fix.zero).e.kind) ∧ w.cell? ⟨b,i * 6 + 3,none⟩ = some (.int .i64 (fixed.getD i Fix.zero).e.key) ∧
 w.cell? ⟨b,i * 6 + 4,none⟩ = some (.int .i64 (fixed.getD i Fix.zero).e.value) ∧ w.cell? ⟨b,i * 6 + 5,none⟩ = some (.int .i64 (fixed.getD i Fix.zero).epoch)
theorem FixAt.row {w : World} {b : Nat} {fixed : List Fix} (h : FixAt w (some ⟨b,0,none⟩) fixed) : FixRow w b fixed := by
 intro i hi
 obtain ⟨b',e,q⟩ := h i hi
 cases e
 exact q
theorem fixed_e (fixed : List Fix) (i : Nat) (h : i < fixed.length) : (fixed.map Fix.e).getD i Ent.zero = (fixed.getD i Fix.zero).e := by
 rw [List.getD,List.getD,List.getElem?_map,List.getElem?_eq_getElem h]; rfl
def putTo (fixed : List Fix) (key : Int) (k : Nat) : Int := lastPut key ((fixed.map Fix.e).take k)
theorem putTo_succ (fixed : List Fix) (key : Int) (k : Nat) (h : k < fixed.length) : putTo fixed key (k + 1) = if (fixed.getD k Fix.zero).e.kind = 1 ∧ (fixed.getD k Fix.zero).e.key = key then (fixed.getD k Fix.zero).e.value else putTo fixed key k := by
 unfold putTo lastPut
 rw [take_snoc_ents _ _ (by simpa using h),List.foldl_append,fixed_e _ _ h]
 rfl
set_option maxHeartbeats 1000000 in
theorem value_any (p b n c : Nat) (fixed : List Fix) (P : Nat) (w : World) (hn : n = fixed.length) (hc : w.cell? ⟨p,3,none⟩ = some (.slice (some ⟨b,0,none⟩) n c)) (hf : FixRow w b fixed) (hP : P < fixed.length) (hl : fixed.length ≤ 1000) :
  Calls Tryz.prog 113 #[.pointer (some ⟨p,0,none⟩), .int .i64 (P : Int)] w fun e w' => e = .returned (.int .i64 (valueAt fixed P)) ∧ ∃ q,w' = w.drewN q := by
 have HF := hideA hf
 obtain ⟨-, -, -,p3, -⟩ := hf P hP
 have HE : Hid (valueAt fixed P = putTo fixed (fixed.getD P Fix.zero).e.key P) := hideA (by unfold valueAt answerAt putTo; rw [fixed_e _ _ hP])
 generalize (fixed.getD P Fix.zero).e.key = K at *
 subst hn
 clear hf
 go_enter Tryz.func113,Tryz.ntmps113
 go_wp2
 go_loopw [5,6] (fun v i wr => ∃ k q : Nat,k ≤ P ∧ i = .int .i64 k ∧ wr = w.drewN q ∧ v = .int .i64 (putTo fixed K k)) (fun _ i _ => P - (intOf i).toNat)
 case atStart => exact ⟨0,0,Nat.zero_le _,rfl,rfl,rfl⟩
 case round =>
  obtain ⟨k,q,hk,rfl,rfl,rfl⟩ := hrel
  by_cases hlt : k < P
  ·obtain ⟨-, -,c2,c3,c4, -⟩ := HF.out k (by omega)
   have ht := hideA (putTo_succ fixed K k (by omega))
   have hk1 : (k : Int) < (P : Int) := by omega
   have hk2 : k < fixed.length := by omega
   generalize (fixed.getD k Fix.zero).e = x at *
   by_cases h1 : x.kind = 1
   ·by_cases h2 : x.key = K
    ·have H : Hid (putTo fixed K (k + 1) = x.value) := hideA (by rw [ht.out,if_pos ⟨h1,h2⟩])
     rw [h1] at c2
     rw [h2] at c3
     go_wp2
     go_quiet (fail)
     go_wp2
     exact ⟨⟨k + 1,_,by omega,by go_num,rfl,by rw [H.out]⟩,by simp [intOf]; omega⟩
    ·have H : Hid (putTo fixed K (k + 1) = putTo fixed K k) := hideA (by rw [ht.out,if_neg (fun h => h2 h.2)])
     have h2' : (x.key == K) = false := by simp [h2]
     rw [h1] at c2
     go_wp2
     go_quiet (fail)
     go_wp2
     exact ⟨⟨k + 1,_,by omega,by go_num,rfl,by rw [H.out]⟩,by simp [intOf]; omega⟩
   ·have H : Hid (putTo fixed K (k + 1) = putTo fixed K k) := hideA (by rw [ht.out,if_neg (fun h => h1 h.1)])
    have h1' : (x.kind == 1) = false := by simp [h1]
    go_wp2
    go_quiet (fail)
    go_wp2
    exact ⟨⟨k + 1,_,by omega,by go_num,rfl,by rw [H.out]⟩,by simp [intOf]; omega⟩
  ·obtain rfl : k = P := by omega
   go_wp2
   go_ret
   exact ⟨by rw [HE.out]; rfl,_,rfl⟩
theorem holds_at {s : Rep} {fixed : List Fix} {p : Nat} (h : holdsAt s fixed p = true) (hlt : (fixed.getD p Fix.zero).epoch < s.epoch) : p < s.log.length ∧ s.log.getD p Ent.zero = (fixed.getD p Fix.zero).e := by
 unfold holdsAt at h
 rw [decide_eq_true hlt,Bool.true_and,Bool.not_eq_true',Bool.or_eq_false_iff,Bool.not_eq_false',decide_eq_false_iff_not,decide_eq_true_eq] at h
 exact ⟨by omega,h.2⟩
set_option maxHeartbeats 2000000 in
set_option maxRecDepth 100000 in
theorem holds_any (p n c : Nat) (aF : Option Addr) (fixed : List Fix) (s : Rep) (vm vl : Value) (w : World) (hn : n = fixed.length) (hc : w.cell? ⟨p,3,none⟩ = some (.slice aF n c)) (hf : FixAt w aF fixed) (hvl : LogAt w vl s.log)
  (hl : fixed.length ≤ 1000) (hall : ∀ k,k < fixed.length → holdsAt s fixed k = true) :
  Calls Tryz.prog 56 #[.pointer (some ⟨p,0,none⟩), .agg #[.bool s.up, .int .i64 s.epoch, .int .i64 s.lock, .int .i64 (s.commit : Int),vm,vl]] w fun e w' => e = .returned (.tuple #[]) ∧ Below w.heap.size w w' := by
 obtain ⟨al,cl,rfl,hvl⟩ := hvl
 subst hn
 obtain ⟨W,hW,hb0,hsz,q,fz⟩ := boxed w #[.bool s.up, .int .i64 s.epoch, .int .i64 s.lock, .int .i64 (s.commit : Int),vm, .slice al s.log.length cl] 46
 have HF := hideA hf
 have HL := hideA hvl
 have HA := hideA hall
 clear hf hvl hall
 go_enter Tryz.func56,Tryz.ntmps56
 go_wp2_with fail
 have q1 : W.cell? ⟨w.heap.size,1,none⟩ = some (.int .i64 s.epoch) := q 1
 have q5 : W.cell? ⟨w.heap.size,5,none⟩ = some (.slice al s.log.length cl) := q 5
 have hcW := cell_later hb0 hc
 clear hW q fz hc
 go_loopw [4] (fun i wr => ∃ k d : Nat,k ≤ fixed.length ∧ i = .int .i64 k ∧ wr = W.drewN d) (fun i _ => fixed.length - (intOf i).toNat)
 case atStart => exact ⟨0,0,Nat.zero_le _,rfl,rfl⟩
 case round =>
  obtain ⟨k,d,hk,rfl,rfl⟩ := hrel
  by_cases hlt : k < fixed.length
  ·obtain ⟨b,rfl,c0,c1,c2,c3,c4,c5⟩ := HF.out k hlt
   have d0 := cell_later hb0 c0
   have d1 := cell_later hb0 c1
   have d2 := cell_later hb0 c2
   have d3 := cell_later hb0 c3
   have d4 := cell_later hb0 c4
   have d5 := cell_later hb0 c5
   have hh := hideA (HA.out k hlt)
   have hk1 : (k : Int) < (fixed.length : Int) := by omega
   clear c0 c1 c2 c3 c4 c5
   by_cases he : (fixed.getD k Fix.zero).epoch < s.epoch
   ·obtain ⟨g1,g2⟩ := holds_at hh.out he
    obtain ⟨b2,o2,rfl,e0,e1,e2,e3,e4⟩ := HL.out k g1
    have f0 := cell_later hb0 e0
    have f1 := cell_later hb0 e1
    have f2 := cell_later hb0 e2
    have f3 := cell_later hb0 e3
    have f4 := cell_later hb0 e4
    rw [g2] at f0 f1 f2 f3 f4
    have hk2 : (k : Int) < (s.log.length : Int) := by omega
    clear e0 e1 e2 e3 e4 g2 hh
    generalize (fixed.getD k Fix.zero).e = x at *
    generalize (fixed.getD k Fix.zero).epoch = y at *
    go_wp2_with fail
    go_quiet (fail)
    go_wp2_with fail
    exact ⟨⟨k + 1,_,by omega,by go_num,rfl⟩,by simp [intOf]; omega⟩
   ·clear hh
    have he' : decide ((fixed.getD k Fix.zero).epoch < s.epoch) = false := decide_eq_false he
    generalize (fixed.getD k Fix.zero).epoch = y at *
    go_wp2_with fail
    go_quiet (fail)
    go_wp2_with fail
    exact ⟨⟨k + 1,_,by omega,by go_num,rfl⟩,by simp [intOf]; omega⟩
  ·go_wp2_with fail
   go_end0
   exact ⟨rfl,below_drewN hb0 _⟩
theorem drewN_more (W : World) (a x y : Nat) : (W.drewN (a + x)).drewN y = W.drewN (a + (x + y)) := by
 rw [World.drewN_drewN,Nat.add_assoc]
theorem below_store {w W : World} {p j : Nat} {cs : Array Value} {T : TypeId} {v : Value} (hb : Below w.heap.size w W) (hp : W.heap[p]? = some (.cells cs T)) (hv : cs[j]? = some v) : Below w.heap.size w (W.setCell ⟨p,j,none⟩ v) := by
 refine ⟨hb.os,hb.tape,hb.output,by have := hb.size; simp; omega, ?_⟩
 intro k hk
 by_cases hkp : k = p
 ·subst hkp
  have h1 := Joins.block_setCell (i := j) hp v
  rw [h1, ← hb.block k hk,hp]
  congr 2
  obtain ⟨h3,h4⟩ := Array.getElem?_eq_some_iff.1 hv
  apply Array.ext
  ·simp
  ·intro i h5 h6
   rw [Array.getElem_setIfInBounds]
   split
   ·rename_i q; subst q; exact h4.symm
   ·rfl
 ·rw [Below.heap_setCell _ _ _ k hkp]
  exact hb.block k hk
theorem LogAt.take {w : World} {l l' : List Ent} {a : Option Addr} {c : Nat} (h : LogAt w (.slice a l'.length c) l') (hp : l <+: l') : LogAt w (.slice a l.length c) l := by
 obtain ⟨a2,c2,e,h⟩ := h
 cases e
 refine ⟨a,c,rfl, ?_⟩
 intro i hi
 have hlt := hp.length_le
 have e : l.getD i Ent.zero = l'.getD i Ent.zero := by
  rw [List.getD,List.getD,prefix_get hp (List.getElem?_eq_getElem hi),List.getElem?_eq_getElem hi]
 rw [e]
 exact h i (by omega)
set_option maxHeartbeats 2000000 in
set_option maxRecDepth 100000 in
theorem still_any (p : Nat) (cs : Array Value) (a b : Rep) (vm vl vm' : Value) (al' : Option Addr) (cl' : Nat) (hcap : b.log.length ≤ cl') (w : World) (hp : w.heap[p]? = some (.cells cs 40)) (hs : cs[13]? = some (.bool true)) (h : RepRel a b)
  (h1 : IntsAt w vm a.mems) (h2 : IntsAt w vm' b.mems) (h3 : LogAt w vl a.log) (h4 : LogAt w (.slice al' b.log.length cl') b.log) (hm : b.mems.length ≤ 1000) (hl : b.log.length ≤ 1000) :
  Calls Tryz.prog 57 #[.pointer (some ⟨p,0,none⟩), .agg #[.bool a.up, .int .i64 a.epoch, .int .i64 a.lock, .int .i64 (a.commit : Int),vm,vl], .agg #[.bool b.up, .int .i64 b.epoch, .int .i64 b.lock, .int .i64 (b.commit : Int),vm', .slice al' b.log.length cl']] w fun e w' => e = .returned (.tuple #[]) ∧ Below w.heap.size w w' := by
 have hps := (Array.getElem?_eq_some_iff.1 hp).1
 obtain ⟨W1,hW1,hb1,hsz1,r1, -⟩ := boxed w #[.bool a.up, .int .i64 a.epoch, .int .i64 a.lock, .int .i64 (a.commit : Int),vm,vl] 46
 obtain ⟨W,hW,hb2,hsz2,r2, -⟩ := boxed W1 #[.bool b.up, .int .i64 b.epoch, .int .i64 b.lock, .int .i64 (b.commit : Int),vm', .slice al' b.log.length cl'] 46
 have hb : Below w.heap.size w W := hb1.trans (hb2.mono hb1.size)
 have a1 : W.cell? ⟨w.heap.size,1,none⟩ = some (.int .i64 a.epoch) := cell_later hb2 (r1 1)
 have a2 : W.cell? ⟨w.heap.size,2,none⟩ = some (.int .i64 a.lock) := cell_later hb2 (r1 2)
 have a3 : W.cell? ⟨w.heap.size,3,none⟩ = some (.int .i64 (a.commit : Int)) := cell_later hb2 (r1 3)
 have a4 : W.cell? ⟨w.heap.size,4,none⟩ = some vm := cell_later hb2 (r1 4)
 have a5 : W.cell? ⟨w.heap.size,5,none⟩ = some vl := cell_later hb2 (r1 5)
 have b1 : W.cell? ⟨w.heap.size + 1,1,none⟩ = some (.int .i64 b.epoch) := by rw [← hsz1]; exact r2 1
 have b2 : W.cell? ⟨w.heap.size + 1,2,none⟩ = some (.int .i64 b.lock) := by rw [← hsz1]; exact r2 2
 have b3 : W.cell? ⟨w.heap.size + 1,3,none⟩ = some (.int .i64 (b.commit : Int)) := by rw [← hsz1]; exact r2 3
 have b4 : W.cell? ⟨w.heap.size + 1,4,none⟩ = some vm' := by rw [← hsz1]; exact r2 4
 have b5 : W.cell? ⟨w.heap.size + 1,5,none⟩ = some (.slice al' b.log.length cl') := by rw [← hsz1]; exact r2 5
 have hpW : W.heap[p]? = some (.cells cs 40) := (hb.block p hps).trans hp
 have cW : W.cell? ⟨p,13,none⟩ = some (.bool true) := (Joins.cell_of_block hpW 13).trans hs
 have fW : W.frozen? ⟨p,13,none⟩ = false := Joins.unfrozen_of_block hpW 13
 have HpW := hideA hpW
 have g1 := h1.below hb
 have g2 := h2.below hb
 have g3 := h3.below hb
 have g4 := h4.below hb
 have e1 := h.epoch
 have e2 := h.lock
 have x1 : decide (b.epoch < a.epoch) = false := decide_eq_false (by omega)
 have x2 : decide (b.lock < a.lock) = false := decide_eq_false (by omega)
 obtain ⟨al,cl,rfl, -⟩ := h3
 clear r1 r2 hpW hp h1 h2 hb1 hb2 hsz2
 by_cases he : a.epoch = b.epoch
 ·obtain ⟨m1,m2,m3⟩ := h.same he
  have hle := m2.length_le
  have he' : (a.epoch == b.epoch) = true := by simp [he]
  have g5 := g4.take m2
  have hcap2 : a.log.length ≤ cl' := by omega
  have hcap3 : (a.log.length : Int) ≤ (cl' : Int) := by omega
  have x3 : decide (b.log.length < a.log.length) = false := decide_eq_false (by omega)
  rw [← m1] at g2
  rw [← m1] at hm
  have x4 : (a.epoch < a.lock → decide ((a.log.length : Int) < (b.log.length : Int)) = false ∧ decide ((a.commit : Int) < (b.commit : Int)) = false) := fun q => ⟨decide_eq_false (by rw [(m3 q).1]; omega),decide_eq_false (by have := (m3 q).2; omega)⟩
  clear he m1 m2 m3
  have X4 := hideA x4
  clear x4
  have step : ∀ t : Bool,decide (a.epoch < a.lock) = t → (t = true → decide ((a.log.length : Int) < (b.log.length : Int)) = false ∧ decide ((a.commit : Int) < (b.commit : Int)) = false) →
    Calls Tryz.prog 57 #[.pointer (some ⟨p,0,none⟩), .agg #[.bool a.up, .int .i64 a.epoch, .int .i64 a.lock, .int .i64 (a.commit : Int),vm, .slice al a.log.length cl], .agg #[.bool b.up, .int .i64 b.epoch, .int .i64 b.lock, .int .i64 (b.commit : Int),vm', .slice al' b.log.length cl']] w fun e w' => e = .returned (.tuple #[]) ∧ Below w.heap.size w w' := by
   intro t ht hx
   cases t with
   | true =>
    obtain ⟨x5,x6⟩ := hx rfl
    have y1 : (b.log.length : Int) ≤ (a.log.length : Int) := by have := of_decide_eq_false x5; omega
    have y2 : (b.commit : Int) ≤ (a.commit : Int) := by have := of_decide_eq_false x6; omega
    have y3 : b.log.length ≤ a.log.length := by omega
    have y4 : b.commit ≤ a.commit := by omega
    have y5 : a.epoch < a.lock := of_decide_eq_true ht
    clear hx
    go_enter Tryz.func57,Tryz.ntmps57
    go_wp2_with fail
    refine (cordonkeep_sameInts _ _ a.mems _ g1 g2 (by omega)).mono ?_
    rintro e w1 ⟨rfl,q1,rfl⟩
    go_wp2_with fail
    go_quiet ((go_at_call 112; refine (cordonkeep_sameLogs _ _ a.log _ (by exact g3) (by exact g5) (by omega)).mono ?_; rintro e w9 ⟨rfl,q9,rfl⟩; exact ⟨rfl,_,drewN_more _ _ _ _⟩))
    go_wp2_with fail
    go_end0
    exact ⟨rfl,below_store (below_drewN hb _) HpW.out hs⟩
   | false =>
    clear hx
    go_enter Tryz.func57,Tryz.ntmps57
    go_wp2_with fail
    refine (cordonkeep_sameInts _ _ a.mems _ g1 g2 (by omega)).mono ?_
    rintro e w1 ⟨rfl,q1,rfl⟩
    go_wp2_with fail
    go_quiet ((go_at_call 112; refine (cordonkeep_sameLogs _ _ a.log _ (by exact g3) (by exact g5) (by omega)).mono ?_; rintro e w9 ⟨rfl,q9,rfl⟩; exact ⟨rfl,_,drewN_more _ _ _ _⟩))
    go_wp2_with fail
    go_end0
    exact ⟨rfl,below_store (below_drewN hb _) HpW.out hs⟩
  exact step _ rfl (fun q => X4.out (of_decide_eq_true q))
 ·have he' : (a.epoch == b.epoch) = false := by simp [he]
  go_enter Tryz.func57,Tryz.ntmps57
  go_wp2_with fail
  refine bodyPost_ret (results_none rfl _ _ _) rfl ?_
  exact ⟨rfl,hb⟩
end Go.Proofs.YtgieeeeeiggoeaaGreat
