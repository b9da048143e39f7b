import Derived.Test.YtgieeeeeiggoeaaGreatQ01
import Derived.Test.YtgieeeeeiggoeaaGreatProg
import Derived.WalkKit
import Derived.WalkSpells
import Derived.WalkLawsBesides
import Derived.Deep.RegionHeld3
import Derived.Deep.QuietTactic
import Derived.BigQuiet
namespace Go.Proofs.YtgieeeeeiggoeaaGreat
open Go.RowKit
theorem ret_int {k : IntKind} {a b : Int} (h : a = b) : Ending.returned (.int k a) = .returned (.int k b) := by rw [h]
theorem and_one_u32 (c : Nat) (h : c < 4294967296) : bits .and .u32 (c : Int) 1 = ((c % 2 : Nat) : Int) := by
 have := u32_and_nat c 1 h (by omega)
 rw [show ((1 : Int) = ((1 : Nat) : Int)) from rfl,this,Nat.and_one_is_mod]
theorem xor_poly_u32 (c : Nat) (h : c < 4294967296) : bits .xor .u32 (c : Int) 3988292384 = ((c ^^^ 3988292384 : Nat) : Int) := by
 have := u32_xor_nat c 3988292384 h (by omega)
 exact this
theorem wrap_i64_nat (n : Nat) (h : n < 9223372036854775808) : IntKind.i64.wrap (n : Int) = (n : Int) := by
 have e : IntKind.i64.wrap (n : Int) = if (true && decide ((n : Int) % 18446744073709551616 ≥ 9223372036854775808)) = true then (n : Int) % 18446744073709551616 - 18446744073709551616 else (n : Int) % 18446744073709551616 := rfl
 rw [e]
 have : ((n : Int) % 18446744073709551616) = n := by omega
 simp only [this]
 rw [if_neg]
 simp only [Bool.true_and,decide_eq_true_eq]
 omega
set_option maxHeartbeats 400000 in
theorem shift_any (c : Nat) (w : World) (h1 : c < 4294967296) :
  Calls Tryz.prog 182 #[.int .u32 (c : Int)] w fun e w' => e = .returned (.int .u32 (crcBit c : Nat)) ∧ w' = w := by
 have ha := and_one_u32 c h1
 have hx := xor_poly_u32 (c / 2) (by omega)
 have hx' : bits .xor .u32 ((c : Int) / 2) 3988292384 = ((c / 2 ^^^ 3988292384 : Nat) : Int) := by rw [← hx]; rfl
 have H1 : Hid (bits .and .u32 (c : Int) 1 = ((c % 2 : Nat) : Int)) := ha
 have H2 : Hid (bits .xor .u32 ((c : Int) / 2) 3988292384 = ((c / 2 ^^^ 3988292384 : Nat) : Int)) := hx'
 clear ha hx hx'
 go_enter Tryz.func182,Tryz.ntmps182
 go_wp2
 ·go_ret
  refine ⟨ret_int ?_,rfl⟩
  rename_i h
  rw [H1.out] at h
  have hc : c % 2 = 1 := by simp at h; omega
  rw [H2.out]; unfold crcBit; rw [if_pos hc]
 ·go_ret
  refine ⟨ret_int ?_,rfl⟩
  rename_i h
  rw [H1.out] at h
  have hc : ¬ c % 2 = 1 := by simp at h; omega
  unfold crcBit; rw [if_neg hc]; rfl
theorem xor_byte_u32 (c : Nat) (b : UInt8) (h : c < 4294967296) : bits .xor .u32 (c : Int) (b.toNat : Int) = ((c ^^^ b.toNat : Nat) : Int) :=
 u32_xor_nat c b.toNat h (by have := b.toNat_lt; omega)
theorem xor_ones (c : Nat) (h : c < 4294967296) : 4294967295 ^^^ c = 4294967295 - c := by
 have h2 := BitVec.toNat_not (x := BitVec.ofNat 32 c)
 have h3 : (~~~ (BitVec.ofNat 32 c)) = BitVec.allOnes 32 ^^^ BitVec.ofNat 32 c := by
  rw [BitVec.allOnes_xor]
 rw [h3,BitVec.toNat_xor,BitVec.toNat_allOnes,BitVec.toNat_ofNat,Nat.mod_eq_of_lt (by omega)] at h2
 simpa using h2
theorem not_u32 (c : Nat) (h : c < 4294967296) : bits .xor .u32 IntKind.u32.max (c : Int) = ((4294967295 - c : Nat) : Int) := by
 have e : IntKind.u32.max = ((4294967295 : Nat) : Int) := by decide
 rw [e,u32_xor_nat _ _ (by omega) h,xor_ones c h]
set_option maxHeartbeats 400000 in
theorem checksum_any (s : ByteArray) (w : World) (hs : s.size ≤ maxLen) :
  Calls Tryz.prog 158 #[.string s] w fun e w' => e = .returned (.int .u32 (crc s.data.toList : Nat)) ∧ w' = w := by
 unfold maxLen at hs
 go_enter Tryz.func158,Tryz.ntmps158
 go_wp2
 go_loop [3,7] (fun c i => ∃ k : Nat,k ≤ s.size ∧ i = .int .i64 k ∧ c = .int .u32 (crcRaw (s.data.toList.take k) : Nat)) (fun _ i => s.size - (intOf i).toNat)
 case atStart => exact ⟨0,Nat.zero_le _,rfl,rfl⟩
 case round =>
  obtain ⟨k,hk,rfl,rfl⟩ := hrel
  have hlt0 := crcRaw_lt (s.data.toList.take k)
  by_cases hlt : k < s.size
  ·have hsn : Hid (crcRaw (s.data.toList.take (k + 1)) = crcByte (crcRaw (s.data.toList.take k)) s[k].toNat) := by
    rw [take_snoc s k hlt]; exact crcRaw_snoc _ _
   have hbx := xor_byte_u32 (crcRaw (s.data.toList.take k)) s[k] hlt0
   have hb256 := s[k].toNat_lt
   have Hbx : Hid (bits .xor .u32 ((crcRaw (s.data.toList.take k) : Nat) : Int) (s[k].toNat : Int) = ((crcRaw (s.data.toList.take k) ^^^ s[k].toNat : Nat) : Int)) := hbx
   clear hbx
   have hlt1 : crcRaw (s.data.toList.take k) ^^^ s[k].toNat < 4294967296 := Nat.xor_lt_two_pow (n := 32) hlt0 (by omega)
   generalize crcRaw (s.data.toList.take k) = c at *
   go_wp2
   rw [Hbx.out]
   go_loop [3,16] (fun c' i => ∃ j : Nat,j ≤ 8 ∧ i = .int .i64 j ∧ c' = .int .u32 (crcBits j (c ^^^ s[k].toNat) : Nat)) (fun _ i => 8 - (intOf i).toNat)
   case atStart => exact ⟨0,Nat.zero_le _,rfl,rfl⟩
   case round =>
    obtain ⟨j,hj,rfl,rfl⟩ := hrel
    have hcl := crcBits_lt j _ hlt1
    by_cases hj8 : j < 8
    ·go_wp2_with (go_at_call 182; refine (shift_any _ _ hcl).mono ?_; rintro e w' ⟨rfl,rfl⟩)
     go_round
     case rel => exact ⟨j + 1,by omega,by go_num,rfl⟩
     case measure => simp [intOf]; omega
    ·obtain rfl : j = 8 := by omega
     go_wp2
     go_round
     case rel => exact ⟨k + 1,by omega,by go_num,by rw [hsn.out]; rfl⟩
     case measure => simp [intOf]; omega
  ·obtain rfl : k = s.size := by omega
   go_wp2
   go_ret
   refine ⟨ret_int ?_,rfl⟩
   have et : s.data.toList.take s.size = s.data.toList := List.take_of_length_le (by simp)
   rw [et] at hlt0
   rw [et,not_u32 _ hlt0]
   rfl
theorem conv4 (w : World) (a b c d : Int) : (convert 169 9 (.slice (some ⟨w.heap.size,0,none⟩) 4 4)).run Tryz.prog (w.alloc (.cells #[.int .u8 a, .int .u8 b, .int .u8 c, .int .u8 d] 5))
  = .ok (.string ⟨#[UInt8.ofNat a.toNat,UInt8.ofNat b.toNat,UInt8.ofNat c.toNat,UInt8.ofNat d.toNat]⟩) (w.alloc (.cells #[.int .u8 a, .int .u8 b, .int .u8 c, .int .u8 d] 5)) := by
 have h := run_convert_bytes_arg (P := Tryz.prog) (w.alloc (.cells #[.int .u8 a, .int .u8 b, .int .u8 c, .int .u8 d] 5)) 169 5 Tryz.underlying169 Tryz.underlying5 w.heap.size 0 4 4 [a,b,c,d] rfl (fun i hi => by
  match i,hi with
  | 0,_ => simp
  | 1,_ => simp
  | 2,_ => simp
  | 3,_ => simp) 9 Tryz.underlying9
 rw [h]
 rfl
theorem ret_str {a b : ByteArray} (h : a = b) : Ending.returned (.string a) = .returned (.string b) := by rw [h]
theorem lowByte_mod (n : Nat) : UInt8.ofNat (n % 256) = UInt8.ofNat n := by
 apply UInt8.toNat_inj.1; simp
set_option maxHeartbeats 400000 in
theorem sumBytes_any (s : ByteArray) (w : World) (hs : s.size ≤ maxLen) :
  Calls Tryz.prog 124 #[.string s] w fun e w' => e = .returned (.string (bs (sumOf s.data.toList))) ∧ Below w.heap.size w w' := by
 have hc := crc_lt s.data.toList
 have hc4 := conv4
 go_enter Tryz.func124,Tryz.ntmps124
 go_wp2_with (go_at_call 158; refine (checksum_any _ _ hs).mono ?_; rintro e w' ⟨rfl,rfl⟩)
 go_ret
 refine ⟨ret_str ?_,(Below.refl _ _).alloc (Nat.le_refl _) _⟩
 unfold sumOf
 generalize crc s.data.toList = c at *
 rw [lowByte_mod,lowByte_mod,lowByte_mod]
 rfl
def IntsAt (w : World) (v : Value) (l : List Int) : Prop :=
 ∃ a c,v = .slice a l.length c ∧ ∀ i,i < l.length → ∃ b off,a = some ⟨b,off,none⟩ ∧ w.cell? ⟨b,off + i,none⟩ = some (.int .i64 (l.getD i 0))
theorem IntsAt.below {w w' : World} {v : Value} {l : List Int} (h : IntsAt w v l) (hb : Below w.heap.size w w') : IntsAt w' v l := by
 obtain ⟨a,c,rfl,h⟩ := h
 refine ⟨a,c,rfl,fun i hi => ?_⟩
 obtain ⟨b,off,ha,hc⟩ := h i hi
 exact ⟨b,off,ha,cell_later hb hc⟩
def LogAt (w : World) (v : Value) (es : List Ent) : Prop :=
 ∃ a c,v = .slice a es.length c ∧ ∀ i,i < es.length → ∃ b off,a = some ⟨b,off,none⟩ ∧
  w.cell? ⟨b,off + i * 5,none⟩ = some (.int .i64 (es.getD i Ent.zero).client) ∧ w.cell? ⟨b,off + i * 5 + 1,none⟩ = some (.int .i64 (es.getD i Ent.zero).seq) ∧
  w.cell? ⟨b,off + i * 5 + 2,none⟩ = some (.int .i64 (es.getD i Ent.zero).kind) ∧ w.cell? ⟨b,off + i * 5 + 3,none⟩ = some (.int .i64 (es.getD i Ent.zero).key) ∧
  w.cell? ⟨b,off + i * 5 + 4,none⟩ = some (.int .i64 (es.getD i Ent.zero).value)
theorem LogAt.below {w w' : World} {v : Value} {es : List Ent} (h : LogAt w v es) (hb : Below w.heap.size w w') : LogAt w' v es := by
 obtain ⟨a,c,rfl,h⟩ := h
 refine ⟨a,c,rfl,fun i hi => ?_⟩
 obtain ⟨b,off,ha,h1,h2,h3,h4,h5⟩ := h i hi
 exact ⟨b,off,ha,cell_later hb h1,cell_later hb h2,cell_later hb h3,cell_later hb h4,cell_later hb h5⟩
theorem infoInt : (Tryz.prog.info? 3).map (fun i => (i.zero,i.size,i.bytes)) = some (some (.int .i64 0),1,8) := by kernel_rfl
def ints (l : List Int) : List Value := l.map (Value.int .i64)
theorem ints_length (l : List Int) : (ints l).length = l.length := by simp [ints]
theorem ints_append (l m : List Int) : ints (l ++ m) = ints l ++ ints m := by simp [ints]
theorem ints_one (l : List Int) : ∀ u ∈ ints l,u.oneCell' = true := by
 intro u hu
 simp only [ints,List.mem_map] at hu
 obtain ⟨n,_,rfl⟩ := hu
 rfl
theorem IntsAt.of_owns {w : World} {base : Nat} {v : Value} {l : List Int} (h : w.ownsRow base 3 1 v l.length (ints l)) : IntsAt w v l := by
 rcases h.2 with ⟨rfl,h0⟩ | ⟨g,cap,cur,rfl,hb,hg,_,_,hs,ht⟩
 ·exact ⟨none,0,by rw [h0],fun i hi => by omega⟩
 ·refine ⟨some ⟨g,0,none⟩,cap,rfl,fun i hi => ⟨g,0,rfl, ?_⟩⟩
  have := h.cellAt i (by omega)
  rw [Nat.zero_add,this]
  simp [ints,List.getD,List.getElem?_eq_getElem hi]
theorem infoEnt : (Tryz.prog.info? 42).map (fun i => (i.zero,i.size,i.bytes)) = some (some (.agg #[.int .i64 0, .int .i64 0, .int .i64 0, .int .i64 0, .int .i64 0]),5,40) := by kernel_rfl
theorem entsNums_getD (es : List Ent) (i j : Nat) (hi : i < es.length) (hj : j < 5) : (entsNums es).getD (i * 5 + j) 0 = (es.getD i Ent.zero).nums.getD j 0 := by
 induction es generalizing i with
 | nil => simp at hi
 | cons a l ih =>
  rw [show entsNums (a :: l) = a.nums ++ entsNums l from rfl]
  cases i with
  | zero =>
   rw [List.getD,List.getElem?_append_left (by show _ < 5; omega)]
   simp
  | succ i =>
   rw [List.getD,List.getElem?_append_right (by show 5 ≤ _; omega)]
   rw [show (i + 1) * 5 + j - a.nums.length = i * 5 + j by show (i + 1) * 5 + j - 5 = _; omega]
   have := ih i (by simpa using hi)
   rw [List.getD] at this
   rw [this]
   simp
theorem LogAt.of_owns {w : World} {base : Nat} {v : Value} {es : List Ent} (h : w.ownsRow base 42 5 v es.length (ints (entsNums es))) : LogAt w v es := by
 rcases h.2 with ⟨rfl,h0⟩ | ⟨g,cap,cur,rfl,hb,hg,_,_,hs,ht⟩
 ·exact ⟨none,0,by rw [h0],fun i hi => by omega⟩
 ·refine ⟨some ⟨g,0,none⟩,cap,rfl,fun i hi => ⟨g,0,rfl, ?_⟩⟩
  have key : ∀ j,j < 5 → w.cell? ⟨g,i * 5 + j,none⟩ = some (.int .i64 ((es.getD i Ent.zero).nums.getD j 0)) := by
   intro j hj
   have hlt : i * 5 + j < (entsNums es).length := by rw [entsNums_length]; omega
   rw [h.cellAt (i * 5 + j) (by omega), ← entsNums_getD es i j hi hj]
   simp [ints,List.getD,List.getElem?_eq_getElem hlt]
  refine ⟨?_, ?_, ?_, ?_, ?_⟩
  ·rw [Nat.zero_add]; exact key 0 (by omega)
  ·rw [Nat.zero_add]; exact key 1 (by omega)
  ·rw [Nat.zero_add]; exact key 2 (by omega)
  ·rw [Nat.zero_add]; exact key 3 (by omega)
  ·rw [Nat.zero_add]; exact key 4 (by omega)
theorem boxed (w : World) (cs : Array Value) (T : TypeId) : ∃ W,w.alloc (.cells cs T) = W ∧ Below w.heap.size w W ∧ W.heap.size = w.heap.size + 1 ∧
  (∀ j,W.cell? ⟨w.heap.size,j,none⟩ = cs[j]?) ∧ (∀ j,W.frozen? ⟨w.heap.size,j,none⟩ = false) :=
 ⟨_,rfl,(Below.refl _ _).alloc (Nat.le_refl _) _,World.size_alloc _ _,fun j => by rw [World.cell?_alloc_at _ _ _ _ rfl],fun j => World.frozen?_alloc_at _ _ _ _ rfl⟩
theorem hideA {p : Prop} (h : p) : Hid p := h
set_option maxHeartbeats 400000 in
theorem cordonkeep_sameInts (a b : Value) (l : List Int) (w : World) (ha : IntsAt w a l) (hb : IntsAt w b l) (hl : l.length ≤ 140737488355328) :
  Calls Tryz.prog 19 #[a,b] w fun e w' => e = .returned (.bool true) ∧ ∃ q,w' = w.drewN q := by
 obtain ⟨x,c,rfl,ha⟩ := ha
 obtain ⟨y,d,rfl,hb⟩ := hb
 have HA : Hid (∀ i,i < l.length → ∃ b off,x = some ⟨b,off,none⟩ ∧ w.cell? ⟨b,off + i,none⟩ = some (.int .i64 (l.getD i 0))) := ha
 have HB : Hid (∀ i,i < l.length → ∃ b off,y = some ⟨b,off,none⟩ ∧ w.cell? ⟨b,off + i,none⟩ = some (.int .i64 (l.getD i 0))) := hb
 clear ha hb
 go_enter Tryz.func19,Tryz.ntmps19
 go_wp2_with fail
 go_loopw [5] (fun i wr => ∃ k q : Nat,k ≤ l.length ∧ i = .int .i64 k ∧ wr = w.drewN q) (fun i _ => l.length - (intOf i).toNat)
 case atStart => exact ⟨0,0,Nat.zero_le _,rfl,rfl⟩
 case round =>
  obtain ⟨k,q,hk,rfl,rfl⟩ := hrel
  have hl0 : (0 : Int) ≤ (k : Int) := by omega
  by_cases hlt : k < l.length
  ·obtain ⟨b1,o1,rfl,c1⟩ := HA.out k hlt
   obtain ⟨b2,o2,rfl,c2⟩ := HB.out k hlt
   generalize l.getD k 0 = v at *
   have hl1 : (k : Int) < (l.length : Int) := by omega
   go_wp2_with fail
   go_quiet (fail)
   go_wp2_with fail
   exact ⟨⟨k + 1,_,by omega,by go_num,rfl⟩,by simp [intOf]; omega⟩
  ·go_wp2_with fail
   go_ret
   exact ⟨rfl,q,rfl⟩
set_option maxHeartbeats 1000000 in
set_option maxRecDepth 100000 in
theorem cordonkeep_sameLogs (a b : Value) (l : List Ent) (w : World) (ha : LogAt w a l) (hb : LogAt w b l) (hl : l.length ≤ 140737488355328) :
  Calls Tryz.prog 112 #[a,b] w fun e w' => e = .returned (.bool true) ∧ ∃ q,w' = w.drewN q := by
 obtain ⟨x,c,rfl,ha⟩ := ha
 obtain ⟨y,d,rfl,hb⟩ := hb
 have HA := hideA ha
 have HB := hideA hb
 clear ha hb
 go_enter Tryz.func112,Tryz.ntmps112
 go_wp2_with fail
 go_loopw [5] (fun i wr => ∃ k q : Nat,k ≤ l.length ∧ i = .int .i64 k ∧ wr = w.drewN q) (fun i _ => l.length - (intOf i).toNat)
 case atStart => exact ⟨0,0,Nat.zero_le _,rfl,rfl⟩
 case round =>
  obtain ⟨k,q,hk,rfl,rfl⟩ := hrel
  have hl0 : (0 : Int) ≤ (k : Int) := by omega
  by_cases hlt : k < l.length
  ·obtain ⟨b1,o1,rfl,c1,c2,c3,c4,c5⟩ := HA.out k hlt
   obtain ⟨b2,o2,rfl,d1,d2,d3,d4,d5⟩ := HB.out k hlt
   generalize l.getD k Ent.zero = v at *
   have hl1 : (k : Int) < (l.length : Int) := by omega
   go_wp2_with fail
   go_quiet (fail)
   go_wp2_with fail
   exact ⟨⟨k + 1,_,by omega,by go_num,rfl⟩,by simp [intOf]; omega⟩
  ·go_wp2_with fail
   go_ret
   exact ⟨rfl,q,rfl⟩
set_option maxHeartbeats 400000 in
theorem pick_any (c n : Int) (w : World) (hn : 0 < n) (hn2 : n ≤ 1000000) (h0 : -9223372036854775808 ≤ c) (h1 : c ≤ 9223372036854775807) :
  Calls Tryz.prog 14 #[.int .i64 c, .int .i64 n] w fun e w' => e = .returned (.int .i64 (pickI c n)) ∧ w' = w := by
 by_cases hc : c < 0
 ·have H : Hid (pickI c n = (-(c + 1)) % n) := hideA (by unfold pickI; rw [if_pos hc])
  go_enter Tryz.func14,Tryz.ntmps14
  go_wp2
  go_ret
  refine ⟨ret_int ?_,rfl⟩
  rw [H.out, ← Int.neg_tmod,Int.tmod_eq_emod_of_nonneg (by omega)]
 ·have H : Hid (pickI c n = c % n) := hideA (by unfold pickI; rw [if_neg hc])
  go_enter Tryz.func14,Tryz.ntmps14
  go_wp2
  go_ret
  exact ⟨ret_int (by rw [H.out]),rfl⟩
set_option maxHeartbeats 400000 in
theorem raw_any (v : Value) (l : List Int) (i : Nat) (w : World) (hv : IntsAt w v l) (_hi : i ≤ 1000) :
  Calls Tryz.prog 29 #[v, .int .i64 (i : Int)] w fun e w' => e = .returned (.int .i64 (l.getD i 0)) ∧ w' = w := by
 obtain ⟨a,c,rfl,hv⟩ := hv
 by_cases h : i < l.length
 ·obtain ⟨b,off,rfl,hc⟩ := hv i h
  generalize l.getD i 0 = x at *
  clear hv
  go_enter Tryz.func29,Tryz.ntmps29
  go_wp2
  go_ret
  exact ⟨rfl,rfl⟩
 ·have H : Hid (l.getD i 0 = 0) := hideA (by rw [List.getD,List.getElem?_eq_none (by omega)]; rfl)
  clear hv
  go_enter Tryz.func29,Tryz.ntmps29
  go_wp2
  go_ret
  exact ⟨by rw [H.out]; rfl,rfl⟩
def I64s (l : List Int) : Prop := ∀ x ∈ l, -9223372036854775808 ≤ x ∧ x ≤ 9223372036854775807
theorem I64s.getD {l : List Int} (h : I64s l) (i : Nat) : -9223372036854775808 ≤ l.getD i 0 ∧ l.getD i 0 ≤ 9223372036854775807 := by
 by_cases hi : i < l.length
 ·exact h _ (by simp [List.getD,List.getElem?_eq_getElem hi])
 ·rw [List.getD,List.getElem?_eq_none (by omega)]; simp
theorem ret_no {a : ByteArray} {p : List UInt8 × Int} (h : Hid (p = ([],1))) (ha : a = bs []) : Ending.returned (.tuple #[.string a, .int .i64 1]) = .returned (.tuple #[.string (bs p.1), .int .i64 p.2]) := by rw [h.out,ha]
theorem add_bs (l m : List UInt8) (h : l.length + m.length ≤ 9223372036854775807) : ∀ w,(Op.stringOp .add (bs l) (bs m)).run Tryz.prog w = .ok (.string (bs (l ++ m))) w := by
 intro w
 rw [run_string_add_sum w (bs l) (bs m) (by rw [bs_size,bs_size]; omega),bs_append]
theorem byteAt_in (s : ByteArray) (k : Nat) (h : k < s.size) : byteAt s.data.toList k = s[k].toNat := by
 unfold byteAt
 have : s.data.toList.getD k 0 = s[k] := by
  rw [List.getD,List.getElem?_eq_getElem (by simpa using h)]
  rfl
 rw [this]
theorem bs_take (L : List UInt8) (n : Nat) : (bs L).extract 0 n = bs (L.take n) := by
 apply ByteArray.ext
 apply Array.toList_inj.1
 simp [bs]
theorem bs_drop (L : List UInt8) (n : Nat) : (bs L).extract n L.length = bs (L.drop n) := by
 apply ByteArray.ext
 apply Array.toList_inj.1
 simp [bs]
 exact List.take_of_length_le (by simp)
theorem toList_bs (l : List UInt8) : (bs l).toList = l := by
 rw [ByteArray.toList_eq,bs_list]
theorem eq_bs (l m : List UInt8) : ((bs l).toList == (bs m).toList) = decide (l = m) := by
 rw [toList_bs,toList_bs]
 by_cases h : l = m <;> simp [h]
theorem boxed_later {w W w' : World} {cs : Array Value} (hb : Below W.heap.size W w') (hs : W.heap.size = w.heap.size + 1) (q : ∀ j,W.cell? ⟨w.heap.size,j,none⟩ = cs[j]?) (fz : ∀ j,W.frozen? ⟨w.heap.size,j,none⟩ = false) :
  (∀ j,w'.cell? ⟨w.heap.size,j,none⟩ = cs[j]?) ∧ (∀ j,w'.frozen? ⟨w.heap.size,j,none⟩ = false) :=
 ⟨fun j => (hb.cell (p := ⟨w.heap.size,j,none⟩) (by show w.heap.size < _; omega)).trans (q j),fun j => (hb.frozen (p := ⟨w.heap.size,j,none⟩) (by show w.heap.size < _; omega)).trans (fz j)⟩
theorem ret_bool {a b : Bool} (h : a = b) : Ending.returned (.bool a) = .returned (.bool b) := by rw [h]
set_option maxHeartbeats 400000 in
theorem isKind_any (k : Int) (w : World) : Calls Tryz.prog 149 #[.int .i64 k] w fun e w' => e = .returned (.bool (kindOk k)) ∧ w' = w := by
 by_cases h1 : 1 ≤ k
 ·go_enter Tryz.func149,Tryz.ntmps149
  go_wp2
  go_ret
  exact ⟨ret_bool (by simp [kindOk,h1]),rfl⟩
 ·have hd : decide (1 ≤ k) = false := by simpa using h1
  go_enter Tryz.func149,Tryz.ntmps149
  go_wp2
  go_ret
  exact ⟨ret_bool (by simp [kindOk,hd]),rfl⟩
set_option maxHeartbeats 400000 in
theorem fits_any (k : Int) (w : World) : Calls Tryz.prog 154 #[.int .i64 k] w fun e w' => e = .returned (.bool (numOk k)) ∧ w' = w := by
 by_cases h1 : -1 ≤ k
 ·go_enter Tryz.func154,Tryz.ntmps154
  go_wp2
  go_ret
  exact ⟨ret_bool (by simp [numOk,h1]),rfl⟩
 ·have hd : decide (-1 ≤ k) = false := by simpa using h1
  go_enter Tryz.func154,Tryz.ntmps154
  go_wp2
  go_ret
  exact ⟨ret_bool (by simp [numOk,hd]),rfl⟩
set_option maxHeartbeats 400000 in
theorem bodySize_any (m e : Int) (w : World) (h1 : 0 ≤ m) (h2 : m ≤ 1000) (h3 : 0 ≤ e) (h4 : e ≤ 1000) : Calls Tryz.prog 156 #[.int .i64 m, .int .i64 e] w fun r w' => r = .returned (.int .i64 (17 + 2 * m + 10 * e)) ∧ w' = w := by
 go_enter Tryz.func156,Tryz.ntmps156
 go_wp2
 go_ret
 exact ⟨ret_int (by omega),rfl⟩
set_option maxHeartbeats 1000000 in
set_option maxRecDepth 100000 in
theorem header_any (B : Nat) (w : World) : Calls Tryz.prog 153 #[.pointer (some ⟨B,0,none⟩)] w fun e w' => Below w.heap.size w w' ∧
  e = .returned (.agg #[.pointer (some ⟨B,1,none⟩), .pointer (some ⟨B,2,none⟩), .pointer (some ⟨B,3,none⟩), .pointer (some ⟨B,4,none⟩), .pointer (some ⟨B,5,none⟩), .pointer (some ⟨B,6,none⟩), .pointer (some ⟨B,7,none⟩)]) := by
 go_enter Tryz.func153,Tryz.ntmps153
 go_wp2
 go_region_held3 (fun _ => True) (trivial) (fail)
 go_wp2
 refine bodyPost_ret (v := .agg #[.pointer (some ⟨B,1,none⟩), .pointer (some ⟨B,2,none⟩), .pointer (some ⟨B,3,none⟩), .pointer (some ⟨B,4,none⟩), .pointer (some ⟨B,5,none⟩), .pointer (some ⟨B,6,none⟩), .pointer (some ⟨B,7,none⟩)]) (by simp [results,Tryz.results153,go_sem]) rfl ⟨((Below.refl _ _).alloc (Nat.le_refl _) _).drew,rfl⟩
set_option maxHeartbeats 1000000 in
set_option maxRecDepth 100000 in
theorem fields_any (B off : Nat) (w : World) : Calls Tryz.prog 180 #[.pointer (some ⟨B,off,none⟩)] w fun e w' => Below w.heap.size w w' ∧
  e = .returned (.agg #[.pointer (some ⟨B,off,none⟩), .pointer (some ⟨B,off + 1,none⟩), .pointer (some ⟨B,off + 2,none⟩), .pointer (some ⟨B,off + 3,none⟩), .pointer (some ⟨B,off + 4,none⟩)]) := by
 go_enter Tryz.func180,Tryz.ntmps180
 go_wp2
 go_region_held3 (fun _ => True) (trivial) (fail)
 go_wp2
 refine bodyPost_ret (v := .agg #[.pointer (some ⟨B,off,none⟩), .pointer (some ⟨B,off + 1,none⟩), .pointer (some ⟨B,off + 2,none⟩), .pointer (some ⟨B,off + 3,none⟩), .pointer (some ⟨B,off + 4,none⟩)]) (by simp [results,Tryz.results180,go_sem]) rfl ⟨((Below.refl _ _).alloc (Nat.le_refl _) _).drew,rfl⟩
theorem byteAt_bs (T : List UInt8) (k : Nat) (h : k < (bs T).size) : byteAt T k = (bs T)[k].toNat := by
 have := byteAt_in (bs T) k h
 rwa [bs_list] at this
theorem ret_iib {a b : Int} {x : Bool} {a' b' : Int} {x' : Bool} (h : a = a') (h2 : b = b') (h3 : x = x') : Ending.returned (.tuple #[.int .i64 a, .int .i64 b, .bool x]) = .returned (.tuple #[.int .i64 a', .int .i64 b', .bool x']) := by rw [h,h2,h3]
theorem index_bs (T : List UInt8) (i : Int) (k : Nat) (hi : i = k) (h : k < T.length) : ∀ w,(Instr.index 9 (.string (bs T)) (.int .i64 i)).run Tryz.prog w = .ok (.int .u8 (byteAt T k : Nat)) w := by
 intro w
 have hk : k < (bs T).size := h
 subst hi
 rw [byteAt_bs T k hk]
 go_simp
set_option maxHeartbeats 1000000 in
set_option maxRecDepth 100000 in
theorem measure_any (T : List UInt8) (w : World) (h : 17 ≤ T.length) (hm : T.length ≤ 140737488355328) : Calls Tryz.prog 148 #[.string (bs T)] w fun e w' =>
  e = .returned (.tuple #[.int .i64 (measOf T).1, .int .i64 (measOf T).2.1, .bool (measOf T).2.2]) ∧ w' = w := by
 have hs := bs_size T
 have i1 := index_bs T 15 15 rfl (by omega)
 have hb := byteAt_lt T 15
 by_cases h1 : byteAt T 15 ≤ 5 ∧ 16 + 2 * byteAt T 15 < T.length
 ·have hb2 := byteAt_lt T (16 + 2 * byteAt T 15)
  have i2 := index_bs T (16 + (byteAt T 15 : Nat) * 2) (16 + 2 * byteAt T 15) (by omega) (by omega)
  have HM : Hid (measOf T = _) := measOf_in h1
  obtain ⟨h1,h2⟩ := h1
  by_cases h3 : byteAt T (16 + 2 * byteAt T 15) ≤ 24
  ·rw [HM.out]
   go_enter Tryz.func148,Tryz.ntmps148
   go_wp2_with fail
   refine (bodySize_any _ _ _ (by omega) (by omega) (by omega) (by omega)).mono ?_
   rintro e w1 ⟨rfl,rfl⟩
   go_wp2_with fail
   go_ret3
   refine ⟨ret_iib rfl rfl ?_,rfl⟩
   rw [Bool.eq_iff_iff]
   simp [h3]
   omega
  ·rw [HM.out]
   go_enter Tryz.func148,Tryz.ntmps148
   go_wp2_with fail
   go_ret3
   exact ⟨ret_iib rfl rfl rfl,rfl⟩
 ·have HM : Hid (measOf T = _) := measOf_no h1
  by_cases h3 : byteAt T 15 ≤ 5
  ·have h4 : T.length ≤ 16 + 2 * byteAt T 15 := by omega
   rw [HM.out]
   clear h1
   go_enter Tryz.func148,Tryz.ntmps148
   go_wp2_with fail
   go_ret3
   exact ⟨rfl,rfl⟩
  ·rw [HM.out]
   clear h1
   go_enter Tryz.func148,Tryz.ntmps148
   go_wp2_with fail
   go_ret3
   exact ⟨rfl,rfl⟩
theorem i64_or_nat (a b : Nat) (ha : a < 9223372036854775808) (hb : b < 9223372036854775808) : bits .or .i64 (a : Int) (b : Int) = ((a ||| b : Nat) : Int) := by
 have hx : a ||| b < 2 ^ 63 := Nat.or_lt_two_pow (by omega) (by omega)
 have h1 : (BitVec.ofInt 64 (a : Int)).toNat = a := by
  rw [BitVec.ofInt_natCast,BitVec.toNat_ofNat]; exact Nat.mod_eq_of_lt (by omega)
 have h2 : (BitVec.ofInt 64 (b : Int)).toNat = b := by
  rw [BitVec.ofInt_natCast,BitVec.toNat_ofNat]; exact Nat.mod_eq_of_lt (by omega)
 show IntKind.i64.wrap ((BitVec.ofInt 64 (a : Int) ||| BitVec.ofInt 64 (b : Int)).toNat : Int) = _
 rw [BitVec.toNat_or,h1,h2]
 exact wrap_i64_nat _ (by omega)
theorem or_num (a b : Nat) (ha : a < 256) (hb : b < 256) : bits .or .i64 (IntKind.i64.wrap (IntKind.i64.wrap (a : Int) * 256)) (IntKind.i64.wrap (b : Int)) = 256 * (a : Int) + b := by
 rw [wrap_i64_nat a (by omega),wrap_i64_nat b (by omega),show ((a : Int) * 256) = ((a * 256 : Nat) : Int) by omega,wrap_i64_nat (a * 256) (by omega),i64_or_nat _ _ (by omega) (by omega),nat_join 8 _ _ (by omega) (by omega)]
 omega
set_option maxHeartbeats 1000000 in
set_option maxRecDepth 100000 in
theorem skip_any (R : Nat) (i : Int) (S : List UInt8) (w : World) (h0 : 0 ≤ i) (hn : i ≤ S.length) (hR : w.cell? ⟨R,0,none⟩ = some (.string (bs S))) (hf : w.frozen? ⟨R,0,none⟩ = false) :
  Calls Tryz.prog 179 #[.pointer (some ⟨R,0,none⟩), .int .i64 i] w fun e w' => e = .returned (.tuple #[]) ∧ ∃ q,w' = (w.setCell ⟨R,0,none⟩ (.string (bs (S.drop i.toNat)))).drewN q := by
 obtain ⟨n,rfl⟩ := Int.eq_ofNat_of_zero_le h0
 rw [Int.toNat_natCast]
 have hs := bs_size S
 have hx := bs_drop S n
 go_enter Tryz.func179,Tryz.ntmps179
 go_wp2_with fail
 go_end0
 exact ⟨rfl,0,rfl⟩
set_option maxHeartbeats 1000000 in
set_option maxRecDepth 100000 in
theorem number_any (R : Nat) (S : List UInt8) (w : World) (hn : 2 ≤ S.length) (hR : w.cell? ⟨R,0,none⟩ = some (.string (bs S))) (hf : w.frozen? ⟨R,0,none⟩ = false) :
  Calls Tryz.prog 178 #[.pointer (some ⟨R,0,none⟩)] w fun e w' => e = .returned (.int .i64 (numAt S 0)) ∧ ∃ q,w' = (w.setCell ⟨R,0,none⟩ (.string (bs (S.drop 2)))).drewN q := by
 have hs := bs_size S
 have i1 := index_bs S 0 0 rfl (by omega)
 have i2 := index_bs S 1 1 rfl (by omega)
 have b0 := byteAt_lt S 0
 have b1 := byteAt_lt S 1
 go_enter Tryz.func178,Tryz.ntmps178
 go_wp2_with fail
 go_region_held3 (fun w' => w'.cell? ⟨R,0,none⟩ = some (.string (bs S))) (go_keep) (fail)
 all_goals
  rw [or_num _ _ b0 b1]
  go_wp2_with fail
  refine (skip_any R 2 S _ (by omega) (by omega) (by exact hR) (by exact hf)).mono ?_
  rintro e w1 ⟨rfl,q,rfl⟩
  go_wp2_with fail
  go_ret
  exact ⟨ret_int (by unfold numAt; rw [Nat.zero_add]; omega),1 + q,rfl⟩
theorem owns_kept {w w' : World} {base size n : Nat} {e : TypeId} {v : Value} {xs : List Value} (h : w.ownsRow base e size v n xs) (hk : ∀ k,base ≤ k → k < w.heap.size → w'.heap[k]? = w.heap[k]?) :
  w'.ownsRow base e size v n xs := by
 refine ⟨h.1, ?_⟩
 rcases h.2 with h0 | ⟨g,cap,cur,hv,hb,hg,rest⟩
 ·exact .inl h0
 ·exact .inr ⟨g,cap,cur,hv,hb,(hk g hb (Array.getElem?_eq_some_iff.1 hg).1).trans hg,rest⟩
theorem owns_form {w : World} {base size n : Nat} {e : TypeId} {v : Value} {xs : List Value} (h : w.ownsRow base e size v n xs) (hn : 0 < n) : ∃ g cap,v = .slice (some ⟨g,0,none⟩) n cap := by
 rcases h.2 with ⟨_,h0⟩ | ⟨g,cap,_,hv,_⟩
 ·omega
 ·exact ⟨g,cap,hv⟩
end Go.Proofs.YtgieeeeeiggoeaaGreat
