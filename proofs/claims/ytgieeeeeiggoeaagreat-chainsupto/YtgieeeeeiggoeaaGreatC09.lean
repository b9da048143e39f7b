import Derived.Test.YtgieeeeeiggoeaaGreatC01
import Derived.Test.YtgieeeeeiggoeaaGreatProg
import Derived.WalkKit
import Derived.WalkSpells
import Derived.WalkLawsBesides
import Derived.Deep.RegionHeld3
import Derived.Deep.QuietTactic
import Derived.BigQuiet
set_option maxRecDepth 100000
set_option maxHeartbeats 1000000
namespace Go.Proofs.YtgieeeeeiggoeaaGreat
open Go.RowKit
theorem ret_int {k:IntKind}{a b:Int}(h:a=b):Ending.returned (.int k a)=.returned (.int k b):=by rw[h]
theorem and_one_u32 (c:Nat)(h:c<4294967296):bits .and .u32 (c:Int) 1=((c % 2:Nat):Int):=by
 have:=u32_and_nat c 1 h (by omega)
 rw[show ((1:Int)=((1:Nat):Int)) from rfl,this,Nat.and_one_is_mod]
theorem xor_poly_u32 (c:Nat)(h:c<4294967296):bits .xor .u32 (c:Int) 3988292384=((c ^^^ 3988292384:Nat):Int):=by
 have:=u32_xor_nat c 3988292384 h (by omega)
 exact this
theorem wrap_i64_nat (n:Nat)(h:n<9223372036854775808):IntKind.i64.wrap (n:Int)=(n:Int):=by
 have e:IntKind.i64.wrap (n:Int)=if (true && decide ((n:Int) % 18446744073709551616 ≥ 9223372036854775808))=true then (n:Int) % 18446744073709551616-18446744073709551616 else (n:Int) % 18446744073709551616:=rfl
 rw[e];have:((n:Int) % 18446744073709551616)=n:=by omega
 simp only [this]
 rw[if_neg];simp only [Bool.true_and,decide_eq_true_eq]
 omega
theorem i64_xor_nat (a b:Nat)(ha:a<9223372036854775808)(hb:b<9223372036854775808):bits .xor .i64 (a:Int) (b:Int)=((a ^^^ b:Nat):Int):=by
 have hx:a ^^^ b<2 ^ 63:=Nat.xor_lt_two_pow (by omega) (by omega)
 have h1:(BitVec.ofInt 64 (a:Int)).toNat=a:=by
  rw[BitVec.ofInt_natCast,BitVec.toNat_ofNat];exact Nat.mod_eq_of_lt (by omega)
 have h2:(BitVec.ofInt 64 (b:Int)).toNat=b:=by
  rw[BitVec.ofInt_natCast,BitVec.toNat_ofNat];exact Nat.mod_eq_of_lt (by omega)
 show IntKind.i64.wrap ((BitVec.ofInt 64 (a:Int) ^^^ BitVec.ofInt 64 (b:Int)).toNat:Int)=_
 rw[BitVec.toNat_xor,h1,h2];exact wrap_i64_nat _ (by omega)
theorem shift_any (c:Nat)(w:World)(h1:c<4294967296) :
  Calls Tryz.prog 182 #[.int .u32 (c:Int)] w fun e w'=>e=.returned (.int .u32 (crcBit c:Nat))∧w'=w:=by
 have ha:=and_one_u32 c h1
 have hx:=xor_poly_u32 (c / 2) (by omega)
 have hx':bits .xor .u32 ((c:Int) / 2) 3988292384=((c / 2 ^^^ 3988292384:Nat):Int):=by rw[← hx];rfl
 have H1:Hid (bits .and .u32 (c:Int) 1=((c % 2:Nat):Int)):=ha
 have H2:Hid (bits .xor .u32 ((c:Int) / 2) 3988292384=((c / 2 ^^^ 3988292384:Nat):Int)):=hx'
 clear ha hx hx';go_enter Tryz.func182,Tryz.ntmps182
 go_wp2
 ·go_ret
  refine⟨ret_int ?_,rfl⟩
  rename_i h
  rw[H1.out] at h
  have hc:c % 2=1:=by simp at h;omega
  rw[H2.out];unfold crcBit;rw[if_pos hc]
 ·go_ret
  refine⟨ret_int ?_,rfl⟩
  rename_i h
  rw[H1.out] at h
  have hc:¬ c % 2=1:=by simp at h;omega
  unfold crcBit;rw[if_neg hc];rfl
theorem xor_byte_u32 (c:Nat)(b:UInt8)(h:c<4294967296):bits .xor .u32 (c:Int) (b.toNat:Int)=((c ^^^ b.toNat:Nat):Int) :=
 u32_xor_nat c b.toNat h (by have:=b.toNat_lt;omega)
theorem xor_ones (c:Nat)(h:c<4294967296):4294967295 ^^^ c=4294967295-c:=by
 have h2:=BitVec.toNat_not (x:=BitVec.ofNat 32 c)
 have h3:(~~~ (BitVec.ofNat 32 c))=BitVec.allOnes 32 ^^^ BitVec.ofNat 32 c:=by
  rw[BitVec.allOnes_xor]
 rw[h3,BitVec.toNat_xor,BitVec.toNat_allOnes,BitVec.toNat_ofNat,Nat.mod_eq_of_lt (by omega)] at h2
 simpa using h2
theorem not_u32 (c:Nat)(h:c<4294967296):bits .xor .u32 IntKind.u32.max (c:Int)=((4294967295-c:Nat):Int):=by
 have e:IntKind.u32.max=((4294967295:Nat):Int):=by decide
 rw[e,u32_xor_nat _ _ (by omega) h,xor_ones c h]
theorem checksum_any (s:ByteArray)(w:World)(hs:s.size≤maxLen) :
  Calls Tryz.prog 158 #[.string s] w fun e w'=>e=.returned (.int .u32 (crc s.data.toList:Nat))∧w'=w:=by
 unfold maxLen at hs
 go_enter Tryz.func158,Tryz.ntmps158
 go_wp2
 go_loop [3,7] (fun c i=>∃ k:Nat,k≤s.size∧i=.int .i64 k∧c=.int .u32 (crcRaw (s.data.toList.take k):Nat)) (fun _ i=>s.size-(intOf i).toNat)
 case atStart=>exact⟨0,Nat.zero_le _,rfl,rfl⟩
 case round =>
  obtain⟨k,hk,rfl,rfl⟩:=hrel;have hlt0:=crcRaw_lt (s.data.toList.take k)
  by_cases hlt:k<s.size
  ·have hsn:Hid (crcRaw (s.data.toList.take (k+1))=crcByte (crcRaw (s.data.toList.take k)) s[k].toNat):=by
    rw[take_snoc s k hlt];exact crcRaw_snoc _ _
   have hbx:=xor_byte_u32 (crcRaw (s.data.toList.take k)) s[k] hlt0
   have hb256:=s[k].toNat_lt
   have Hbx:Hid (bits .xor .u32 ((crcRaw (s.data.toList.take k):Nat):Int) (s[k].toNat:Int)=((crcRaw (s.data.toList.take k) ^^^ s[k].toNat:Nat):Int)):=hbx
   clear hbx;have hlt1:crcRaw (s.data.toList.take k) ^^^ s[k].toNat<4294967296:=Nat.xor_lt_two_pow (n:=32) hlt0 (by omega)
   generalize crcRaw (s.data.toList.take k)=c at *
   go_wp2
   rw[Hbx.out];go_loop [3,16] (fun c' i=>∃ j:Nat,j≤8∧i=.int .i64 j∧c'=.int .u32 (crcBits j (c ^^^ s[k].toNat):Nat)) (fun _ i=>8-(intOf i).toNat)
   case atStart=>exact⟨0,Nat.zero_le _,rfl,rfl⟩
   case round =>
    obtain⟨j,hj,rfl,rfl⟩:=hrel;have hcl:=crcBits_lt j _ hlt1
    by_cases hj8:j<8
    ·go_wp2_with (go_at_call 182;refine (shift_any _ _ hcl).mono ?_;rintro e w' ⟨rfl,rfl⟩)
     go_round
     case rel=>exact⟨j+1,by omega,by go_num,rfl⟩
     case measure=>simp[intOf];omega
    ·obtain rfl:j=8:=by omega
     go_wp2
     go_round
     case rel=>exact⟨k+1,by omega,by go_num,by rw[hsn.out];rfl⟩
     case measure=>simp[intOf];omega
  ·obtain rfl:k=s.size:=by omega
   go_wp2
   go_ret;refine⟨ret_int ?_,rfl⟩
   have et:s.data.toList.take s.size=s.data.toList:=List.take_of_length_le (by simp)
   rw[et] at hlt0
   rw[et,not_u32 _ hlt0];rfl
theorem xor_byte_i64 (c:Nat)(b:UInt8)(h:c<4294967296):bits .xor .i64 (c:Int) (b.toNat:Int)=((c ^^^ b.toNat:Nat):Int) :=
 i64_xor_nat c b.toNat (by omega) (by have:=b.toNat_lt;omega)
theorem xor_poly_i64 (c:Nat)(h:c<4294967296):bits .xor .i64 (c:Int) 3988292384=((c ^^^ 3988292384:Nat):Int):=by
 have:=i64_xor_nat c 3988292384 (by omega) (by omega)
 exact this
theorem Sum_any (s:ByteArray)(w:World)(hs:s.size≤maxLen) :
  Calls Tryz.prog 168 #[.string s] w fun e w'=>e=.returned (.int .i64 (crc s.data.toList:Nat))∧w'=w:=by
 unfold maxLen at hs
 go_enter Tryz.func168,Tryz.ntmps168
 go_wp2
 go_loop [3,4] (fun c i=>∃ k:Nat,k≤s.size∧i=.int .i64 k∧c=.int .i64 (crcRaw (s.data.toList.take k):Nat)) (fun _ i=>s.size-(intOf i).toNat)
 case atStart=>exact⟨0,Nat.zero_le _,rfl,rfl⟩
 case round =>
  obtain⟨k,hk,rfl,rfl⟩:=hrel;have hlt0:=crcRaw_lt (s.data.toList.take k)
  by_cases hlt:k<s.size
  ·have hsn:Hid (crcRaw (s.data.toList.take (k+1))=crcByte (crcRaw (s.data.toList.take k)) s[k].toNat):=by
    rw[take_snoc s k hlt];exact crcRaw_snoc _ _
   have Hbx:Hid (bits .xor .i64 ((crcRaw (s.data.toList.take k):Nat):Int) (s[k].toNat:Int)=((crcRaw (s.data.toList.take k) ^^^ s[k].toNat:Nat):Int)):=xor_byte_i64 (crcRaw (s.data.toList.take k)) s[k] hlt0
   have hb256:=s[k].toNat_lt
   have hlt1:crcRaw (s.data.toList.take k) ^^^ s[k].toNat<4294967296:=Nat.xor_lt_two_pow (n:=32) hlt0 (by omega)
   generalize crcRaw (s.data.toList.take k)=c at *
   go_wp2
   rw[Hbx.out];go_loop [3,5] (fun c' i=>∃ j:Nat,j≤8∧i=.int .i64 j∧c'=.int .i64 (crcBits j (c ^^^ s[k].toNat):Nat)) (fun _ i=>8-(intOf i).toNat)
   case atStart=>exact⟨0,Nat.zero_le _,rfl,rfl⟩
   case round =>
    obtain⟨j,hj,rfl,rfl⟩:=hrel;have hcl:=crcBits_lt j _ hlt1
    by_cases hj8:j<8
    ·have hst:Hid (crcBits (j+1) (c ^^^ s[k].toNat)=crcBit (crcBits j (c ^^^ s[k].toNat))):=rfl
     generalize crcBits j (c ^^^ s[k].toNat)=d at *
     have hx:Hid (bits .xor .i64 ((d / 2:Nat):Int) 3988292384=((d / 2 ^^^ 3988292384:Nat):Int)):=xor_poly_i64 (d / 2) (by omega)
     by_cases hodd:d % 2=1
     ·have ho:(((d:Int) % 2) == 1)=true:=by rw[beq_iff_eq];omega
      go_wp2
      go_round
      case rel=>exact⟨j+1,by omega,by go_num,by rw[hst.out];unfold crcBit;rw[if_pos hodd];rw[← hx.out];rfl⟩
      case measure=>simp[intOf];omega
     ·have ho:(((d:Int) % 2) == 1)=false:=by rw[beq_eq_false_iff_ne];omega
      go_wp2
      go_round
      case rel=>exact⟨j+1,by omega,by go_num,by rw[hst.out];unfold crcBit;rw[if_neg hodd];rfl⟩
      case measure=>simp[intOf];omega
    ·obtain rfl:j=8:=by omega
     go_wp2
     go_round
     case rel=>exact⟨k+1,by omega,by go_num,by rw[hsn.out];rfl⟩
     case measure=>simp[intOf];omega
  ·obtain rfl:k=s.size:=by omega
   go_wp2
   go_ret;refine⟨ret_int ?_,rfl⟩
   have et:s.data.toList.take s.size=s.data.toList:=List.take_of_length_le (by simp)
   rw[et] at hlt0
   rw[et];unfold crc
   omega
theorem conv1 (w:World)(x:Int):(convert 169 9 (.slice (some ⟨w.heap.size,0,none⟩) 1 1)).run Tryz.prog (w.alloc (.cells #[.int .u8 x] 5))
  = .ok (.string ⟨#[UInt8.ofNat x.toNat]⟩) (w.alloc (.cells #[.int .u8 x] 5)):=by
 have h:=run_convert_bytes_arg (P:=Tryz.prog) (w.alloc (.cells #[.int .u8 x] 5)) 169 5 Tryz.underlying169 Tryz.underlying5 w.heap.size 0 1 1 [x] rfl (fun i hi=>by
  obtain rfl:i=0:=by omega
  simp) 9 Tryz.underlying9
 rw[h];rfl
theorem conv4 (w:World)(a b c d:Int):(convert 169 9 (.slice (some ⟨w.heap.size,0,none⟩) 4 4)).run Tryz.prog (w.alloc (.cells #[.int .u8 a,.int .u8 b,.int .u8 c,.int .u8 d] 5))
  = .ok (.string ⟨#[UInt8.ofNat a.toNat,UInt8.ofNat b.toNat,UInt8.ofNat c.toNat,UInt8.ofNat d.toNat]⟩) (w.alloc (.cells #[.int .u8 a,.int .u8 b,.int .u8 c,.int .u8 d] 5)):=by
 have h:=run_convert_bytes_arg (P:=Tryz.prog) (w.alloc (.cells #[.int .u8 a,.int .u8 b,.int .u8 c,.int .u8 d] 5)) 169 5 Tryz.underlying169 Tryz.underlying5 w.heap.size 0 4 4 [a,b,c,d] rfl (fun i hi=>by
  match i,hi with
  | 0,_=>simp
  | 1,_=>simp
  | 2,_=>simp
  | 3,_=>simp) 9 Tryz.underlying9
 rw[h];rfl
theorem ret_str {a b:ByteArray}(h:a=b):Ending.returned (.string a)=.returned (.string b):=by rw[h]
theorem lowByte_mod (n:Nat):UInt8.ofNat (n % 256)=UInt8.ofNat n:=by
 apply UInt8.toNat_inj.1;simp
theorem lowByte_int' (n:Int)(h:0≤n):UInt8.ofNat (n % 256).toNat=lowByte n.toNat:=by
 have:(n % 256).toNat=n.toNat % 256:=by omega
 rw[this,lowByte_mod];rfl
theorem one_any (n:Int)(w:World)(h0:0≤n) :
  Calls Tryz.prog 169 #[.int .i64 n] w fun e w'=>e=.returned (.string (bs (oneB n.toNat)))∧Below w.heap.size w w':=by
 have hc:=conv1
 go_enter Tryz.func169,Tryz.ntmps169
 go_wp2
 go_ret;exact⟨ret_str (by rw[lowByte_int' n h0];rfl),(Below.refl _ _).alloc (Nat.le_refl _) _⟩
theorem two_any (n:Int)(w:World)(h0 : -1≤n)(h1:n≤65534) :
  Calls Tryz.prog 219 #[.int .i64 n] w fun e w'=>e=.returned (.string (bs (numBytes n)))∧Below w.heap.size w w':=by
 go_enter Tryz.func219,Tryz.ntmps219
 go_wp2_with fail;refine (one_any _ _ (by omega)).mono ?_
 rintro e w1 ⟨rfl,hb1⟩;go_wp2_with fail;refine (one_any _ _ (by omega)).mono ?_
 rintro e w2 ⟨rfl,hb2⟩;go_wp2_with fail;go_ret;refine⟨ret_str ?_,hb1.trans (hb2.mono hb1.size)⟩
 rw[bs_append,show ((n+1) / 256).toNat=(n+1).toNat / 256 by omega]
 rfl
theorem sumBytes_any (s:ByteArray)(w:World)(hs:s.size≤maxLen) :
  Calls Tryz.prog 124 #[.string s] w fun e w'=>e=.returned (.string (bs (sumOf s.data.toList)))∧Below w.heap.size w w':=by
 have hc:=crc_lt s.data.toList
 have hc4:=conv4
 go_enter Tryz.func124,Tryz.ntmps124
 go_wp2_with (go_at_call 158;refine (checksum_any _ _ hs).mono ?_;rintro e w' ⟨rfl,rfl⟩)
 go_ret;refine⟨ret_str ?_,(Below.refl _ _).alloc (Nat.le_refl _) _⟩
 unfold sumOf
 generalize crc s.data.toList=c at *
 rw[lowByte_mod,lowByte_mod,lowByte_mod];rfl
def IntsAt (w:World)(v:Value)(l:List Int):Prop :=
 ∃ a c,v=.slice a l.length c∧∀ i,i<l.length→∃ b off,a=some ⟨b,off,none⟩∧w.cell? ⟨b,off+i,none⟩=some (.int .i64 (l.getD i 0))
theorem IntsAt.below {w w':World}{v:Value}{l:List Int}(h:IntsAt w v l)(hb:Below w.heap.size w w'):IntsAt w' v l:=by
 obtain⟨a,c,rfl,h⟩:=h;refine⟨a,c,rfl,fun i hi => ?_⟩
 obtain⟨b,off,ha,hc⟩:=h i hi
 exact⟨b,off,ha,cell_later hb hc⟩
def writtenOf (l:List Int):List UInt8 × Bool:=if l.all numOk then (numsBytes l,true) else ([],false)
theorem writtenOf_no (l:List Int)(k:Nat)(hk:k<l.length)(h:numOk (l.getD k 0)=false):writtenOf l=([],false):=by
 unfold writtenOf
 rw[if_neg];intro ha;rw[List.all_eq_true] at ha
 have:=ha (l.getD k 0) (by simp[List.getD,List.getElem?_eq_getElem hk])
 rw[h] at this
 cases this
theorem ret_sb {a c:ByteArray}{b d:Bool}(h:a=c)(h2:b=d):Ending.returned (.tuple #[.string a,.bool b])=.returned (.tuple #[.string c,.bool d]):=by rw[h,h2]
theorem written_any (v:Value)(l:List Int)(w:World)(hv:IntsAt w v l)(hl:l.length≤1000) :
  Calls Tryz.prog 205 #[v] w fun e w'=>Below w.heap.size w w' ∧
   e=.returned (.tuple #[.string (bs (writtenOf l).1),.bool (writtenOf l).2]):=by
 obtain⟨a,c,rfl,hv⟩:=hv;have HV:Hid (∀ i,i<l.length→∃ b off,a=some ⟨b,off,none⟩∧w.cell? ⟨b,off+i,none⟩=some (.int .i64 (l.getD i 0))):=hv
 clear hv;go_enter Tryz.func205,Tryz.ntmps205
 go_wp2_with fail;go_loopw [4,5] (fun s i wr=>∃ k:Nat,k≤l.length∧i=.int .i64 k∧s=.string (bs (numsBytes (l.take k)))∧(l.take k).all numOk=true∧Below w.heap.size w wr) (fun _ i _=>l.length-(intOf i).toNat)
 case atStart=>exact⟨0,Nat.zero_le _,rfl,rfl,rfl,Below.refl _ _⟩
 case round =>
  obtain⟨k,hk,rfl,rfl,hall,hb⟩:=hrel;by_cases hlt:k<l.length
  ·obtain⟨b,off,rfl,hcell⟩:=HV.out k hlt
   have hcell':=cell_later hb hcell
   have ht:Hid (l.take (k+1)=l.take k++[l.getD k 0]):=take_snoc_ints l k hlt
   generalize hx:l.getD k 0=x at *
   by_cases h1:x < -1
   ·have hno:Hid (writtenOf l=([],false)):=writtenOf_no l k hlt (by rw[hx];simp[numOk];omega)
    clear hx;go_wp2_with fail;go_ret2
    exact⟨hb,by rw[hno.out];rfl⟩
   ·by_cases h2:65534<x
    ·have hno:Hid (writtenOf l=([],false)):=writtenOf_no l k hlt (by rw[hx];simp[numOk];omega)
     clear hx;go_wp2_with fail;go_ret2
     exact⟨hb,by rw[hno.out];rfl⟩
    ·clear hx
     have hs1:(bs (numsBytes (l.take k))).size≤2000:=by rw[bs_size,numsBytes_length,List.length_take];omega
     have hs2:(bs (numBytes x)).size≤2:=Nat.le_refl _
     go_wp2_with fail;refine (two_any x _ (by omega) (by omega)).mono ?_
     rintro e w1 ⟨rfl,hb1⟩;go_wp2_with fail;go_roundw
     case rel=>exact⟨k+1,by omega,by go_num,by rw[bs_append,ht.out,numsBytes_append,numsBytes_one],by rw[ht.out,List.all_append,hall];simp[numOk];omega,hb.trans (hb1.mono hb.size)⟩
     case measure=>simp[intOf];omega
  ·obtain rfl:k=l.length:=by omega
   rw[List.take_length] at hall
   have hyes:Hid (writtenOf l=(numsBytes l,true)):=by unfold writtenOf;rw[if_pos hall];exact rfl
   go_wp2_with fail;go_ret2
   exact⟨hb,by rw[hyes.out];exact ret_sb (by rw[List.take_length]) rfl⟩
def LogAt (w:World)(v:Value)(es:List Ent):Prop :=
 ∃ a c,v=.slice a es.length c∧∀ i,i<es.length→∃ b off,a=some ⟨b,off,none⟩ ∧
  w.cell? ⟨b,off+i*5,none⟩=some (.int .i64 (es.getD i Ent.zero).client)∧w.cell? ⟨b,off+i*5+1,none⟩=some (.int .i64 (es.getD i Ent.zero).seq) ∧
  w.cell? ⟨b,off+i*5+2,none⟩=some (.int .i64 (es.getD i Ent.zero).kind)∧w.cell? ⟨b,off+i*5+3,none⟩=some (.int .i64 (es.getD i Ent.zero).key) ∧
  w.cell? ⟨b,off+i*5+4,none⟩=some (.int .i64 (es.getD i Ent.zero).value)
theorem LogAt.below {w w':World}{v:Value}{es:List Ent}(h:LogAt w v es)(hb:Below w.heap.size w w'):LogAt w' v es:=by
 obtain⟨a,c,rfl,h⟩:=h;refine⟨a,c,rfl,fun i hi => ?_⟩
 obtain⟨b,off,ha,h1,h2,h3,h4,h5⟩:=h i hi
 exact⟨b,off,ha,cell_later hb h1,cell_later hb h2,cell_later hb h3,cell_later hb h4,cell_later hb h5⟩
theorem infoInt : (Tryz.prog.info? 3).map (fun i=>(i.zero,i.size,i.bytes))=some (some (.int .i64 0),1,8):=by kernel_rfl
def ints (l:List Int):List Value:=l.map (Value.int .i64)
theorem ints_length (l:List Int):(ints l).length=l.length:=by simp[ints]
theorem ints_append (l m:List Int):ints (l++m)=ints l++ints m:=by simp[ints]
theorem ints_one (l:List Int):∀ u∈ints l,u.oneCell'=true:=by
 intro u hu;simp only [ints,List.mem_map] at hu
 obtain⟨n,_,rfl⟩:=hu;rfl
theorem IntsAt.of_owns {w:World}{base:Nat}{v:Value}{l:List Int}(h:w.ownsRow base 3 1 v l.length (ints l)):IntsAt w v l:=by
 rcases h.2 with ⟨rfl,h0⟩|⟨g,cap,cur,rfl,hb,hg,_,_,hs,ht⟩
 ·exact⟨none,0,by rw[h0],fun i hi=>by omega⟩
 ·refine⟨some ⟨g,0,none⟩,cap,rfl,fun i hi=>⟨g,0,rfl, ?_⟩⟩
  have:=h.cellAt i (by omega)
  rw[Nat.zero_add,this];simp[ints,List.getD,List.getElem?_eq_getElem hi]
theorem wpList_append_ints {w:World}{ops:Array Oper}{rest:List Oper}{o:Oper}{a:Act}{Q:Exit→Act→World→Prop}(hgd:o.guard=none)(s x:Operand)
  (ho:o.op=.call { callee:=.builtin .append,args:=#[s,x],argTypes:=#[29,29] })
  (base:Nat) (v:Value) (l:List Int) (hs:a.eval s=v) (hown:w.ownsRow base 3 1 v l.length (ints l))
  (g m c:Nat) (news:List Int) (hx:a.eval x=.slice (some ⟨g,0,none⟩) m c) (hm:news.length=m) (hnews:∀ j,j<m→w.cell? ⟨g,j,none⟩=some (.int .i64 (news.getD j 0)))
  (h63:l.length+m≤1000000) (hbase:base≤w.heap.size)
  (h:∀ v' w',w'.ownsRow base 3 1 v' (l++news).length (ints (l++news))→w.grownBy w' v.ownBlock→wpList Tryz.prog ops Q rest (a.put o.dst v') w'):wpList Tryz.prog ops Q (o :: rest) a w:=by
 obtain⟨i0,hi,hz0,hz1,hz2⟩:=info_parts infoInt
 refine wpList_append_own w hgd s x 29 ho base 3 i0 _ 1 8 Tryz.underlying29 hi hz0 hz1 hz2 rfl (by decide) v l.length (ints l) hs hown ⟨g,0,none⟩ m c (ints news) hx (by rw[ints_length,hm];omega) ?_ (ints_one news) (by unfold maxLen;omega) (by omega) hbase ?_
 ·intro j u hj
  have hjl:j<news.length:=by
   have:=(List.getElem?_eq_some_iff.1 hj).1
   rwa [ints_length] at this
  have e:(⟨g,0,none⟩:Addr).add j=⟨g,j,none⟩:=by unfold Addr.add;simp;omega
  rw[e,hnews j (by omega)]
  simp[ints,List.getElem?_eq_getElem hjl] at hj
  simp[List.getD,List.getElem?_eq_getElem hjl,hj]
 ·intro v' w' h1 h2 _
  refine h v' w' ?_ h2
  rw[ints_append,List.length_append,hm];exact h1
theorem infoEnt : (Tryz.prog.info? 42).map (fun i=>(i.zero,i.size,i.bytes))=some (some (.agg #[.int .i64 0,.int .i64 0,.int .i64 0,.int .i64 0,.int .i64 0]),5,40):=by kernel_rfl
theorem wpList_append_ent {w:World}{ops:Array Oper}{rest:List Oper}{o:Oper}{a:Act}{Q:Exit→Act→World→Prop}(hgd:o.guard=none)(s x:Operand)
  (ho:o.op=.call { callee:=.builtin .append,args:=#[s,x],argTypes:=#[44,44] })
  (base:Nat) (v:Value) (l:List Ent) (hs:a.eval s=v) (hown:w.ownsRow base 42 5 v l.length (ints (entsNums l)))
  (g c:Nat) (e:Ent) (hx:a.eval x=.slice (some ⟨g,0,none⟩) 1 c) (hnews:∀ j,j<5→w.cell? ⟨g,j,none⟩=some (.int .i64 (e.nums.getD j 0)))
  (h63:l.length≤1000000) (hbase:base≤w.heap.size)
  (h:∀ v' w',w'.ownsRow base 42 5 v' (l++[e]).length (ints (entsNums (l++[e])))→w.grownBy w' v.ownBlock→wpList Tryz.prog ops Q rest (a.put o.dst v') w'):wpList Tryz.prog ops Q (o :: rest) a w:=by
 obtain⟨i0,hi,hz0,hz1,hz2⟩:=info_parts infoEnt
 refine wpList_append_own w hgd s x 44 ho base 42 i0 _ 5 40 Tryz.underlying44 hi hz0 hz1 hz2 rfl (by decide) v l.length (ints (entsNums l)) hs hown ⟨g,0,none⟩ 1 c (ints e.nums) hx rfl ?_ (ints_one _) (by unfold maxLen;omega) (by omega) hbase ?_
 ·intro j u hj
  have hjl:j<e.nums.length:=by
   have:=(List.getElem?_eq_some_iff.1 hj).1
   rwa [ints_length] at this
  have hj5:j<5:=hjl
  have e1:(⟨g,0,none⟩:Addr).add j=⟨g,j,none⟩:=by unfold Addr.add;simp;omega
  rw[e1,hnews j hj5];simp[ints,List.getElem?_eq_getElem hjl] at hj
  simp[List.getD,List.getElem?_eq_getElem hjl,hj]
 ·intro v' w' h1 h2 _
  refine h v' w' ?_ h2
  rw[entsNums_append,entsNums_one,ints_append,List.length_append];exact h1
theorem entsNums_getD (es:List Ent)(i j:Nat)(hi:i<es.length)(hj:j<5):(entsNums es).getD (i*5+j) 0=(es.getD i Ent.zero).nums.getD j 0:=by
 induction es generalizing i with
 | nil=>simp at hi
 | cons a l ih =>
  rw[show entsNums (a :: l)=a.nums++entsNums l from rfl]
  cases i with
  | zero =>
   rw[List.getD,List.getElem?_append_left (by show _<5;omega)]
   simp
  | succ i =>
   rw[List.getD,List.getElem?_append_right (by show 5≤_;omega)]
   rw[show (i+1)*5+j-a.nums.length=i*5+j by show (i+1)*5+j-5=_;omega]
   have:=ih i (by simpa using hi)
   rw[List.getD] at this
   rw[this];simp
theorem LogAt.of_owns {w:World}{base:Nat}{v:Value}{es:List Ent}(h:w.ownsRow base 42 5 v es.length (ints (entsNums es))):LogAt w v es:=by
 rcases h.2 with ⟨rfl,h0⟩|⟨g,cap,cur,rfl,hb,hg,_,_,hs,ht⟩
 ·exact⟨none,0,by rw[h0],fun i hi=>by omega⟩
 ·refine⟨some ⟨g,0,none⟩,cap,rfl,fun i hi=>⟨g,0,rfl, ?_⟩⟩
  have key:∀ j,j<5→w.cell? ⟨g,i*5+j,none⟩=some (.int .i64 ((es.getD i Ent.zero).nums.getD j 0)):=by
   intro j hj;have hlt:i*5+j<(entsNums es).length:=by rw[entsNums_length];omega
   rw[h.cellAt (i*5+j) (by omega), ← entsNums_getD es i j hi hj]
   simp[ints,List.getD,List.getElem?_eq_getElem hlt]
  refine⟨?_, ?_, ?_, ?_, ?_⟩
  ·rw[Nat.zero_add];exact key 0 (by omega)
  ·rw[Nat.zero_add];exact key 1 (by omega)
  ·rw[Nat.zero_add];exact key 2 (by omega)
  ·rw[Nat.zero_add];exact key 3 (by omega)
  ·rw[Nat.zero_add];exact key 4 (by omega)
theorem boxed (w:World)(cs:Array Value)(T:TypeId):∃ W,w.alloc (.cells cs T)=W∧Below w.heap.size w W∧W.heap.size=w.heap.size+1 ∧
  (∀ j,W.cell? ⟨w.heap.size,j,none⟩=cs[j]?)∧(∀ j,W.frozen? ⟨w.heap.size,j,none⟩=false) :=
 ⟨_,rfl,(Below.refl _ _).alloc (Nat.le_refl _) _,World.size_alloc _ _,fun j=>by rw[World.cell?_alloc_at _ _ _ _ rfl],fun j=>World.frozen?_alloc_at _ _ _ _ rfl⟩
theorem numbers_any (k f t ep ba vo po va:Int)(mem log:Value)(es:List Ent)(w:World)(hlog:LogAt w log es)(hl:es.length≤24) :
  Calls Tryz.prog 204 #[.agg #[.int .i64 k,.int .i64 f,.int .i64 t,.int .i64 ep,.int .i64 ba,.int .i64 vo,.int .i64 po,.int .i64 va,mem,log]] w fun e w'=>Below w.heap.size w w' ∧
   ∃ hd lg,e=.returned (.tuple #[hd,mem,lg])∧IntsAt w' hd [f,t,ep,ba,vo,po,va]∧IntsAt w' lg (entsNums es):=by
 obtain⟨W,hW,hb0,hsz,q, -⟩:=boxed w #[.int .i64 k,.int .i64 f,.int .i64 t,.int .i64 ep,.int .i64 ba,.int .i64 vo,.int .i64 po,.int .i64 va,mem,log] 134
 have hlog':=hlog.below hb0
 obtain⟨a,c,rfl,hlog⟩:=hlog;have HL:Hid (∀ i,i<es.length→∃ b off,a=some ⟨b,off,none⟩ ∧
  w.cell? ⟨b,off+i*5,none⟩=some (.int .i64 (es.getD i Ent.zero).client)∧w.cell? ⟨b,off+i*5+1,none⟩=some (.int .i64 (es.getD i Ent.zero).seq) ∧
  w.cell? ⟨b,off+i*5+2,none⟩=some (.int .i64 (es.getD i Ent.zero).kind)∧w.cell? ⟨b,off+i*5+3,none⟩=some (.int .i64 (es.getD i Ent.zero).key) ∧
  w.cell? ⟨b,off+i*5+4,none⟩=some (.int .i64 (es.getD i Ent.zero).value)):=hlog
 clear hlog;go_enter Tryz.func204,Tryz.ntmps204
 go_wp2_with fail;clear hW;have hsz':w.heap.size+1≤W.heap.size:=by omega
 have q9:W.cell? ⟨w.heap.size,9,none⟩=some (.slice a es.length c):=q 9
 go_loopw [5,6] (fun v i wr=>∃ n:Nat,n≤es.length∧i=.int .i64 n∧wr.ownsRow W.heap.size 3 1 v (entsNums (es.take n)).length (ints (entsNums (es.take n)))∧Below W.heap.size W wr) (fun _ i _=>es.length-(intOf i).toNat)
 case atStart=>exact⟨0,Nat.zero_le _,rfl,World.ownsRow_nil _ _ _ _,Below.refl _ _⟩
 case round =>
  obtain⟨n,hn,rfl,hown,hb⟩:=hrel;have q9':wr.cell? ⟨w.heap.size,9,none⟩=some (.slice a es.length c):=cell_later hb q9
  by_cases hlt:n<es.length
  ·obtain⟨b,off,rfl,c0,c1,c2,c3,c4⟩:=HL.out n hlt
   have hbb:=hb0.trans (hb.mono (by omega))
   have d0:=cell_later hbb c0
   have d1:=cell_later hbb c1
   have d2:=cell_later hbb c2
   have d3:=cell_later hbb c3
   have d4:=cell_later hbb c4
   have ht:Hid (es.take (n+1)=es.take n++[es.getD n Ent.zero]):=take_snoc_ents es n hlt
   generalize es.getD n Ent.zero=x at *
   clear hsz q;have hsn:(entsNums (es.take n)).length≤120:=by rw[entsNums_length,List.length_take];omega
   have hsw:=hb.size
   go_wp2_with (at_builtin;refine wpList_append_ints rfl _ _ rfl W.heap.size _ _ rfl ((hown.alloc _).alloc _) (wr.heap.size+1) 5 5 x.nums rfl rfl ?hnews ?h63 ?hbase ?_)
   case hnews=>intro j hj;match j,hj with
    | 0,_=>simp[Ent.nums]
    | 1,_=>simp[Ent.nums]
    | 2,_=>simp[Ent.nums]
    | 3,_=>simp[Ent.nums]
    | 4,_=>simp[Ent.nums]
   case h63=>omega
   case hbase=>simp;omega
   intro v' w1 hown' hgr;go_wp2
   go_roundw
   case rel =>
    refine⟨n+1,by omega,by go_num, ?_, ?_⟩
    ·rw[ht.out,entsNums_append,entsNums_one]
     simpa using hown'
    ·exact ((hb.alloc hsw _).alloc (by simp;omega) _).grown hgr (by simp;omega) (fun k hk=>(hown.lt k hk).1)
   case measure=>simp[intOf];omega
  ·obtain rfl:n=es.length:=by omega
   rw[List.take_length] at hown
   have p:∀ j,j<10→wr.cell? ⟨w.heap.size,j,none⟩=#[.int .i64 k,.int .i64 f,.int .i64 t,.int .i64 ep,.int .i64 ba,.int .i64 vo,.int .i64 po,.int .i64 va,mem,.slice a es.length c][j]?:=fun j hj=>by
    rw[← q j];exact hb.cell (p:=⟨w.heap.size,j,none⟩) (by show w.heap.size<_;omega)
   have p1:wr.cell? ⟨w.heap.size,1,none⟩=some (.int .i64 f):=p 1 (by omega)
   have p2:wr.cell? ⟨w.heap.size,2,none⟩=some (.int .i64 t):=p 2 (by omega)
   have p3:wr.cell? ⟨w.heap.size,3,none⟩=some (.int .i64 ep):=p 3 (by omega)
   have p4:wr.cell? ⟨w.heap.size,4,none⟩=some (.int .i64 ba):=p 4 (by omega)
   have p5:wr.cell? ⟨w.heap.size,5,none⟩=some (.int .i64 vo):=p 5 (by omega)
   have p6:wr.cell? ⟨w.heap.size,6,none⟩=some (.int .i64 po):=p 6 (by omega)
   have p7:wr.cell? ⟨w.heap.size,7,none⟩=some (.int .i64 va):=p 7 (by omega)
   have p8:wr.cell? ⟨w.heap.size,8,none⟩=some mem:=p 8 (by omega)
   have hws:w.heap.size<wr.heap.size:=by have:=hb.size;omega
   clear p q hsz;go_wp2
   go_region_held3 (fun w'=>w'.cell? ⟨w.heap.size,1,none⟩=some (.int .i64 f)∧w'.cell? ⟨w.heap.size,2,none⟩=some (.int .i64 t)∧w'.cell? ⟨w.heap.size,3,none⟩=some (.int .i64 ep)∧w'.cell? ⟨w.heap.size,4,none⟩=some (.int .i64 ba)∧w'.cell? ⟨w.heap.size,5,none⟩=some (.int .i64 vo)∧w'.cell? ⟨w.heap.size,6,none⟩=some (.int .i64 po)∧w'.cell? ⟨w.heap.size,7,none⟩=some (.int .i64 va)∧w'.cell? ⟨w.heap.size,8,none⟩=some mem) (go_keep) (fail)
   go_wp2
   go_ret3
   refine⟨((hb0.trans (hb.mono (by omega))).alloc (by omega) _).drew,_,_,rfl,⟨some ⟨wr.heap.size,0,none⟩,7,rfl,fun i hi=>⟨wr.heap.size,0,rfl, ?_⟩⟩,IntsAt.of_owns (hown.alloc _).drew⟩
   match i,hi with
   | 0,_=>simp
   | 1,_=>simp
   | 2,_=>simp
   | 3,_=>simp
   | 4,_=>simp
   | 5,_=>simp
   | 6,_=>simp
theorem hideA {p:Prop}(h:p):Hid p:=h
theorem cordonlaw_sameInts (a b:Value)(l:List Int)(w:World)(ha:IntsAt w a l)(hb:IntsAt w b l)(hl:l.length≤140737488355328) :
  Calls Tryz.prog 98 #[a,b] w fun e w'=>e=.returned (.bool true)∧∃ q,w'=w.drewN q:=by
 obtain⟨x,c,rfl,ha⟩:=ha;obtain⟨y,d,rfl,hb⟩:=hb;have HA:Hid (∀ i,i<l.length→∃ b off,x=some ⟨b,off,none⟩∧w.cell? ⟨b,off+i,none⟩=some (.int .i64 (l.getD i 0))):=ha
 have HB:Hid (∀ i,i<l.length→∃ b off,y=some ⟨b,off,none⟩∧w.cell? ⟨b,off+i,none⟩=some (.int .i64 (l.getD i 0))):=hb
 clear ha hb;go_enter Tryz.func98,Tryz.ntmps98
 go_wp2_with fail;go_loopw [5] (fun i wr=>∃ k q:Nat,k≤l.length∧i=.int .i64 k∧wr=w.drewN q) (fun i _=>l.length-(intOf i).toNat)
 case atStart=>exact⟨0,0,Nat.zero_le _,rfl,rfl⟩
 case round =>
  obtain⟨k,q,hk,rfl,rfl⟩:=hrel;have hl0:(0:Int)≤(k:Int):=by omega
  by_cases hlt:k<l.length
  ·obtain⟨b1,o1,rfl,c1⟩:=HA.out k hlt
   obtain⟨b2,o2,rfl,c2⟩:=HB.out k hlt
   generalize l.getD k 0=v at *
   have hl1:(k:Int)<(l.length:Int):=by omega
   go_wp2_with fail;go_quiet (fail)
   go_wp2_with fail;exact⟨⟨k+1,_,by omega,by go_num,rfl⟩,by simp[intOf];omega⟩
  ·go_wp2_with fail
   go_ret;exact⟨rfl,q,rfl⟩
theorem cordonlaw_sameLogs (a b:Value)(l:List Ent)(w:World)(ha:LogAt w a l)(hb:LogAt w b l)(hl:l.length≤140737488355328) :
  Calls Tryz.prog 99 #[a,b] w fun e w'=>e=.returned (.bool true)∧∃ q,w'=w.drewN q:=by
 obtain⟨x,c,rfl,ha⟩:=ha;obtain⟨y,d,rfl,hb⟩:=hb;have HA:=hideA ha;have HB:=hideA hb;clear ha hb;go_enter Tryz.func99,Tryz.ntmps99
 go_wp2_with fail;go_loopw [5] (fun i wr=>∃ k q:Nat,k≤l.length∧i=.int .i64 k∧wr=w.drewN q) (fun i _=>l.length-(intOf i).toNat)
 case atStart=>exact⟨0,0,Nat.zero_le _,rfl,rfl⟩
 case round =>
  obtain⟨k,q,hk,rfl,rfl⟩:=hrel;have hl0:(0:Int)≤(k:Int):=by omega
  by_cases hlt:k<l.length
  ·obtain⟨b1,o1,rfl,c1,c2,c3,c4,c5⟩:=HA.out k hlt
   obtain⟨b2,o2,rfl,d1,d2,d3,d4,d5⟩:=HB.out k hlt
   generalize l.getD k Ent.zero=v at *
   have hl1:(k:Int)<(l.length:Int):=by omega
   go_wp2_with fail;go_quiet (fail)
   go_wp2_with fail;exact⟨⟨k+1,_,by omega,by go_num,rfl⟩,by simp[intOf];omega⟩
  ·go_wp2_with fail
   go_ret;exact⟨rfl,q,rfl⟩
end Go.Proofs.YtgieeeeeiggoeaaGreat
