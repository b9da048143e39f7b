import Derived.Test.YtgieeeeeiggoeaaGreatD01
import Derived.Test.YtgieeeeeiggoeaaGreatProg
import Derived.WalkKit
import Derived.WalkSpells
import Derived.WalkLawsBesides
import Derived.Deep.RegionHeld3
import Derived.Deep.QuietTactic
import Derived.BigQuiet
set_option maxRecDepth 100000
set_option maxHeartbeats 1000000
namespace Go.Proofs.YtgieeeeeiggoeaaGreat
open Go.RowKit
open Tryz
variable {a:Act}{ops:Array Oper}{Q:Exit->Act->World->Prop}{l:List Int}{rest:List Oper}{base:Nat}{o:Oper}{v:Value}{w w':World}
theorem ni {k:IntKind}{a b:Int}(h:a=b):Ending.returned (.int k a)=.returned (.int k b):=by rw[h]
theorem Kb (c:Nat)(h:c<4294967296):bits .and .u32 (c:Int) 1=((c % 2:Nat):Int):=by
 have:=u32_and_nat c 1 h (by omega)
 rw[show ((1:Int)=((1:Nat):Int)) from rfl,this,Nat.and_one_is_mod]
theorem U8 (c:Nat)(h:c<4294967296):bits .xor .u32 (c:Int) 3988292384=((c ^^^ 3988292384:Nat):Int):=by
 have:=u32_xor_nat c 3988292384 h (by omega)
 exact this
theorem nk (n:Nat)(h:n<9223372036854775808):IntKind.i64.wrap (n:Int)=(n:Int):=by
 have e:IntKind.i64.wrap (n:Int)=if (true && decide ((n:Int) % 18446744073709551616 ≥ 9223372036854775808))=true then (n:Int) % 18446744073709551616-18446744073709551616 else (n:Int) % 18446744073709551616:=rfl
 rw[e];have:((n:Int) % 18446744073709551616)=n:=by omega
 simp only [this];rw[if_neg];simp only [Bool.true_and,jt];omega
theorem Fh (a b:Nat)(ha:a<9223372036854775808)(hb:b<9223372036854775808):bits .xor .i64 (a:Int) (b:Int)=((a ^^^ b:Nat):Int):=by
 have hx:a ^^^ b<2 ^ 63:=Nat.xor_lt_two_pow (by omega) (by omega)
 have h1:(BitVec.ofInt 64 (a:Int)).toNat=a:=by
  rw[BitVec.ofInt_natCast,BitVec.toNat_ofNat];exact Nat.mod_eq_of_lt (by omega)
 have h2:(BitVec.ofInt 64 (b:Int)).toNat=b:=by
  rw[BitVec.ofInt_natCast,BitVec.toNat_ofNat];exact Nat.mod_eq_of_lt (by omega)
 show IntKind.i64.wrap ((BitVec.ofInt 64 (a:Int) ^^^ BitVec.ofInt 64 (b:Int)).toNat:Int)=_;rw[BitVec.toNat_xor,h1,h2];exact nk _ (by omega)
theorem TQ (c:Nat)(w:World)(h1:c<4294967296) :
  Calls prog 182 #[.int .u32 (c:Int)] w fun e w'=>e=.returned (.int .u32 (oZ c:Nat))/\w'=w:=by
 have ha:=Kb c h1;have hx:=U8 (c / 2) (by omega)
 have hx':bits .xor .u32 ((c:Int) / 2) 3988292384=((c / 2 ^^^ 3988292384:Nat):Int):=by rw[<- hx];rfl
 have H1:Hid (bits .and .u32 (c:Int) 1=((c % 2:Nat):Int)):=ha;have H2:Hid (bits .xor .u32 ((c:Int) / 2) 3988292384=((c / 2 ^^^ 3988292384:Nat):Int)):=hx';clear ha hx hx';go_enter func182,ntmps182;go_wp2
 ·go_ret
  refine⟨ni ?_,rfl⟩
  rename_i h;rw[H1.out] at h;have hc:c % 2=1:=by simp at h;omega
  rw[H2.out];unfold oZ;rw[if_pos hc]
 ·go_ret
  refine⟨ni ?_,rfl⟩
  rename_i h;rw[H1.out] at h;have hc:¬ c % 2=1:=by simp at h;omega
  unfold oZ;rw[if_neg hc];rfl
theorem U5 (c:Nat)(b:UInt8)(h:c<4294967296):bits .xor .u32 (c:Int) (b.toNat:Int)=((c ^^^ b.toNat:Nat):Int) :=
 u32_xor_nat c b.toNat h (by have:=b.toNat_lt;omega)
theorem U6 (c:Nat)(h:c<4294967296):4294967295 ^^^ c=4294967295-c:=by
 have h2:=BitVec.toNat_not (x:=BitVec.ofNat 32 c);have h3:(~~~ (BitVec.ofNat 32 c))=BitVec.allOnes 32 ^^^ BitVec.ofNat 32 c:=by
  rw[BitVec.allOnes_xor]
 rw[h3,BitVec.toNat_xor,BitVec.toNat_allOnes,BitVec.toNat_ofNat,Nat.mod_eq_of_lt (by omega)] at h2
 simpa using h2
theorem Rw (c:Nat)(h:c<4294967296):bits .xor .u32 IntKind.u32.max (c:Int)=((4294967295-c:Nat):Int):=by
 have e:IntKind.u32.max=((4294967295:Nat):Int):=by decide
 rw[e,u32_xor_nat _ _ (by omega) h,U6 c h]
theorem Li (s:ByteArray)(w:World)(hs:s.size<=maxLen) :
  Calls prog 158 #[.string s] w fun e w'=>e=.returned (.int .u32 (crc s.data.toList:Nat))/\w'=w:=by
 unfold maxLen at hs;go_enter func158,ntmps158;go_wp2;go_loop [3,7] (fun c i=>∃ k:Nat,k<=s.size/\i=.int .i64 k/\c=.int .u32 (iX (s.data.toList.take k):Nat)) (fun _ i=>s.size-(intOf i).toNat)
 case atStart=>exact⟨0,bl _,rfl,rfl⟩
 case round =>
  obtain⟨k,hk,rfl,rfl⟩:=hrel;have pY:=DC (s.data.toList.take k);by_cases hlt:k<s.size
  ·have hsn:Hid (iX (s.data.toList.take (k+1))=sw (iX (s.data.toList.take k)) s[k].toNat):=by
    rw[Ho s k hlt];exact DD _ _
   have hbx:=U5 (iX (s.data.toList.take k)) s[k] pY;have hb256:=s[k].toNat_lt;have yE:Hid (bits .xor .u32 ((iX (s.data.toList.take k):Nat):Int) (s[k].toNat:Int)=((iX (s.data.toList.take k) ^^^ s[k].toNat:Nat):Int)):=hbx;clear hbx;have hlt1:iX (s.data.toList.take k) ^^^ s[k].toNat<4294967296:=Nat.xor_lt_two_pow (n:=32) pY (by omega)
   generalize iX (s.data.toList.take k)=c at *;go_wp2;rw[yE.out];go_loop [3,16] (fun c' i=>∃ j:Nat,j<=8/\i=.int .i64 j/\c'=.int .u32 (pP j (c ^^^ s[k].toNat):Nat)) (fun _ i=>8-(intOf i).toNat)
   case atStart=>exact⟨0,bl _,rfl,rfl⟩
   case round =>
    obtain⟨j,hj,rfl,rfl⟩:=hrel;have hcl:=zi j _ hlt1;by_cases Ob:j<8
    ·go_wp2_with (go_at_call 182;refine (TQ _ _ hcl).mono ?_;rintro e w' ⟨rfl,rfl⟩)
     go_round
     case rel=>exact⟨j+1,by omega,by go_num,rfl⟩
     case measure=>simp[intOf];omega
    ·obtain rfl:j=8:=by omega
     go_wp2;go_round
     case rel=>exact⟨k+1,by omega,by go_num,by rw[hsn.out];rfl⟩
     case measure=>simp[intOf];omega
  ·obtain rfl:k=s.size:=by omega
   go_wp2;go_ret;refine⟨ni ?_,rfl⟩
   have et:s.data.toList.take s.size=s.data.toList:=jF (by simp)
   rw[et] at pY;rw[et,Rw _ pY];rfl
theorem U4 (c:Nat)(b:UInt8)(h:c<4294967296):bits .xor .i64 (c:Int) (b.toNat:Int)=((c ^^^ b.toNat:Nat):Int) :=
 Fh c b.toNat (by omega) (by have:=b.toNat_lt;omega)
theorem U7 (c:Nat)(h:c<4294967296):bits .xor .i64 (c:Int) 3988292384=((c ^^^ 3988292384:Nat):Int):=by
 have:=Fh c 3988292384 (by omega) (by omega)
 exact this
theorem yN (s:ByteArray)(w:World)(hs:s.size<=maxLen) :
  Calls prog 168 #[.string s] w fun e w'=>e=.returned (.int .i64 (crc s.data.toList:Nat))/\w'=w:=by
 unfold maxLen at hs;go_enter func168,ntmps168;go_wp2;go_loop [3,4] (fun c i=>∃ k:Nat,k<=s.size/\i=.int .i64 k/\c=.int .i64 (iX (s.data.toList.take k):Nat)) (fun _ i=>s.size-(intOf i).toNat)
 case atStart=>exact⟨0,bl _,rfl,rfl⟩
 case round =>
  obtain⟨k,hk,rfl,rfl⟩:=hrel;have pY:=DC (s.data.toList.take k);by_cases hlt:k<s.size
  ·have hsn:Hid (iX (s.data.toList.take (k+1))=sw (iX (s.data.toList.take k)) s[k].toNat):=by
    rw[Ho s k hlt];exact DD _ _
   have yE:Hid (bits .xor .i64 ((iX (s.data.toList.take k):Nat):Int) (s[k].toNat:Int)=((iX (s.data.toList.take k) ^^^ s[k].toNat:Nat):Int)):=U4 (iX (s.data.toList.take k)) s[k] pY;have hb256:=s[k].toNat_lt;have hlt1:iX (s.data.toList.take k) ^^^ s[k].toNat<4294967296:=Nat.xor_lt_two_pow (n:=32) pY (by omega)
   generalize iX (s.data.toList.take k)=c at *;go_wp2;rw[yE.out];go_loop [3,5] (fun c' i=>∃ j:Nat,j<=8/\i=.int .i64 j/\c'=.int .i64 (pP j (c ^^^ s[k].toNat):Nat)) (fun _ i=>8-(intOf i).toNat)
   case atStart=>exact⟨0,bl _,rfl,rfl⟩
   case round =>
    obtain⟨j,hj,rfl,rfl⟩:=hrel;have hcl:=zi j _ hlt1;by_cases Ob:j<8
    ·have hst:Hid (pP (j+1) (c ^^^ s[k].toNat)=oZ (pP j (c ^^^ s[k].toNat))):=rfl
     generalize pP j (c ^^^ s[k].toNat)=d at *;have hx:Hid (bits .xor .i64 ((d / 2:Nat):Int) 3988292384=((d / 2 ^^^ 3988292384:Nat):Int)):=U7 (d / 2) (by omega)
     by_cases hodd:d % 2=1
     ·have ho:(((d:Int) % 2) == 1)=true:=by rw[beq_iff_eq];omega
      go_wp2;go_round
      case rel=>exact⟨j+1,by omega,by go_num,by rw[hst.out];unfold oZ;rw[if_pos hodd];rw[<- hx.out];rfl⟩
      case measure=>simp[intOf];omega
     ·have ho:(((d:Int) % 2) == 1)=false:=by rw[beq_eq_false_iff_ne];omega
      go_wp2;go_round
      case rel=>exact⟨j+1,by omega,by go_num,by rw[hst.out];unfold oZ;rw[if_neg hodd];rfl⟩
      case measure=>simp[intOf];omega
    ·obtain rfl:j=8:=by omega
     go_wp2;go_round
     case rel=>exact⟨k+1,by omega,by go_num,by rw[hsn.out];rfl⟩
     case measure=>simp[intOf];omega
  ·obtain rfl:k=s.size:=by omega
   go_wp2;go_ret;refine⟨ni ?_,rfl⟩
   have et:s.data.toList.take s.size=s.data.toList:=jF (by simp)
   rw[et] at pY;rw[et];unfold crc;omega
theorem DB (w:World)(x:Int):(convert 169 9 (.slice (some w.heap.size) 1 1)).run prog (w.alloc (.cells #[.int .u8 x] 5))
  = .ok (.string ⟨#[UInt8.ofNat x.toNat]⟩) (w.alloc (.cells #[.int .u8 x] 5)):=by
 have h:=run_convert_bytes_arg (P:=prog) (w.alloc (.cells #[.int .u8 x] 5)) 169 5 underlying169 underlying5 w.heap.size 0 1 1 [x] rfl (fun i hi=>by
  obtain rfl:i=0:=by omega
  simp) 9 underlying9
 rw[h];rfl
theorem LG (w:World)(a b c d:Int):(convert 169 9 (.slice (some w.heap.size) 4 4)).run prog (w.alloc (.cells #[.int .u8 a,.int .u8 b,.int .u8 c,.int .u8 d] 5))
  = .ok (.string ⟨#[UInt8.ofNat a.toNat,UInt8.ofNat b.toNat,UInt8.ofNat c.toNat,UInt8.ofNat d.toNat]⟩) (w.alloc (.cells #[.int .u8 a,.int .u8 b,.int .u8 c,.int .u8 d] 5)):=by
 have h:=run_convert_bytes_arg (P:=prog) (w.alloc (.cells #[.int .u8 a,.int .u8 b,.int .u8 c,.int .u8 d] 5)) 169 5 underlying169 underlying5 w.heap.size 0 4 4 [a,b,c,d] rfl (fun i hi=>by
  match i,hi with
  | 0,_=>simp
  | 1,_=>simp
  | 2,_=>simp
  | 3,_=>simp) 9 underlying9
 rw[h];rfl
theorem Bz {a b:ByteArray}(h:a=b):Ending.returned (.string a)=.returned (.string b):=by rw[h]
theorem xh (n:Nat):UInt8.ofNat (n % 256)=UInt8.ofNat n:=by
 apply UInt8.toNat_inj.1;simp
theorem Qj (n:Int)(h:0<=n):UInt8.ofNat (n % 256).toNat=jZ n.toNat:=by
 have:(n % 256).toNat=n.toNat % 256:=by omega
 rw[this,xh];rfl
theorem lk (n:Int)(w:World)(h0:0<=n) :
  Calls prog 169 #[.int .i64 n] w fun e w'=>e=.returned (.string (bs (bp n.toNat)))/\Below w.heap.size w w':=by
 have hc:=DB;go_enter func169,ntmps169;go_wp2;go_ret;exact⟨Bz (by rw[Qj n h0];rfl),(Below.refl _ _).alloc (aG _) _⟩
theorem UF (n:Int)(w:World)(h0 : -1<=n)(h1:n<=65534) :
  Calls prog 219 #[.int .i64 n] w fun e w'=>e=.returned (.string (bs (gX n)))/\Below w.heap.size w w':=by
 go_enter func219,ntmps219;go_wp2_with fail;refine (lk _ _ (by omega)).mono ?_
 rintro e w1 ⟨rfl,hb1⟩;go_wp2_with fail;refine (lk _ _ (by omega)).mono ?_
 rintro e w2 ⟨rfl,hb2⟩;go_wp2_with fail;go_ret;refine⟨Bz ?_,hb1.trans (hb2.mono hb1.size)⟩
 rw[za,show ((n+1) / 256).toNat=(n+1).toNat / 256 by omega]
 rfl
theorem BR (s:ByteArray)(w:World)(hs:s.size<=maxLen) :
  Calls prog 124 #[.string s] w fun e w'=>e=.returned (.string (bs (h_ s.data.toList)))/\Below w.heap.size w w':=by
 have hc:=wk s.data.toList;have hc4:=LG;go_enter func124,ntmps124;go_wp2_with (go_at_call 158;refine (Li _ _ hs).mono ?_;rintro e w' ⟨rfl,rfl⟩)
 go_ret;refine⟨Bz ?_,(Below.refl _ _).alloc (aG _) _⟩
 unfold h_;generalize crc s.data.toList=c at *;rw[xh,xh,xh];rfl
def bJ (w:World)(v:Value)(l:List Int):Prop :=
 ∃ a c,v=.slice a l.length c/\∀ i,i<l.length->∃ b off,a=some ⟨b,off,none⟩/\w.cell? ⟨b,off+i,none⟩=some (.int .i64 (l.getD i 0))
theorem bJ.below (h:bJ w v l)(hb:Below w.heap.size w w'):bJ w' v l:=by
 obtain⟨a,c,rfl,h⟩:=h;refine⟨a,c,rfl,fun i hi => ?_⟩
 obtain⟨b,off,ha,hc⟩:=h i hi;exact⟨b,off,ha,cell_later hb hc⟩
def np (l:List Int):List UInt8 × Bool:=if l.all db then (bB l,true) else ([],false)
theorem Ia (l:List Int)(k:Nat)(hk:k<l.length)(h:db (l.getD k 0)=false):np l=([],false):=by
 unfold np;rw[if_neg];intro ha;rw[List.all_eq_true] at ha;have:=ha (l.getD k 0) (by simp[List.getD,List.getElem?_eq_getElem hk])
 rw[h] at this;cases this
theorem Tp {a c:ByteArray}{b d:Bool}(h:a=c)(h2:b=d):Ending.returned (.tuple #[.string a,.bool b])=.returned (.tuple #[.string c,.bool d]):=by rw[h,h2]
theorem Cb (v:Value)(l:List Int)(w:World)(hv:bJ w v l)(hl:l.length<=1000) :
  Calls prog 205 #[v] w fun e w'=>Below w.heap.size w w' /\
   e=.returned (.tuple #[.string (bs (np l).1),.bool (np l).2]):=by
 obtain⟨a,c,rfl,hv⟩:=hv;have HV:Hid (∀ i,i<l.length->∃ b off,a=some ⟨b,off,none⟩/\w.cell? ⟨b,off+i,none⟩=some (.int .i64 (l.getD i 0))):=hv;clear hv;go_enter func205,ntmps205;go_wp2_with fail;go_loopw [4,5] (fun s i wr=>∃ k:Nat,k<=l.length/\i=.int .i64 k/\s=.string (bs (bB (l.take k)))/\(l.take k).all db=true/\Below w.heap.size w wr) (fun _ i _=>l.length-(intOf i).toNat)
 case atStart=>exact⟨0,bl _,rfl,rfl,rfl,Below.refl _ _⟩
 case round =>
  obtain⟨k,hk,rfl,rfl,hall,hb⟩:=hrel;by_cases hlt:k<l.length
  ·obtain⟨b,off,rfl,hcell⟩:=HV.out k hlt
   have hcell':=cell_later hb hcell;have ht:Hid (l.take (k+1)=l.take k++[l.getD k 0]):=mD l k hlt;generalize hx:l.getD k 0=x at *;by_cases h1:x < -1
   ·have hno:Hid (np l=([],false)):=Ia l k hlt (by rw[hx];simp[db];omega)
    clear hx;go_wp2_with fail;go_ret2;exact⟨hb,by rw[hno.out];rfl⟩
   ·by_cases h2:65534<x
    ·have hno:Hid (np l=([],false)):=Ia l k hlt (by rw[hx];simp[db];omega)
     clear hx;go_wp2_with fail;go_ret2;exact⟨hb,by rw[hno.out];rfl⟩
    ·clear hx
     have hs1:(bs (bB (l.take k))).size<=2000:=by rw[iy,kG,dA];omega
     have hs2:(bs (gX x)).size<=2:=aG _;go_wp2_with fail;refine (UF x _ (by omega) (by omega)).mono ?_
     rintro e w1 ⟨rfl,hb1⟩;go_wp2_with fail;go_roundw
     case rel=>exact⟨k+1,by omega,by go_num,by rw[za,ht.out,uR,uS],by rw[ht.out,List.all_append,hall];simp[db];omega,hb.trans (hb1.mono hb.size)⟩
     case measure=>simp[intOf];omega
  ·obtain rfl:k=l.length:=by omega
   rw[je] at hall;have hyes:Hid (np l=(bB l,true)):=by unfold np;rw[if_pos hall];exact rfl
   go_wp2_with fail;go_ret2;exact⟨hb,by rw[hyes.out];exact Tp (by rw[je]) rfl⟩
def eM (w:World)(v:Value)(es:List aH):Prop :=
 ∃ a c,v=.slice a es.length c/\∀ i,i<es.length->∃ b off,a=some ⟨b,off,none⟩ /\
  w.cell? ⟨b,off+i*5,none⟩=some (.int .i64 (es.getD i aH.zero).client)/\w.cell? ⟨b,off+i*5+1,none⟩=some (.int .i64 (es.getD i aH.zero).seq) /\
  w.cell? ⟨b,off+i*5+2,none⟩=some (.int .i64 (es.getD i aH.zero).kind)/\w.cell? ⟨b,off+i*5+3,none⟩=some (.int .i64 (es.getD i aH.zero).key) /\
  w.cell? ⟨b,off+i*5+4,none⟩=some (.int .i64 (es.getD i aH.zero).value)
theorem eM.below {es:List aH}(h:eM w v es)(hb:Below w.heap.size w w'):eM w' v es:=by
 obtain⟨a,c,rfl,h⟩:=h;refine⟨a,c,rfl,fun i hi => ?_⟩
 obtain⟨b,off,ha,h1,h2,h3,h4,h5⟩:=h i hi;exact⟨b,off,ha,cell_later hb h1,cell_later hb h2,cell_later hb h3,cell_later hb h4,cell_later hb h5⟩
theorem rD : (prog.info? 3).map (fun i=>(i.zero,i.size,i.bytes))=some (some (.int .i64 0),1,8):=by kernel_rfl
def aJ (l:List Int):List Value:=l.map (Value.int .i64)
theorem fP (l:List Int):(aJ l).length=l.length:=by simp[aJ]
theorem pk (l m:List Int):aJ (l++m)=aJ l++aJ m:=by simp[aJ]
theorem kE (l:List Int):∀ u∈aJ l,u.oneCell'=true:=by
 intro u hu;simp only [aJ,List.mem_map] at hu;obtain⟨n,_,rfl⟩:=hu;rfl
theorem bJ.cM (h:w.ownsRow base 3 1 v l.length (aJ l)):bJ w v l:=by
 rcases h.2 with ⟨rfl,h0⟩|⟨g,cap,cur,rfl,hb,hg,_,_,hs,ht⟩
 ·exact⟨none,0,by rw[h0],fun i hi=>by omega⟩
 ·refine⟨some ⟨g,0,none⟩,cap,rfl,fun i hi=>⟨g,0,rfl, ?_⟩⟩
  have:=h.cellAt i (by omega)
  rw[fh,this];simp[aJ,List.getD,List.getElem?_eq_getElem hi]
theorem H_ {w:World}{ops:Array Oper}{rest:List Oper}{a:Act}{Q:Exit->Act->World->Prop}(hgd:o.guard=none)(s x:Operand)
  (ho:o.op=.call { callee:=.builtin .append,args:=#[s,x],argTypes:=#[29,29] })
  (base:Nat) (v:Value) (l:List Int) (hs:a.eval s=v) (hown:w.ownsRow base 3 1 v l.length (aJ l))
  (g m c:Nat) (news:List Int) (hx:a.eval x=.slice (some g) m c) (hm:news.length=m) (hnews:∀ j,j<m->w.cell? ⟨g,j,none⟩=some (.int .i64 (news.getD j 0)))
  (h63:l.length+m<=1000000) (hbase:base<=w.heap.size)
  (h:∀ v' w',w'.ownsRow base 3 1 v' (l++news).length (aJ (l++news))->w.grownBy w' v.ownBlock->wpList prog ops Q rest (a.put o.dst v') w'):wpList prog ops Q (o :: rest) a w:=by
 obtain⟨i0,hi,hz0,hz1,hz2⟩:=info_parts rD;refine wpList_append_own w hgd s x 29 ho base 3 i0 _ 1 8 underlying29 hi hz0 hz1 hz2 rfl (by decide) v l.length (aJ l) hs hown ⟨g,0,none⟩ m c (aJ news) hx (by rw[fP,hm];omega) ?_ (kE news) (by unfold maxLen;omega) (by omega) hbase ?_
 ·intro j u hj
  have hjl:j<news.length:=by
   have:=(dI.1 hj).1
   rwa [fP] at this
  have e:(⟨g,0,none⟩:Addr).add j=⟨g,j,none⟩:=by unfold Addr.add;simp;omega
  rw[e,hnews j (by omega)]
  simp[aJ,List.getElem?_eq_getElem hjl] at hj
  simp[List.getD,List.getElem?_eq_getElem hjl,hj]
 ·intro v' w' h1 h2 _
  refine h v' w' ?_ h2
  rw[pk,bG,hm];exact h1
theorem uL : (prog.info? 42).map (fun i=>(i.zero,i.size,i.bytes))=some (some (.agg #[(),(),(),(),()]),5,40):=by kernel_rfl
theorem UZ {w:World}{ops:Array Oper}{rest:List Oper}{a:Act}{Q:Exit->Act->World->Prop}(hgd:o.guard=none)(s x:Operand)
  (ho:o.op=.call { callee:=.builtin .append,args:=#[s,x],argTypes:=#[44,44] })
  (base:Nat) (v:Value) (l:List aH) (hs:a.eval s=v) (hown:w.ownsRow base 42 5 v l.length (aJ (bk l)))
  (g c:Nat) (e:aH) (hx:a.eval x=.slice (some g) 1 c) (hnews:∀ j,j<5->w.cell? ⟨g,j,none⟩=some (.int .i64 (e.nums.getD j 0)))
  (h63:l.length<=1000000) (hbase:base<=w.heap.size)
  (h:∀ v' w',w'.ownsRow base 42 5 v' (l++[e]).length (aJ (bk (l++[e])))->w.grownBy w' v.ownBlock->wpList prog ops Q rest (a.put o.dst v') w'):wpList prog ops Q (o :: rest) a w:=by
 obtain⟨i0,hi,hz0,hz1,hz2⟩:=info_parts uL;refine wpList_append_own w hgd s x 44 ho base 42 i0 _ 5 40 underlying44 hi hz0 hz1 hz2 rfl (by decide) v l.length (aJ (bk l)) hs hown ⟨g,0,none⟩ 1 c (aJ e.nums) hx rfl ?_ (kE _) (by unfold maxLen;omega) (by omega) hbase ?_
 ·intro j u hj
  have hjl:j<e.nums.length:=by
   have:=(dI.1 hj).1
   rwa [fP] at this
  have N_:j<5:=hjl;have e1:(⟨g,0,none⟩:Addr).add j=⟨g,j,none⟩:=by unfold Addr.add;simp;omega
  rw[e1,hnews j N_];simp[aJ,List.getElem?_eq_getElem hjl] at hj
  simp[List.getD,List.getElem?_eq_getElem hjl,hj]
 ·intro v' w' h1 h2 _
  refine h v' w' ?_ h2
  rw[ou,qP,pk,bG];exact h1
theorem DO (es:List aH)(i j:Nat)(hi:i<es.length)(hj:j<5):(bk es).getD (i*5+j) 0=(es.getD i aH.zero).nums.getD j 0:=by
 induction es generalizing i with
 | nil=>simp at hi
 | cons a l ih =>
  rw[show bk (a :: l)=a.nums++bk l from rfl];cases i with
  | zero =>
   rw[List.getD,List.getElem?_append_left (by show _<5;omega)]
   simp
  | succ i =>
   rw[List.getD,kH (by show 5<=_;omega)]
   rw[show (i+1)*5+j-a.nums.length=i*5+j by show (i+1)*5+j-5=_;omega]
   have:=ih i (by simpa using hi)
   rw[List.getD] at this;rw[this];simp
theorem eM.cM {es:List aH}(h:w.ownsRow base 42 5 v es.length (aJ (bk es))):eM w v es:=by
 rcases h.2 with ⟨rfl,h0⟩|⟨g,cap,cur,rfl,hb,hg,_,_,hs,ht⟩
 ·exact⟨none,0,by rw[h0],fun i hi=>by omega⟩
 ·refine⟨some ⟨g,0,none⟩,cap,rfl,fun i hi=>⟨g,0,rfl, ?_⟩⟩
  have key:∀ j,j<5->w.cell? ⟨g,i*5+j,none⟩=some (.int .i64 ((es.getD i aH.zero).nums.getD j 0)):=by
   intro j hj;have hlt:i*5+j<(bk es).length:=by rw[kt];omega
   rw[h.cellAt (i*5+j) (by omega), <- DO es i j hi hj]
   simp[aJ,List.getD,List.getElem?_eq_getElem hlt]
  refine⟨?_, ?_, ?_, ?_, ?_⟩
  ·rw[fh];exact key 0 (by omega)
  ·rw[fh];exact key 1 (by omega)
  ·rw[fh];exact key 2 (by omega)
  ·rw[fh];exact key 3 (by omega)
  ·rw[fh];exact key 4 (by omega)
theorem fI (w:World)(cs:Array Value)(T:TypeId):∃ W,w.alloc (.cells cs T)=W/\Below w.heap.size w W/\W.heap.size=w.heap.size+1 /\
  (∀ j,W.cell? ⟨w.heap.size,j,none⟩=cs[j]?)/\(∀ j,W.frozen? ⟨w.heap.size,j,none⟩=false) :=
 ⟨_,rfl,(Below.refl _ _).alloc (aG _) _,World.size_alloc _ _,fun j=>by rw[World.cell?_alloc_at _ _ _ _ rfl],fun j=>World.frozen?_alloc_at _ _ _ _ rfl⟩
theorem RC (k f t ep ba vo po va:Int)(mem log:Value)(es:List aH)(w:World)(dy:eM w log es)(hl:es.length<=24) :
  Calls prog 204 #[.agg #[.int .i64 k,.int .i64 f,.int .i64 t,.int .i64 ep,.int .i64 ba,.int .i64 vo,.int .i64 po,.int .i64 va,mem,log]] w fun e w'=>Below w.heap.size w w' /\
   ∃ hd lg,e=.returned (.tuple #[hd,mem,lg])/\bJ w' hd [f,t,ep,ba,vo,po,va]/\bJ w' lg (bk es):=by
 obtain⟨W,hW,hb0,hsz,q, -⟩:=fI w #[.int .i64 k,.int .i64 f,.int .i64 t,.int .i64 ep,.int .i64 ba,.int .i64 vo,.int .i64 po,.int .i64 va,mem,log] 134;have VY:=dy.below hb0;obtain⟨a,c,rfl,dy⟩:=dy;have HL:Hid (∀ i,i<es.length->∃ b off,a=some ⟨b,off,none⟩ /\
  w.cell? ⟨b,off+i*5,none⟩=some (.int .i64 (es.getD i aH.zero).client)/\w.cell? ⟨b,off+i*5+1,none⟩=some (.int .i64 (es.getD i aH.zero).seq) /\
  w.cell? ⟨b,off+i*5+2,none⟩=some (.int .i64 (es.getD i aH.zero).kind)/\w.cell? ⟨b,off+i*5+3,none⟩=some (.int .i64 (es.getD i aH.zero).key) /\
  w.cell? ⟨b,off+i*5+4,none⟩=some (.int .i64 (es.getD i aH.zero).value)):=dy
 clear dy;go_enter func204,ntmps204;go_wp2_with fail;clear hW;have hsz':w.heap.size+1<=W.heap.size:=by omega
 have q9:W.cell? (w.heap.size,9)=some (.slice a es.length c):=q 9;go_loopw [5,6] (fun v i wr=>∃ n:Nat,n<=es.length/\i=.int .i64 n/\wr.ownsRow W.heap.size 3 1 v (bk (es.take n)).length (aJ (bk (es.take n)))/\Below W.heap.size W wr) (fun _ i _=>es.length-(intOf i).toNat)
 case atStart=>exact⟨0,bl _,rfl,World.ownsRow_nil _ _ _ _,Below.refl _ _⟩
 case round =>
  obtain⟨n,hn,rfl,hown,hb⟩:=hrel;have Wn:wr.cell? (w.heap.size,9)=some (.slice a es.length c):=cell_later hb q9;by_cases hlt:n<es.length
  ·obtain⟨b,off,rfl,c0,c1,c2,c3,c4⟩:=HL.out n hlt
   have hbb:=hb0.trans (hb.mono (by omega))
   have d0:=cell_later hbb c0;have d1:=cell_later hbb c1;have d2:=cell_later hbb c2;have d3:=cell_later hbb c3;have d4:=cell_later hbb c4;have ht:Hid (es.take (n+1)=es.take n++[es.getD n aH.zero]):=xN es n hlt;generalize es.getD n aH.zero=x at *;clear hsz q;have hsn:(bk (es.take n)).length<=120:=by rw[kt,dA];omega
   have hsw:=hb.size;go_wp2_with (at_builtin;refine H_ rfl _ _ rfl W.heap.size _ _ rfl ((hown.alloc _).alloc _) (wr.heap.size+1) 5 5 x.nums rfl rfl ?hnews ?h63 ?hbase ?_)
   case hnews=>intro j hj;match j,hj with
    | 0,_=>simp[aH.nums]
    | 1,_=>simp[aH.nums]
    | 2,_=>simp[aH.nums]
    | 3,_=>simp[aH.nums]
    | 4,_=>simp[aH.nums]
   case h63=>omega
   case hbase=>simp;omega
   intro v' w1 hown' hgr;go_wp2;go_roundw
   case rel =>
    refine⟨n+1,by omega,by go_num, ?_, ?_⟩
    ·rw[ht.out,ou,qP]
     simpa using hown'
    ·exact ((hb.alloc hsw _).alloc (by simp;omega) _).grown hgr (by simp;omega) (fun k hk=>(hown.lt k hk).1)
   case measure=>simp[intOf];omega
  ·obtain rfl:n=es.length:=by omega
   rw[je] at hown;have p:∀ j,j<10->wr.cell? ⟨w.heap.size,j,none⟩=#[.int .i64 k,.int .i64 f,.int .i64 t,.int .i64 ep,.int .i64 ba,.int .i64 vo,.int .i64 po,.int .i64 va,mem,.slice a es.length c][j]?:=fun j hj=>by
    rw[<- q j];exact hb.cell (p:=⟨w.heap.size,j,none⟩) (by show w.heap.size<_;omega)
   have p1:wr.cell? (w.heap.size,1)=some (.int .i64 f):=p 1 (by omega)
   have p2:wr.cell? (w.heap.size,2)=some (.int .i64 t):=p 2 (by omega)
   have p3:wr.cell? (w.heap.size,3)=some (.int .i64 ep):=p 3 (by omega)
   have p4:wr.cell? (w.heap.size,4)=some (.int .i64 ba):=p 4 (by omega)
   have p5:wr.cell? (w.heap.size,5)=some (.int .i64 vo):=p 5 (by omega)
   have p6:wr.cell? (w.heap.size,6)=some (.int .i64 po):=p 6 (by omega)
   have p7:wr.cell? (w.heap.size,7)=some (.int .i64 va):=p 7 (by omega)
   have p8:wr.cell? (w.heap.size,8)=some mem:=p 8 (by omega)
   have hws:w.heap.size<wr.heap.size:=by have:=hb.size;omega
   clear p q hsz;go_wp2;go_region_held3 (fun w'=>w'.cell? (w.heap.size,1)=some (.int .i64 f)/\w'.cell? (w.heap.size,2)=some (.int .i64 t)/\w'.cell? (w.heap.size,3)=some (.int .i64 ep)/\w'.cell? (w.heap.size,4)=some (.int .i64 ba)/\w'.cell? (w.heap.size,5)=some (.int .i64 vo)/\w'.cell? (w.heap.size,6)=some (.int .i64 po)/\w'.cell? (w.heap.size,7)=some (.int .i64 va)/\w'.cell? (w.heap.size,8)=some mem) (go_keep) (fail)
   go_wp2;go_ret3;refine⟨((hb0.trans (hb.mono (by omega))).alloc (by omega) _).drew,_,_,rfl,⟨some ⟨wr.heap.size,0,none⟩,7,rfl,fun i hi=>⟨wr.heap.size,0,rfl, ?_⟩⟩,bJ.cM (hown.alloc _).drew⟩
   match i,hi with
   | 0,_=>simp
   | 1,_=>simp
   | 2,_=>simp
   | 3,_=>simp
   | 4,_=>simp
   | 5,_=>simp
   | 6,_=>simp
theorem ae {p:Prop}(h:p):Hid p:=h
theorem zh (a b:Value)(l:List Int)(w:World)(ha:bJ w a l)(hb:bJ w b l)(hl:l.length<=140737488355328) :
  Calls prog 98 #[a,b] w fun e w'=>e=.returned (.bool true)/\∃ q,w'=w.drewN q:=by
 obtain⟨x,c,rfl,ha⟩:=ha;obtain⟨y,d,rfl,hb⟩:=hb;have HA:Hid (∀ i,i<l.length->∃ b off,x=some ⟨b,off,none⟩/\w.cell? ⟨b,off+i,none⟩=some (.int .i64 (l.getD i 0))):=ha;have HB:Hid (∀ i,i<l.length->∃ b off,y=some ⟨b,off,none⟩/\w.cell? ⟨b,off+i,none⟩=some (.int .i64 (l.getD i 0))):=hb;clear ha hb;go_enter func98,ntmps98;go_wp2_with fail;go_loopw [5] (fun i wr=>∃ k q:Nat,k<=l.length/\i=.int .i64 k/\wr=w.drewN q) (fun i _=>l.length-(intOf i).toNat)
 case atStart=>exact⟨0,0,bl _,rfl,rfl⟩
 case round =>
  obtain⟨k,q,hk,rfl,rfl⟩:=hrel;have hl0:(0:Int)<=(k:Int):=by omega
  by_cases hlt:k<l.length
  ·obtain⟨b1,o1,rfl,c1⟩:=HA.out k hlt
   obtain⟨b2,o2,rfl,c2⟩:=HB.out k hlt;generalize l.getD k 0=v at *;have hl1:(k:Int)<(l.length:Int):=by omega
   go_wp2_with fail;go_quiet (fail);go_wp2_with fail;exact⟨⟨k+1,_,by omega,by go_num,rfl⟩,by simp[intOf];omega⟩
  ·go_wp2_with fail
   go_ret;exact⟨rfl,q,rfl⟩
theorem LJ (a b:Value)(l:List aH)(w:World)(ha:eM w a l)(hb:eM w b l)(hl:l.length<=140737488355328) :
  Calls prog 99 #[a,b] w fun e w'=>e=.returned (.bool true)/\∃ q,w'=w.drewN q:=by
 obtain⟨x,c,rfl,ha⟩:=ha;obtain⟨y,d,rfl,hb⟩:=hb;have HA:=ae ha;have HB:=ae hb;clear ha hb;go_enter func99,ntmps99;go_wp2_with fail;go_loopw [5] (fun i wr=>∃ k q:Nat,k<=l.length/\i=.int .i64 k/\wr=w.drewN q) (fun i _=>l.length-(intOf i).toNat)
 case atStart=>exact⟨0,0,bl _,rfl,rfl⟩
 case round =>
  obtain⟨k,q,hk,rfl,rfl⟩:=hrel;have hl0:(0:Int)<=(k:Int):=by omega
  by_cases hlt:k<l.length
  ·obtain⟨b1,o1,rfl,c1,c2,c3,c4,c5⟩:=HA.out k hlt
   obtain⟨b2,o2,rfl,d1,d2,d3,d4,d5⟩:=HB.out k hlt;generalize l.getD k aH.zero=v at *;have hl1:(k:Int)<(l.length:Int):=by omega
   go_wp2_with fail;go_quiet (fail);go_wp2_with fail;exact⟨⟨k+1,_,by omega,by go_num,rfl⟩,by simp[intOf];omega⟩
  ·go_wp2_with fail
   go_ret;exact⟨rfl,q,rfl⟩
def oM (w:World)(v:Value)(n:Nat)(xs:List Value):Prop :=
 ∃ a c,v=.slice a n c/\(∀ j u,xs[j]?=some u->∃ x,a=some x/\w.cell? (x.add j)=some u)
theorem bJ.cells (h:bJ w v l):oM w v l.length (aJ l):=by
 obtain⟨a,c,rfl,hc⟩:=h;refine⟨a,c,rfl,fun j u hj => ?_⟩
 have hjl:j<l.length:=by
  have:=(dI.1 hj).1
  rwa [fP] at this
 obtain⟨b,off,rfl,hb⟩:=hc j hjl;refine⟨_,rfl, ?_⟩
 rw[show (⟨b,off,none⟩:Addr).add j=⟨b,off+j,none⟩ by unfold Addr.add;simp]
 rw[hb];simp[aJ,List.getElem?_eq_getElem hjl] at hj
 simp[List.getD,List.getElem?_eq_getElem hjl,hj]
theorem oM.cM {size n:Nat}{e:TypeId}{xs:List Value}(h:w.ownsRow base e size v n xs):oM w v n xs:=by
 rcases h.2 with ⟨rfl,rfl⟩|⟨g,cap,cur,rfl,hb,hg,hn,hm,hs,ht⟩
 ·refine⟨_,_,rfl,fun j u hj => ?_⟩
  have h0:=h.1;have:=(dI.1 hj).1;omega
 ·exact⟨_,_,rfl,fun j u hj=>⟨_,rfl,h.cells rfl j u hj⟩⟩
theorem Pc : (prog.info? 9).map (fun i=>(i.zero,i.size,i.bytes))=some (some (.string ⟨#[]⟩),1,16):=by kernel_rfl
theorem xb : (prog.info? 113).map (fun i=>(i.zero,i.size,i.bytes))=some (some (.agg #[(),(),()]),3,24):=by kernel_rfl
theorem yZ {o:Obj}(hg:(w.alloc o).grownBy w' (Value.ownBlock (.slice (some w.heap.size) 0 0))):Below w.heap.size w w' :=
 ((Below.refl w.heap.size w).alloc (aG _) o).grown hg (by simp) (fun k hk=>by simp[Value.ownBlock] at hk;omega)
theorem Mb (w:World)(a:Option Addr)(n c:Nat):(binOp .eql 29 (.slice a n c) (.slice none 0 0)).run prog w=.ok (.bool a.isNone) w:=by
 unfold binOp;simp[run_equal_slice_nil w _ _ a n c underlying29]
theorem Dz (v:Value)(n:Nat)(xs:List Value)(w:World)(hv:oM w v n xs)(hx:xs.length=n*1)(h1:∀ u∈xs,u.oneCell'=true)(hl:n<=3000000000000) :
  Calls prog 69 #[v] w fun e w'=>∃ v',e=.returned v'/\w'.ownsRow w.heap.size 3 1 v' n xs/\Below w.heap.size w w':=by
 obtain⟨a,c,rfl,hc⟩:=hv;have Hc:=ae hc;have hE:=fun w=>Mb w a n c;have H1:=ae h1;clear hc h1;cases a with
 | none =>
  obtain rfl:xs=[]:=by
   cases xs with
   | nil=>rfl
   | cons u t=>obtain⟨x,hx,_⟩:=Hc.out 0 u rfl;cases hx
  obtain rfl:n=0:=by simp at hx;omega
  go_enter func69,ntmps69;go_wp2_with fail;go_ret;exact⟨_,rfl,World.ownsRow_nil _ _ _ _,Below.refl _ _⟩
 | some ad =>
  obtain⟨i0,hi,hz0,hz1,hz2⟩:=info_parts rD;go_enter func69,ntmps69;go_wp2_with (at_builtin;refine wpList_append_own _ rfl _ _ 29 rfl w.heap.size 3 i0 _ 1 8 underlying29 hi hz0 hz1 hz2 rfl (by decide) (.slice (some w.heap.size) 0 0) 0 [] rfl (World.ownsRow_made w #[] 0 (aG _) (by unfold maxLen;omega) rfl) ad n c xs rfl hx (fun j u hj=>by obtain⟨x,e,hc⟩:=Hc.out j u hj;cases e;exact cell_later ((Below.refl _ w).alloc (aG _) _) hc) H1.out (by unfold maxLen;omega) (by omega) (by simp) ?_)
  intro v' w' ho hg _;go_wp2_with fail;go_ret;exact⟨_,rfl,by simpa using ho,yZ hg⟩
theorem Ma (w:World)(a:Option Addr)(n c:Nat):(binOp .eql 44 (.slice a n c) (.slice none 0 0)).run prog w=.ok (.bool a.isNone) w:=by
 unfold binOp;simp[run_equal_slice_nil w _ _ a n c underlying44]
theorem Ll (v:Value)(n:Nat)(xs:List Value)(w:World)(hv:oM w v n xs)(hx:xs.length=n*5)(h1:∀ u∈xs,u.oneCell'=true)(hl:n<=3000000000000) :
  Calls prog 147 #[v] w fun e w'=>∃ v',e=.returned v'/\w'.ownsRow w.heap.size 42 5 v' n xs/\Below w.heap.size w w':=by
 obtain⟨a,c,rfl,hc⟩:=hv;have Hc:=ae hc;have hE:=fun w=>Ma w a n c;have H1:=ae h1;clear hc h1;cases a with
 | none =>
  obtain rfl:xs=[]:=by
   cases xs with
   | nil=>rfl
   | cons u t=>obtain⟨x,hx,_⟩:=Hc.out 0 u rfl;cases hx
  obtain rfl:n=0:=by simp at hx;omega
  go_enter func147,ntmps147;go_wp2_with fail;go_ret;exact⟨_,rfl,World.ownsRow_nil _ _ _ _,Below.refl _ _⟩
 | some ad =>
  obtain⟨i0,hi,hz0,hz1,hz2⟩:=info_parts uL;go_enter func147,ntmps147;go_wp2_with (at_builtin;refine wpList_append_own _ rfl _ _ 44 rfl w.heap.size 42 i0 _ 5 40 underlying44 hi hz0 hz1 hz2 rfl (by decide) (.slice (some w.heap.size) 0 0) 0 [] rfl (World.ownsRow_made w #[] 0 (aG _) (by unfold maxLen;omega) rfl) ad n c xs rfl hx (fun j u hj=>by obtain⟨x,e,hc⟩:=Hc.out j u hj;cases e;exact cell_later ((Below.refl _ w).alloc (aG _) _) hc) H1.out (by unfold maxLen;omega) (by omega) (by simp) ?_)
  intro v' w' ho hg _;go_wp2_with fail;go_ret;exact⟨_,rfl,by simpa using ho,yZ hg⟩
theorem L_ (w:World)(a:Option Addr)(n c:Nat):(binOp .eql 91 (.slice a n c) (.slice none 0 0)).run prog w=.ok (.bool a.isNone) w:=by
 unfold binOp;simp[run_equal_slice_nil w _ _ a n c underlying91]
theorem Lk (v:Value)(n:Nat)(xs:List Value)(w:World)(hv:oM w v n xs)(hx:xs.length=n*3)(h1:∀ u∈xs,u.oneCell'=true)(hl:n<=3000000000000) :
  Calls prog 146 #[v] w fun e w'=>∃ v',e=.returned v'/\w'.ownsRow w.heap.size 113 3 v' n xs/\Below w.heap.size w w':=by
 obtain⟨a,c,rfl,hc⟩:=hv;have Hc:=ae hc;have hE:=fun w=>L_ w a n c;have H1:=ae h1;clear hc h1;cases a with
 | none =>
  obtain rfl:xs=[]:=by
   cases xs with
   | nil=>rfl
   | cons u t=>obtain⟨x,hx,_⟩:=Hc.out 0 u rfl;cases hx
  obtain rfl:n=0:=by simp at hx;omega
  go_enter func146,ntmps146;go_wp2_with fail;go_ret;exact⟨_,rfl,World.ownsRow_nil _ _ _ _,Below.refl _ _⟩
 | some ad =>
  obtain⟨i0,hi,hz0,hz1,hz2⟩:=info_parts xb;go_enter func146,ntmps146;go_wp2_with (at_builtin;refine wpList_append_own _ rfl _ _ 91 rfl w.heap.size 113 i0 _ 3 24 underlying91 hi hz0 hz1 hz2 rfl (by decide) (.slice (some w.heap.size) 0 0) 0 [] rfl (World.ownsRow_made w #[] 0 (aG _) (by unfold maxLen;omega) rfl) ad n c xs rfl hx (fun j u hj=>by obtain⟨x,e,hc⟩:=Hc.out j u hj;cases e;exact cell_later ((Below.refl _ w).alloc (aG _) _) hc) H1.out (by unfold maxLen;omega) (by omega) (by simp) ?_)
  intro v' w' ho hg _;go_wp2_with fail;go_ret;exact⟨_,rfl,by simpa using ho,yZ hg⟩
def gU (l:List Int)(x:Int):Int:=if x∈l then (l.idxOf x:Int) else -1
theorem OU (l:List Int)(x:Int)(k:Nat)(hk:k<l.length)(hn:x ∉ l.take k)(he:l.getD k 0=x):gU l x=k:=by
 have hm:x∈l:=by
  rw[<- he,List.getD,bU hk];exact List.getElem_mem hk
 unfold gU;rw[if_pos hm];have e:l=l.take k++l.getD k 0 :: l.drop (k+1):=by
  rw[show l.getD k 0=l[k] by simp[List.getD,List.getElem?_eq_getElem hk]]
  simp
 rw[e,List.idxOf_append,if_neg hn,he];simp;omega
theorem AH (l:List Int)(x:Int)(hn:x ∉ l):gU l x = -1:=by unfold gU;rw[if_neg hn]
theorem OT (l:List Int)(x:Int) : -1<=gU l x/\gU l x<l.length:=by
 unfold gU;split
 ·rename_i h
  have:=List.idxOf_lt_length_of_mem h;omega
 ·omega
theorem w_ (v:Value)(l:List Int)(x:Int)(w:World)(hv:bJ w v l)(hl:l.length<=1000000) :
  Calls prog 152 #[v,.int .i64 x] w fun e w'=>e=.returned (.int .i64 (gU l x))/\w'=w:=by
 obtain⟨a,c,rfl,hc⟩:=hv;have Hc:=ae hc;clear hc;go_enter func152,ntmps152;go_wp2_with fail;go_loopw [8] (fun i wr=>∃ k:Nat,k<=l.length/\i=.int .i64 k/\wr=w/\x ∉ l.take k) (fun i _=>l.length-(intOf i).toNat)
 case atStart=>exact⟨0,bl _,rfl,rfl,by simp⟩
 case round =>
  obtain⟨k,hk,rfl,rfl,hn⟩:=hrel;by_cases hlt:k<l.length
  ·obtain⟨b,off,rfl,ck⟩:=Hc.out k hlt
   have hk1:(k:Int)<(l.length:Int):=by omega
   have ht:Hid (l.take (k+1)=l.take k++[l.getD k 0]):=mD l k hlt;have hf:=ae (OU l x k hlt hn);generalize l.getD k 0=y at *;by_cases hxy:x=y
   ·have H:Hid (gU l x=k):=ae (hf.out hxy.symm)
    subst hxy;go_wp2_with fail;go_ret;exact⟨by rw[H.out];rfl,rfl⟩
   ·have hxd:(x == y)=false:=by simp[hxy]
    go_wp2_with fail;go_roundw
    case rel=>exact⟨k+1,by omega,by go_num,by trivial,by rw[ht.out];simp[hn,hxy]⟩
    case measure=>simp[intOf];omega
  ·obtain rfl:k=l.length:=by omega
   have H:Hid (gU l x = -1):=ae (AH l x (by rwa [je] at hn))
   go_wp2_with fail;go_ret;exact⟨by rw[H.out];rfl,rfl⟩
theorem DA (v:Value)(l:List Int)(x:Int)(w:World)(hv:bJ w v l)(hl:l.length<=1000000) :
  Calls prog 121 #[v,.int .i64 x] w fun e w'=>e=.returned (.bool (decide (x∈l)))/\w'=w:=by
 have hi:=w_ v l x w hv hl;have hr:=OT l x;have H:Hid (decide (x∈l)=decide (0<=gU l x)):=ae (by unfold gU;split<;>simp_all)
 rw[H.out];obtain⟨a,c,rfl,hc⟩:=hv;clear hc;generalize gU l x=k at *;go_enter func121,ntmps121;go_wp2_with fail;refine hi.mono ?_
 rintro e w1 ⟨rfl,rfl⟩;go_wp2_with fail;go_ret;exact⟨rfl,rfl⟩
def fY.nums (a:fY):List Int:=[a.client,a.seq,a.value]
def dj (l:List fY):List Int:=l.flatMap fY.nums
def aH.val (e:aH):Value:=.agg #[e.client,e.seq,e.kind,e.key,e.value]
theorem CY (l:List fY):(dj l).length=l.length*3:=by
 unfold dj
 induction l with
 | nil=>rfl
 | cons a t ih=>rw[List.flatMap_cons,bG,ih];simp[fY.nums];omega
theorem CX (l:List fY)(i j:Nat)(x:fY)(hx:l[i]?=some x)(hj:j<3):(dj l)[i*3+j]?=x.nums[j]?:=by
 induction l generalizing i with
 | nil=>simp at hx
 | cons a t ih =>
  have e:dj (a :: t)=a.nums++dj t:=by simp[dj]
  have hl:a.nums.length=3:=rfl;rw[e];cases i with
  | zero =>
   rw[List.getElem?_append_left (by omega)]
   simp at hx;subst hx;simp
  | succ i =>
   rw[kH (by omega),hl,show (i+1)*3+j-3=i*3+j by omega,ih i (by simpa using hx)]
end Go.Proofs.YtgieeeeeiggoeaaGreat
