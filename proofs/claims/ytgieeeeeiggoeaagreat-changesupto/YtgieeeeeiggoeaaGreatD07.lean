import Derived.Test.YtgieeeeeiggoeaaGreatD04
set_option maxRecDepth 100000
set_option maxHeartbeats 1000000
namespace Go.Proofs.YtgieeeeeiggoeaaGreat
open Go.RowKit
open Tryz
theorem xI {a b:Bool}(h:a=b):Ending.returned (.bool a)=.returned (.bool b):=by rw[h]
theorem sK (k:Int)(w:World):Calls prog 149 #[.int .i64 k] w fun e w'=>e=.returned (.bool (j7 k))/\w'=w:=by
 by_cases h1:1<=k
 ·go_enter func149,ntmps149
  go_wp2;go_ret;exact⟨xI (by simp[j7,h1]),rfl⟩
 ·have hd:decide (1<=k)=false:=by simpa using h1
  go_enter func149,ntmps149;go_wp2;go_ret;exact⟨xI (by simp[j7,hd]),rfl⟩
theorem zn (k:Int)(w:World):Calls prog 154 #[.int .i64 k] w fun e w'=>e=.returned (.bool (db k))/\w'=w:=by
 by_cases h1 : -1<=k
 ·go_enter func154,ntmps154
  go_wp2;go_ret;exact⟨xI (by simp[db,h1]),rfl⟩
 ·have hd:decide (-1<=k)=false:=by simpa using h1
  go_enter func154,ntmps154;go_wp2;go_ret;exact⟨xI (by simp[db,hd]),rfl⟩
theorem Dg (m e:Int)(w:World)(h1:0<=m)(h2:m<=1000)(h3:0<=e)(h4:e<=1000):Calls prog 156 #[.int .i64 m,.int .i64 e] w fun r w'=>r=.returned (.int .i64 (17+2*m+10*e))/\w'=w:=by
 go_enter func156,ntmps156;go_wp2;go_ret;exact⟨ni (by omega),rfl⟩
theorem Ag (B:Nat)(w:World):Calls prog 153 #[B] w fun e w'=>Below w.heap.size w w' /\
  e=.returned (.agg #[.pointer (some ⟨B,1,none⟩),.pointer (some ⟨B,2,none⟩),.pointer (some ⟨B,3,none⟩),.pointer (some ⟨B,4,none⟩),.pointer (some ⟨B,5,none⟩),.pointer (some ⟨B,6,none⟩),.pointer (some ⟨B,7,none⟩)]):=by
 go_enter func153,ntmps153;go_wp2;go_region_held3 (fun _=>True) (trivial) (fail)
 go_wp2;refine bodyPost_ret (v:=.agg #[.pointer (some ⟨B,1,none⟩),.pointer (some ⟨B,2,none⟩),.pointer (some ⟨B,3,none⟩),.pointer (some ⟨B,4,none⟩),.pointer (some ⟨B,5,none⟩),.pointer (some ⟨B,6,none⟩),.pointer (some ⟨B,7,none⟩)]) (by simp[results,results153,go_sem]) rfl ⟨((Below.refl _ _).alloc (aG _) _).drew,rfl⟩
theorem DT (B off:Nat)(w:World):Calls prog 180 #[.pointer (some ⟨B,off,none⟩)] w fun e w'=>Below w.heap.size w w' /\
  e=.returned (.agg #[.pointer (some ⟨B,off,none⟩),.pointer (some ⟨B,off+1,none⟩),.pointer (some ⟨B,off+2,none⟩),.pointer (some ⟨B,off+3,none⟩),.pointer (some ⟨B,off+4,none⟩)]):=by
 go_enter func180,ntmps180;go_wp2;go_region_held3 (fun _=>True) (trivial) (fail)
 go_wp2;refine bodyPost_ret (v:=.agg #[.pointer (some ⟨B,off,none⟩),.pointer (some ⟨B,off+1,none⟩),.pointer (some ⟨B,off+2,none⟩),.pointer (some ⟨B,off+3,none⟩),.pointer (some ⟨B,off+4,none⟩)]) (by simp[results,results180,go_sem]) rfl ⟨((Below.refl _ _).alloc (aG _) _).drew,rfl⟩
theorem KO (T:List UInt8)(k:Nat)(h:k<(bs T).size):bn T k=(bs T)[k].toNat:=by
 have:=Dk (bs T) k h
 rwa [gS] at this
theorem GP {a b:Int}{x:Bool}{a' b':Int}{x':Bool}(h:a=a')(h2:b=b')(h3:x=x'):Ending.returned (.tuple #[.int .i64 a,.int .i64 b,.bool x])=.returned (.tuple #[.int .i64 a',.int .i64 b',.bool x']):=by rw[h,h2,h3]
theorem sJ (T:List UInt8)(i:Int)(k:Nat)(hi:i=k)(h:k<T.length):∀ w,(Instr.index 9 (.string (bs T)) (.int .i64 i)).run prog w=.ok (.int .u8 (bn T k:Nat)) w:=by
 intro w;have hk:k<(bs T).size:=h;subst hi;rw[KO T k hk];go_simp
theorem Q0 (T:List UInt8)(w:World)(h:17<=T.length)(hm:T.length<=140737488355328):Calls prog 148 #[.string (bs T)] w fun e w' =>
  e=.returned (.tuple #[.int .i64 (ld T).1,.int .i64 (ld T).2.1,.bool (ld T).2.2])/\w'=w:=by
 have hs:=iy T;have i1:=sJ T 15 15 rfl (by omega)
 have hb:=lC T 15;by_cases h1:bn T 15<=5/\16+2*bn T 15<T.length
 ·have hb2:=lC T (16+2*bn T 15)
  have i2:=sJ T (16+(bn T 15:Nat)*2) (16+2*bn T 15) (by omega) (by omega)
  have HM:Hid (ld T=_):=AW h1;obtain⟨h1,h2⟩:=h1;by_cases h3:bn T (16+2*bn T 15)<=24
  ·rw[HM.out]
   go_enter func148,ntmps148;go_wp2_with fail;refine (Dg _ _ _ (by omega) (by omega) (by omega) (by omega)).mono ?_
   rintro e w1 ⟨rfl,rfl⟩;go_wp2_with fail;go_ret3;refine⟨GP rfl rfl ?_,rfl⟩
   rw[Bool.eq_iff_iff];simp[h3];omega
  ·rw[HM.out]
   go_enter func148,ntmps148;go_wp2_with fail;go_ret3;exact⟨GP rfl rfl rfl,rfl⟩
 ·have HM:Hid (ld T=_):=FR h1
  by_cases h3:bn T 15<=5
  ·have h4:T.length<=16+2*bn T 15:=by omega
   rw[HM.out];clear h1;go_enter func148,ntmps148;go_wp2_with fail;go_ret3;exact⟨rfl,rfl⟩
  ·rw[HM.out]
   clear h1;go_enter func148,ntmps148;go_wp2_with fail;go_ret3;exact⟨rfl,rfl⟩
theorem OS (a b:Nat)(ha:a<9223372036854775808)(hb:b<9223372036854775808):bits .or .i64 (a:Int) (b:Int)=((a ||| b:Nat):Int):=by
 have hx:a ||| b<2 ^ 63:=Nat.or_lt_two_pow (by omega) (by omega)
 have h1:(BitVec.ofInt 64 (a:Int)).toNat=a:=by
  rw[BitVec.ofInt_natCast,BitVec.toNat_ofNat];exact Nat.mod_eq_of_lt (by omega)
 have h2:(BitVec.ofInt 64 (b:Int)).toNat=b:=by
  rw[BitVec.ofInt_natCast,BitVec.toNat_ofNat];exact Nat.mod_eq_of_lt (by omega)
 show IntKind.i64.wrap ((BitVec.ofInt 64 (a:Int) ||| BitVec.ofInt 64 (b:Int)).toNat:Int)=_;rw[BitVec.toNat_or,h1,h2];exact nk _ (by omega)
theorem RS (a b:Nat)(ha:a<256)(hb:b<256):bits .or .i64 (IntKind.i64.wrap (IntKind.i64.wrap (a:Int)*256)) (IntKind.i64.wrap (b:Int))=256*(a:Int)+b:=by
 rw[nk a (by omega),nk b (by omega),show ((a:Int)*256)=((a*256:Nat):Int) by omega,nk (a*256) (by omega),OS _ _ (by omega) (by omega),nat_join 8 _ _ (by omega) (by omega)]
 omega
theorem BL (R:Nat)(i:Int)(S:List UInt8)(w:World)(h0:0<=i)(hn:i<=S.length)(hR:w.cell? (R,0)=some (.string (bs S)))(hf:w.frozen? (R,0)=false) :
  Calls prog 179 #[R,.int .i64 i] w fun e w'=>e=.returned (.tuple #[])/\∃ q,w'=(w.setCell R (.string (bs (S.drop i.toNat)))).drewN q:=by
 obtain⟨n,rfl⟩:=Int.eq_ofNat_of_zero_le h0;rw[Int.toNat_natCast];have hs:=iy S;have hx:=zb S n;go_enter func179,ntmps179;go_wp2_with fail;go_end0;exact⟨rfl,0,rfl⟩
theorem A9 (R:Nat)(S:List UInt8)(w:World)(hn:2<=S.length)(hR:w.cell? (R,0)=some (.string (bs S)))(hf:w.frozen? (R,0)=false) :
  Calls prog 178 #[R] w fun e w'=>e=.returned (.int .i64 (bo S 0))/\∃ q,w'=(w.setCell R (.string (bs (S.drop 2)))).drewN q:=by
 have hs:=iy S;have i1:=sJ S 0 0 rfl (by omega)
 have i2:=sJ S 1 1 rfl (by omega)
 have b0:=lC S 0;have b1:=lC S 1;go_enter func178,ntmps178;go_wp2_with fail;go_region_held3 (fun w'=>w'.cell? (R,0)=some (.string (bs S))) (go_keep) (fail)
 all_goals
  rw[RS _ _ b0 b1];go_wp2_with fail;refine (BL R 2 S _ (by omega) (by omega) (by exact hR) (by exact hf)).mono ?_
  rintro e w1 ⟨rfl,q,rfl⟩;go_wp2_with fail;go_ret;exact⟨ni (by unfold bo;rw[fh];omega),1+q,rfl⟩
end Go.Proofs.YtgieeeeeiggoeaaGreat
