import Derived.Test.YtgieeeeeiggoeaaGreatC10
import Derived.Test.YtgieeeeeiggoeaaGreatC01
import Derived.Deep.RegionHeld3
import Derived.BigQuiet
import Derived.Deep.QuietTactic
set_option maxRecDepth 100000
set_option maxHeartbeats 4000000
namespace Go.Proofs.YtgieeeeeiggoeaaGreat
open Go.RowKit
theorem ret_bool {a b:Bool}(h:a=b):Ending.returned (.bool a)=.returned (.bool b):=by rw[h]
theorem isKind_any (k:Int)(w:World):Calls Tryz.prog 149 #[.int .i64 k] w fun e w'=>e=.returned (.bool (kindOk k))∧w'=w:=by
 by_cases h1:1≤k
 ·go_enter Tryz.func149,Tryz.ntmps149
  go_wp2
  go_ret;exact⟨ret_bool (by simp[kindOk,h1]),rfl⟩
 ·have hd:decide (1≤k)=false:=by simpa using h1
  go_enter Tryz.func149,Tryz.ntmps149
  go_wp2
  go_ret;exact⟨ret_bool (by simp[kindOk,hd]),rfl⟩
theorem fits_any (k:Int)(w:World):Calls Tryz.prog 154 #[.int .i64 k] w fun e w'=>e=.returned (.bool (numOk k))∧w'=w:=by
 by_cases h1 : -1≤k
 ·go_enter Tryz.func154,Tryz.ntmps154
  go_wp2
  go_ret;exact⟨ret_bool (by simp[numOk,h1]),rfl⟩
 ·have hd:decide (-1≤k)=false:=by simpa using h1
  go_enter Tryz.func154,Tryz.ntmps154
  go_wp2
  go_ret;exact⟨ret_bool (by simp[numOk,hd]),rfl⟩
theorem bodySize_any (m e:Int)(w:World)(h1:0≤m)(h2:m≤1000)(h3:0≤e)(h4:e≤1000):Calls Tryz.prog 156 #[.int .i64 m,.int .i64 e] w fun r w'=>r=.returned (.int .i64 (17+2*m+10*e))∧w'=w:=by
 go_enter Tryz.func156,Tryz.ntmps156
 go_wp2
 go_ret;exact⟨ret_int (by omega),rfl⟩
theorem header_any (B:Nat)(w:World):Calls Tryz.prog 153 #[.pointer (some ⟨B,0,none⟩)] w fun e w'=>Below w.heap.size w w' ∧
  e=.returned (.agg #[.pointer (some ⟨B,1,none⟩),.pointer (some ⟨B,2,none⟩),.pointer (some ⟨B,3,none⟩),.pointer (some ⟨B,4,none⟩),.pointer (some ⟨B,5,none⟩),.pointer (some ⟨B,6,none⟩),.pointer (some ⟨B,7,none⟩)]):=by
 go_enter Tryz.func153,Tryz.ntmps153
 go_wp2
 go_region_held3 (fun _=>True) (trivial) (fail)
 go_wp2
 refine bodyPost_ret (v:=.agg #[.pointer (some ⟨B,1,none⟩),.pointer (some ⟨B,2,none⟩),.pointer (some ⟨B,3,none⟩),.pointer (some ⟨B,4,none⟩),.pointer (some ⟨B,5,none⟩),.pointer (some ⟨B,6,none⟩),.pointer (some ⟨B,7,none⟩)]) (by simp[results,Tryz.results153,go_sem]) rfl ⟨((Below.refl _ _).alloc (Nat.le_refl _) _).drew,rfl⟩
theorem fields_any (B off:Nat)(w:World):Calls Tryz.prog 180 #[.pointer (some ⟨B,off,none⟩)] w fun e w'=>Below w.heap.size w w' ∧
  e=.returned (.agg #[.pointer (some ⟨B,off,none⟩),.pointer (some ⟨B,off+1,none⟩),.pointer (some ⟨B,off+2,none⟩),.pointer (some ⟨B,off+3,none⟩),.pointer (some ⟨B,off+4,none⟩)]):=by
 go_enter Tryz.func180,Tryz.ntmps180
 go_wp2
 go_region_held3 (fun _=>True) (trivial) (fail)
 go_wp2
 refine bodyPost_ret (v:=.agg #[.pointer (some ⟨B,off,none⟩),.pointer (some ⟨B,off+1,none⟩),.pointer (some ⟨B,off+2,none⟩),.pointer (some ⟨B,off+3,none⟩),.pointer (some ⟨B,off+4,none⟩)]) (by simp[results,Tryz.results180,go_sem]) rfl ⟨((Below.refl _ _).alloc (Nat.le_refl _) _).drew,rfl⟩
theorem byteAt_bs (T:List UInt8)(k:Nat)(h:k<(bs T).size):byteAt T k=(bs T)[k].toNat:=by
 have:=byteAt_in (bs T) k h
 rwa [bs_list] at this
theorem ret_iib {a b:Int}{x:Bool}{a' b':Int}{x':Bool}(h:a=a')(h2:b=b')(h3:x=x'):Ending.returned (.tuple #[.int .i64 a,.int .i64 b,.bool x])=.returned (.tuple #[.int .i64 a',.int .i64 b',.bool x']):=by rw[h,h2,h3]
theorem index_bs (T:List UInt8)(i:Int)(k:Nat)(hi:i=k)(h:k<T.length):∀ w,(Instr.index 9 (.string (bs T)) (.int .i64 i)).run Tryz.prog w=.ok (.int .u8 (byteAt T k:Nat)) w:=by
 intro w;have hk:k<(bs T).size:=h
 subst hi;rw[byteAt_bs T k hk];go_simp
theorem measure_any (T:List UInt8)(w:World)(h:17≤T.length)(hm:T.length≤140737488355328):Calls Tryz.prog 148 #[.string (bs T)] w fun e w' =>
  e=.returned (.tuple #[.int .i64 (measOf T).1,.int .i64 (measOf T).2.1,.bool (measOf T).2.2])∧w'=w:=by
 have hs:=bs_size T
 have i1:=index_bs T 15 15 rfl (by omega)
 have hb:=byteAt_lt T 15
 by_cases h1:byteAt T 15≤5∧16+2*byteAt T 15<T.length
 ·have hb2:=byteAt_lt T (16+2*byteAt T 15)
  have i2:=index_bs T (16+(byteAt T 15:Nat)*2) (16+2*byteAt T 15) (by omega) (by omega)
  have HM:Hid (measOf T=_):=measOf_in h1
  obtain⟨h1,h2⟩:=h1;by_cases h3:byteAt T (16+2*byteAt T 15)≤24
  ·rw[HM.out]
   go_enter Tryz.func148,Tryz.ntmps148
   go_wp2_with fail;refine (bodySize_any _ _ _ (by omega) (by omega) (by omega) (by omega)).mono ?_
   rintro e w1 ⟨rfl,rfl⟩;go_wp2_with fail;go_ret3
   refine⟨ret_iib rfl rfl ?_,rfl⟩
   rw[Bool.eq_iff_iff];simp[h3]
   omega
  ·rw[HM.out]
   go_enter Tryz.func148,Tryz.ntmps148
   go_wp2_with fail;go_ret3
   exact⟨ret_iib rfl rfl rfl,rfl⟩
 ·have HM:Hid (measOf T=_):=measOf_no h1
  by_cases h3:byteAt T 15≤5
  ·have h4:T.length≤16+2*byteAt T 15:=by omega
   rw[HM.out];clear h1;go_enter Tryz.func148,Tryz.ntmps148
   go_wp2_with fail;go_ret3
   exact⟨rfl,rfl⟩
  ·rw[HM.out]
   clear h1;go_enter Tryz.func148,Tryz.ntmps148
   go_wp2_with fail;go_ret3
   exact⟨rfl,rfl⟩
theorem i64_or_nat (a b:Nat)(ha:a<9223372036854775808)(hb:b<9223372036854775808):bits .or .i64 (a:Int) (b:Int)=((a ||| b:Nat):Int):=by
 have hx:a ||| b<2 ^ 63:=Nat.or_lt_two_pow (by omega) (by omega)
 have h1:(BitVec.ofInt 64 (a:Int)).toNat=a:=by
  rw[BitVec.ofInt_natCast,BitVec.toNat_ofNat];exact Nat.mod_eq_of_lt (by omega)
 have h2:(BitVec.ofInt 64 (b:Int)).toNat=b:=by
  rw[BitVec.ofInt_natCast,BitVec.toNat_ofNat];exact Nat.mod_eq_of_lt (by omega)
 show IntKind.i64.wrap ((BitVec.ofInt 64 (a:Int) ||| BitVec.ofInt 64 (b:Int)).toNat:Int)=_
 rw[BitVec.toNat_or,h1,h2];exact wrap_i64_nat _ (by omega)
theorem or_num (a b:Nat)(ha:a<256)(hb:b<256):bits .or .i64 (IntKind.i64.wrap (IntKind.i64.wrap (a:Int)*256)) (IntKind.i64.wrap (b:Int))=256*(a:Int)+b:=by
 rw[wrap_i64_nat a (by omega),wrap_i64_nat b (by omega),show ((a:Int)*256)=((a*256:Nat):Int) by omega,wrap_i64_nat (a*256) (by omega),i64_or_nat _ _ (by omega) (by omega),nat_join 8 _ _ (by omega) (by omega)]
 omega
theorem skip_any (R:Nat)(i:Int)(S:List UInt8)(w:World)(h0:0≤i)(hn:i≤S.length)(hR:w.cell? ⟨R,0,none⟩=some (.string (bs S)))(hf:w.frozen? ⟨R,0,none⟩=false) :
  Calls Tryz.prog 179 #[.pointer (some ⟨R,0,none⟩),.int .i64 i] w fun e w'=>e=.returned (.tuple #[])∧∃ q,w'=(w.setCell ⟨R,0,none⟩ (.string (bs (S.drop i.toNat)))).drewN q:=by
 obtain⟨n,rfl⟩:=Int.eq_ofNat_of_zero_le h0
 rw[Int.toNat_natCast];have hs:=bs_size S
 have hx:=bs_drop S n
 go_enter Tryz.func179,Tryz.ntmps179
 go_wp2_with fail;go_end0
 exact⟨rfl,0,rfl⟩
theorem number_any (R:Nat)(S:List UInt8)(w:World)(hn:2≤S.length)(hR:w.cell? ⟨R,0,none⟩=some (.string (bs S)))(hf:w.frozen? ⟨R,0,none⟩=false) :
  Calls Tryz.prog 178 #[.pointer (some ⟨R,0,none⟩)] w fun e w'=>e=.returned (.int .i64 (numAt S 0))∧∃ q,w'=(w.setCell ⟨R,0,none⟩ (.string (bs (S.drop 2)))).drewN q:=by
 have hs:=bs_size S
 have i1:=index_bs S 0 0 rfl (by omega)
 have i2:=index_bs S 1 1 rfl (by omega)
 have b0:=byteAt_lt S 0
 have b1:=byteAt_lt S 1
 go_enter Tryz.func178,Tryz.ntmps178
 go_wp2_with fail;go_region_held3 (fun w'=>w'.cell? ⟨R,0,none⟩=some (.string (bs S))) (go_keep) (fail)
 all_goals
  rw[or_num _ _ b0 b1];go_wp2_with fail;refine (skip_any R 2 S _ (by omega) (by omega) (by exact hR) (by exact hf)).mono ?_
  rintro e w1 ⟨rfl,q,rfl⟩;go_wp2_with fail;go_ret;exact⟨ret_int (by unfold numAt;rw[Nat.zero_add];omega),1+q,rfl⟩
theorem cell_set_other (w:World)(B:Nat)(v:Value){k j:Nat}(h:k≠j):(w.setCell ⟨B,k,none⟩ v).cell? ⟨B,j,none⟩=w.cell? ⟨B,j,none⟩ :=
 World.cell?_setCell_other w _ _ v (by intro e;cases e;exact h rfl)
theorem okp {w w':World}{base size n:Nat}{e:TypeId}{v:Value}{xs:List Value}(h:w.ownsRow base e size v n xs)(hk:∀ k,base≤k→k<w.heap.size→w'.heap[k]?=w.heap[k]?) :
  w'.ownsRow base e size v n xs:=by
 refine⟨h.1, ?_⟩
 rcases h.2 with h0|⟨g,cap,cur,hv,hb,hg,rest⟩
 ·exact .inl h0
 ·exact .inr ⟨g,cap,cur,hv,hb,(hk g hb (Array.getElem?_eq_some_iff.1 hg).1).trans hg,rest⟩
theorem owns_form {w:World}{base size n:Nat}{e:TypeId}{v:Value}{xs:List Value}(h:w.ownsRow base e size v n xs)(hn:0<n):∃ g cap,v=.slice (some ⟨g,0,none⟩) n cap:=by
 rcases h.2 with ⟨_,h0⟩|⟨g,cap,_,hv,_⟩
 ·omega
 ·exact⟨g,cap,hv⟩
theorem owns_low {w:World}{base base' size n:Nat}{e:TypeId}{v:Value}{xs:List Value}(h:w.ownsRow base e size v n xs)(hb:base'≤base):w.ownsRow base' e size v n xs:=by
 refine⟨h.1, ?_⟩
 rcases h.2 with h0|⟨g,cap,cur,hv,hg,rest⟩
 ·exact .inl h0
 ·exact .inr ⟨g,cap,cur,hv,Nat.le_trans hb hg,rest⟩
def DecPost (T L:List UInt8)(w:World)(e:Ending)(w':World):Prop :=
 (encOf (pKind T) (pHead T) (pMems T) (pEnts T)=(L,0)∧∃ mem log,w'.ownsRow (w.heap.size+1) 3 1 mem (pMems T).length (ints (pMems T))∧w'.ownsRow (w.heap.size+1) 42 5 log (pEnts T).length (ints (entsNums (pEnts T))) ∧
  e=.returned (.tuple #[.agg #[.int .i64 (pKind T),.int .i64 (numAt T 1),.int .i64 (numAt T 3),.int .i64 (numAt T 5),.int .i64 (numAt T 7),.int .i64 (numAt T 9),.int .i64 (numAt T 11),.int .i64 (numAt T 13),mem,log],.int .i64 0])) ∨
 (encOf (pKind T) (pHead T) (pMems T) (pEnts T)≠(L,0)∧e=.returned (.tuple #[.agg #[.int .i64 0,.int .i64 0,.int .i64 0,.int .i64 0,.int .i64 0,.int .i64 0,.int .i64 0,.int .i64 0,.slice none 0 0,.slice none 0 0],.int .i64 1]))
theorem refDecode_c (L T:List UInt8)(w:World)(h:21≤L.length)(hm:L.length≤140737488355328)(hT:T=L.take (L.length-4))(hyes:T++sumOf T=L) :
  Calls Tryz.prog 139 #[.string (bs L)] w fun e w'=>Below w.heap.size w w'∧DecPost T L w e w':=by
 have hs:=bs_size L
 have hx:(bs L).extract 0 (L.length-4)=bs T:=by rw[bs_take,hT]
 have hTl:T.length≤140737488355328:=by rw[hT,List.length_take];omega
 clear hT;obtain⟨W,hW,hb0,hsz,q,fz⟩:=boxed w #[.int .i64 0,.int .i64 0,.int .i64 0,.int .i64 0,.int .i64 0,.int .i64 0,.int .i64 0,.int .i64 0,.slice none 0 0,.slice none 0 0] 134
 have hcl:=crc_lt T
 have b1:=add_bs T (oneB (crc T)) (by rw[oneB_length];omega)
 have b2:=add_bs (T++oneB (crc T)) (oneB (crc T / 256)) (by simp only [List.length_append,oneB_length];omega)
 have b3:=add_bs (T++(oneB (crc T)++oneB (crc T / 256))) (oneB (crc T / 65536)) (by simp only [List.length_append,oneB_length];omega)
 have b4:=add_bs (T++(oneB (crc T)++(oneB (crc T / 256)++oneB (crc T / 65536)))) (oneB (crc T / 16777216)) (by simp only [List.length_append,oneB_length];omega)
 simp only [List.append_assoc] at b1 b2 b3 b4
 go_enter Tryz.func139,Tryz.ntmps139
 go_wp2_with fail;refine (Sum_any _ _ (by rw[bs_size];unfold maxLen;omega)).mono ?_
 rintro e w5 ⟨rfl,rfl⟩;clear hW;rw[bs_list];go_wp2_with fail;refine (one_any _ _ (by omega)).mono ?_
 rintro e w6 ⟨rfl,hb6⟩;rw[show ((crc T:Nat):Int).toNat=crc T by omega]
 go_wp2_with fail;refine (one_any _ _ (by omega)).mono ?_
 rintro e w7 ⟨rfl,hb7⟩;rw[show (((crc T:Nat):Int) / 256).toNat=crc T / 256 by omega]
 go_wp2_with fail;refine (one_any _ _ (by omega)).mono ?_
 rintro e w8 ⟨rfl,hb8⟩;rw[show (((crc T:Nat):Int) / 65536).toNat=crc T / 65536 by omega]
 go_wp2_with fail;refine (one_any _ _ (by omega)).mono ?_
 rintro e w9 ⟨rfl,hb9⟩;rw[show (((crc T:Nat):Int) / 16777216).toNat=crc T / 16777216 by omega]
 have hb09:=hb6.trans ((hb7.trans ((hb8.trans (hb9.mono hb8.size)).mono hb7.size)).mono hb6.size)
 obtain⟨q',fz'⟩:=boxed_later hb09 hsz q fz
 have hbw:=hb0.trans (hb09.mono hb0.size)
 have hne:((bs (T++(oneB (crc T)++(oneB (crc T / 256)++(oneB (crc T / 65536)++oneB (crc T / 16777216)))))).toList == (bs L).toList)=true:=by
  rw[eq_bs];exact decide_eq_true hyes
 have hVw:w.heap.size<w9.heap.size:=by have:=hb09.size;omega
 clear b1 b2 b3 q fz hsz;have hmT:(bs T).size≤maxLen:=by rw[bs_size];unfold maxLen;omega
 go_wp2_with fail;clear b4 hne hb6 hb7 hb8 hb9;refine (at_any (bs T) _ _ hmT (by omega) (by omega)).mono ?_
 rintro e V ⟨rfl,rfl⟩;rw[bs_list];go_wp2_with fail;refine (num_any (bs T) _ _ hmT (by omega) (by omega)).mono ?_
 rintro e _ ⟨rfl,rfl⟩;rw[bs_list];go_wp2_with fail;refine (num_any (bs T) _ _ hmT (by omega) (by omega)).mono ?_
 rintro e _ ⟨rfl,rfl⟩;rw[bs_list];go_wp2_with fail;refine (num_any (bs T) _ _ hmT (by omega) (by omega)).mono ?_
 rintro e _ ⟨rfl,rfl⟩;rw[bs_list];go_wp2_with fail;refine (num_any (bs T) _ _ hmT (by omega) (by omega)).mono ?_
 rintro e _ ⟨rfl,rfl⟩;rw[bs_list];go_wp2_with fail;refine (num_any (bs T) _ _ hmT (by omega) (by omega)).mono ?_
 rintro e _ ⟨rfl,rfl⟩;rw[bs_list];go_wp2_with fail;refine (num_any (bs T) _ _ hmT (by omega) (by omega)).mono ?_
 rintro e _ ⟨rfl,rfl⟩;rw[bs_list];go_wp2_with fail;refine (num_any (bs T) _ _ hmT (by omega) (by omega)).mono ?_
 rintro e _ ⟨rfl,rfl⟩;rw[bs_list];go_wp2_with fail;refine (at_any (bs T) _ _ hmT (by omega) (by omega)).mono ?_
 rintro e _ ⟨rfl,rfl⟩;rw[bs_list];go_wp2_with fail;obtain⟨X,hX,hb1,hsz1,qX,fX⟩:=boxed V #[.int .i64 (byteAt T 0:Nat),.int .i64 (numAt T 1),.int .i64 (numAt T 3),.int .i64 (numAt T 5),.int .i64 (numAt T 7),.int .i64 (numAt T 9),.int .i64 (numAt T 11),.int .i64 (numAt T 13),.slice none 0 0,.slice none 0 0] 134
 rw[hX];clear hX;have hnm:=byteAt_lt T 15
 have HM:Hid (pMems T=numsFrom T 16 (byteAt T 15)):=rfl
 have HE:Hid (pEnts T=entsFrom T (17+2*byteAt T 15) (byteAt T (16+2*byteAt T 15))):=rfl
 generalize byteAt T 15=nm at *
 have q8:=qX 8
 have hXq:Hid (∀ j,X.cell? ⟨V.heap.size,j,none⟩=#[.int .i64 (byteAt T 0:Nat),.int .i64 (numAt T 1),.int .i64 (numAt T 3),.int .i64 (numAt T 5),.int .i64 (numAt T 7),.int .i64 (numAt T 9),.int .i64 (numAt T 11),.int .i64 (numAt T 13),.slice none 0 0,.slice none 0 0][j]?):=qX
 clear qX;have hsz2:V.heap.size<X.heap.size:=by omega
 have hsz3:X.heap.size≤V.heap.size+1:=by omega
 clear hsz1 hx hs hcl;go_loopw [7,8] (fun p i wr=>∃ (n:Nat) (v:Value),n≤nm∧p=.int .i64 (16+2*(n:Int))∧i=.int .i64 ((nm:Int)-n) ∧
   wr.cell? ⟨V.heap.size,8,none⟩=some v∧wr.ownsRow X.heap.size 3 1 v (numsFrom T 16 n).length (ints (numsFrom T 16 n)) ∧
   (∀ j,j≠8→wr.cell? ⟨V.heap.size,j,none⟩=X.cell? ⟨V.heap.size,j,none⟩)∧(∀ j,wr.frozen? ⟨V.heap.size,j,none⟩=false)∧Below V.heap.size V wr∧X.heap.size≤wr.heap.size)
  (fun _ i _=>(intOf i).toNat)
 case atStart=>exact⟨0,_,Nat.zero_le _,rfl,by simp,q8,World.ownsRow_nil _ _ _ _,fun _ _=>rfl,fX,hb1,Nat.le_refl _⟩
 case round =>
  obtain⟨n,v,hn,rfl,rfl,c8,hown,hcs,hfz,hb,hsw⟩:=hrel;by_cases hlt:n<nm
  ·have hsX:V.heap.size<wr.heap.size:=by omega
   have hcs':Hid (∀ j,j≠8→wr.cell? ⟨V.heap.size,j,none⟩=X.cell? ⟨V.heap.size,j,none⟩):=hcs
   clear hcs;have hf8:=hfz 8
   have hnl:(numsFrom T 16 n).length≤256:=by rw[numsFrom_length];omega
   go_wp2_with fail;refine (num_any (bs T) _ _ hmT (by omega) (by omega)).mono ?_
   rintro e wr ⟨rfl,rfl⟩;rw[bs_list,show (16+2*(n:Int)).toNat=16+2*n by omega]
   go_wp2_with (at_builtin;refine wpList_append_ints rfl _ _ rfl X.heap.size _ _ rfl (hown.alloc _) wr.heap.size 1 1 [numAt T (16+2*n)] rfl rfl ?hnews ?h63 ?hbase ?_)
   case hnews=>intro j hj;match j,hj with
    | 0,_=>simp
   case h63=>omega
   case hbase=>simp;omega
   intro v' w1 hown' hgr;have hbw1:Below X.heap.size wr w1:=((Below.refl X.heap.size wr).alloc hsw _).grown hgr (by simp;omega) (fun k hk=>(hown.lt k hk).1)
   have c8':w1.cell? ⟨V.heap.size,8,none⟩=some v:=(hbw1.cell (p:=⟨V.heap.size,8,none⟩) hsz2).trans c8
   have f8':w1.frozen? ⟨V.heap.size,8,none⟩=false:=(hbw1.frozen (p:=⟨V.heap.size,8,none⟩) hsz2).trans hf8
   obtain⟨g',cap',hv'⟩:=owns_form hown' (by simp)
   rw[hv'];go_wp2
   go_roundw
   case rel =>
    refine⟨n+1,_,by omega,by simp;omega,by simp;omega,World.cell?_setCell_same' _ _ _ (by rw[c8'];rfl), ?_, ?_, ?_, ?_, ?_⟩
    ·rw[numsFrom_succ, ← hv',List.length_append]
     exact ownsRow_setCell_below (a:=⟨V.heap.size,8,none⟩) hown' hsz2 _
    ·intro j hj
     rw[cell_set_other w1 _ _ (Ne.symm hj)]
     rw[← hcs'.out j hj];exact hbw1.cell (p:=⟨V.heap.size,j,none⟩) hsz2
    ·intro j
     rw[World.frozen?_setCell]
     exact (hbw1.frozen (p:=⟨V.heap.size,j,none⟩) hsz2).trans (hfz j)
    ·exact (hb.trans (hbw1.mono (by omega))).setCell (by exact Nat.le_refl _) _
    ·simp;have:=hbw1.size;omega
   case measure=>simp[intOf];omega
  ·obtain rfl:n=nm:=by omega
   have hcs':Hid (∀ j,j≠8→wr.cell? ⟨V.heap.size,j,none⟩=X.cell? ⟨V.heap.size,j,none⟩):=hcs
   clear hcs hlt hn;go_wp2_with fail;refine (at_any (bs T) _ _ hmT (by omega) (by omega)).mono ?_
   rintro e Y ⟨rfl,rfl⟩;rw[bs_list,show (16+2*(n:Int)).toNat=16+2*n by omega]
   go_wp2_with fail;have hne:=byteAt_lt T (16+2*n)
   generalize byteAt T (16+2*n)=ne at *
   have hc9:Y.cell? ⟨V.heap.size,9,none⟩=some (.slice none 0 0):=by rw[hcs'.out 9 (by omega)];exact hXq.out 9
   go_loopw [7,10] (fun p i wr=>∃ (m:Nat) (v:Value),m≤ne∧p=.int .i64 (17+2*(n:Int)+10*(m:Int))∧i=.int .i64 ((ne:Int)-m) ∧
     wr.cell? ⟨V.heap.size,9,none⟩=some v∧wr.ownsRow Y.heap.size 42 5 v (entsFrom T (17+2*n) m).length (ints (entsNums (entsFrom T (17+2*n) m))) ∧
     (∀ j,j≠9→wr.cell? ⟨V.heap.size,j,none⟩=Y.cell? ⟨V.heap.size,j,none⟩)∧(∀ j,wr.frozen? ⟨V.heap.size,j,none⟩=false)∧Below V.heap.size V wr∧(∀ k,V.heap.size<k→k<Y.heap.size→wr.heap[k]?=Y.heap[k]?)∧Y.heap.size≤wr.heap.size)
    (fun _ i _=>(intOf i).toNat)
   case atStart=>exact⟨0,_,Nat.zero_le _,by simp;omega,by simp,hc9,World.ownsRow_nil _ _ _ _,fun _ _=>rfl,hfz,hb,fun _ _ _=>rfl,Nat.le_refl _⟩
   case round =>
    obtain⟨m,v2,hmn,rfl,rfl,c9,hown2,hcs2,hfz2,hb2,hk2,hsw2⟩:=hrel;by_cases hlt:m<ne
    ·have hsY:V.heap.size<wr.heap.size:=by omega
     have hYX:V.heap.size<Y.heap.size:=by omega
     have hcs2':Hid (∀ j,j≠9→wr.cell? ⟨V.heap.size,j,none⟩=Y.cell? ⟨V.heap.size,j,none⟩):=hcs2
     have hk2':Hid (∀ k,V.heap.size<k→k<Y.heap.size→wr.heap[k]?=Y.heap[k]?):=hk2
     clear hcs2 hk2 hc9 c8;have hf9:=hfz2 9
     have hnl:(entsFrom T (17+2*n) m).length≤256:=by rw[entsFrom_length];omega
     go_wp2_with fail;refine (num_any (bs T) _ _ hmT (by omega) (by omega)).mono ?_
     rintro e wr ⟨rfl,rfl⟩;rw[bs_list,show (17+2*(n:Int)+10*(m:Int)).toNat=17+2*n+10*m by omega]
     go_wp2_with fail;refine (num_any (bs T) _ _ hmT (by omega) (by omega)).mono ?_
     rintro e wr ⟨rfl,rfl⟩;rw[bs_list,show (17+2*(n:Int)+10*(m:Int)+2).toNat=17+2*n+10*m+2 by omega]
     go_wp2_with fail;refine (num_any (bs T) _ _ hmT (by omega) (by omega)).mono ?_
     rintro e wr ⟨rfl,rfl⟩;rw[bs_list,show (17+2*(n:Int)+10*(m:Int)+4).toNat=17+2*n+10*m+4 by omega]
     go_wp2_with fail;refine (num_any (bs T) _ _ hmT (by omega) (by omega)).mono ?_
     rintro e wr ⟨rfl,rfl⟩;rw[bs_list,show (17+2*(n:Int)+10*(m:Int)+6).toNat=17+2*n+10*m+6 by omega]
     go_wp2_with fail;refine (num_any (bs T) _ _ hmT (by omega) (by omega)).mono ?_
     rintro e wr ⟨rfl,rfl⟩;rw[bs_list,show (17+2*(n:Int)+10*(m:Int)+8).toNat=17+2*n+10*m+8 by omega]
     go_wp2_with (at_builtin;refine wpList_append_ent rfl _ _ rfl Y.heap.size _ _ rfl ((hown2.alloc _).alloc _) (wr.heap.size+1) 1 (entAt T (17+2*n+10*m)) rfl ?hnews ?h63 ?hbase ?_)
     case hnews=>intro j hj;match j,hj with
      | 0,_=>simp[entAt,Ent.nums]
      | 1,_=>simp[entAt,Ent.nums]
      | 2,_=>simp[entAt,Ent.nums]
      | 3,_=>simp[entAt,Ent.nums]
      | 4,_=>simp[entAt,Ent.nums]
     case h63=>omega
     case hbase=>simp;omega
     intro v' w1 hown' hgr;have hbw1:Below Y.heap.size wr w1:=(((Below.refl Y.heap.size wr).alloc hsw2 _).alloc (by simp;omega) _).grown hgr (by simp;omega) (fun k hk=>(hown2.lt k hk).1)
     have c9':w1.cell? ⟨V.heap.size,9,none⟩=some v2:=(hbw1.cell (p:=⟨V.heap.size,9,none⟩) hYX).trans c9
     have f9':w1.frozen? ⟨V.heap.size,9,none⟩=false:=(hbw1.frozen (p:=⟨V.heap.size,9,none⟩) hYX).trans hf9
     obtain⟨g',cap',hv'⟩:=owns_form hown' (by simp)
     rw[hv'];go_wp2
     go_roundw
     case rel =>
      refine⟨m+1,_,by omega,by simp;omega,by simp;omega,World.cell?_setCell_same' _ _ _ (by rw[c9'];rfl), ?_, ?_, ?_, ?_, ?_, ?_⟩
      ·rw[entsFrom_succ, ← hv',List.length_append]
       exact ownsRow_setCell_below (a:=⟨V.heap.size,9,none⟩) hown' hYX _
      ·intro j hj
       rw[cell_set_other w1 _ _ (Ne.symm hj)]
       rw[← hcs2'.out j hj];exact hbw1.cell (p:=⟨V.heap.size,j,none⟩) hYX
      ·intro j
       rw[World.frozen?_setCell]
       exact (hbw1.frozen (p:=⟨V.heap.size,j,none⟩) hYX).trans (hfz2 j)
      ·exact (hb2.trans (hbw1.mono (by omega))).setCell (by exact Nat.le_refl _) _
      ·intro k hk1 hk3
       rw[Below.heap_setCell _ _ _ _ (by show k≠V.heap.size;omega),hbw1.block k hk3]
       exact hk2'.out k hk1 hk3
      ·simp;have:=hbw1.size;omega
     case measure=>simp[intOf];omega
    ·obtain rfl:m=ne:=by omega
     have hYX:V.heap.size<Y.heap.size:=by omega
     have hown1:wr.ownsRow X.heap.size 3 1 v (numsFrom T 16 n).length (ints (numsFrom T 16 n)):=okp hown fun k h1 h2=>hk2 k (by omega) h2
     have cc:∀ j,j<8→wr.cell? ⟨V.heap.size,j,none⟩=#[.int .i64 (byteAt T 0:Nat),.int .i64 (numAt T 1),.int .i64 (numAt T 3),.int .i64 (numAt T 5),.int .i64 (numAt T 7),.int .i64 (numAt T 9),.int .i64 (numAt T 11),.int .i64 (numAt T 13),.slice none 0 0,.slice none 0 0][j]?:=fun j hj=>by
      rw[hcs2 j (by omega),hcs'.out j (by omega)];exact hXq.out j
     have d0:wr.cell? ⟨V.heap.size,0,none⟩=some (.int .i64 (byteAt T 0:Nat)):=cc 0 (by omega)
     have d1:wr.cell? ⟨V.heap.size,1,none⟩=some (.int .i64 (numAt T 1)):=cc 1 (by omega)
     have d2:wr.cell? ⟨V.heap.size,2,none⟩=some (.int .i64 (numAt T 3)):=cc 2 (by omega)
     have d3:wr.cell? ⟨V.heap.size,3,none⟩=some (.int .i64 (numAt T 5)):=cc 3 (by omega)
     have d4:wr.cell? ⟨V.heap.size,4,none⟩=some (.int .i64 (numAt T 7)):=cc 4 (by omega)
     have d5:wr.cell? ⟨V.heap.size,5,none⟩=some (.int .i64 (numAt T 9)):=cc 5 (by omega)
     have d6:wr.cell? ⟨V.heap.size,6,none⟩=some (.int .i64 (numAt T 11)):=cc 6 (by omega)
     have d7:wr.cell? ⟨V.heap.size,7,none⟩=some (.int .i64 (numAt T 13)):=cc 7 (by omega)
     have d8:wr.cell? ⟨V.heap.size,8,none⟩=some v:=(hcs2 8 (by omega)).trans c8
     have hM:=IntsAt.of_owns hown1
     have hL:=LogAt.of_owns hown2
     obtain⟨am,cm,hv1, -⟩:=hM;obtain⟨al,cl,hv2, -⟩:=hL;have hbwr:Below w.heap.size w wr:=hbw.trans (hb2.mono hbw.size)
     have rr:(∀ j,wr.cell? ⟨w.heap.size,j,none⟩=#[.int .i64 0,.int .i64 0,.int .i64 0,.int .i64 0,.int .i64 0,.int .i64 0,.int .i64 0,.int .i64 0,.slice none 0 0,.slice none 0 0][j]?)∧∀ j,wr.frozen? ⟨w.heap.size,j,none⟩=false :=
      ⟨fun j=>(hb2.cell (p:=⟨w.heap.size,j,none⟩) hVw).trans (q' j),fun j=>(hb2.frozen (p:=⟨w.heap.size,j,none⟩) hVw).trans (fz' j)⟩
     have hMM:=IntsAt.of_owns hown1
     have hLL:=LogAt.of_owns hown2
     have HK:Hid (pHead T=[numAt T 1,numAt T 3,numAt T 5,numAt T 7,numAt T 9,numAt T 11,numAt T 13]):=rfl
     have HKK:Hid (pKind T=(byteAt T 0:Nat)):=rfl
     have HVV:Hid (v=.slice am (numsFrom T 16 n).length cm):=hv1
     have HVW:Hid (v2=.slice al (entsFrom T (17+2*n) m).length cl):=hv2
     rw[hv1] at d8 hMM
     rw[hv2] at c9 hLL
     have hwr:V.heap.size<wr.heap.size:=by omega
     have hwr2:w.heap.size<wr.heap.size:=by omega
     clear hcs2 hk2 hc9 c8 cc hfz hfz2 hv1 hv2 q' fz' q8 hown hXq hcs';obtain⟨r1,r2⟩:=rr;go_wp2_with fail;refine (refEncode_any _ _ _ _ _ _ _ _ _ _ (numsFrom T 16 n) (entsFrom T (17+2*n) m) _ hMM hLL).mono ?_
     rintro e wE ⟨hbE,rfl⟩;rw[← HM.out, ← HE.out, ← HK.out, ← HKK.out];have hME:=hMM.below hbE
     have hLE:=hLL.below hbE
     have o1:=okp hown1 (fun k _ h=>hbE.block k h)
     have o2:=okp hown2 (fun k _ h=>hbE.block k h)
     rw[← HM.out] at o1
     rw[← HE.out] at o2
     have r1':∀ j,wE.cell? ⟨w.heap.size,j,none⟩=#[.int .i64 0,.int .i64 0,.int .i64 0,.int .i64 0,.int .i64 0,.int .i64 0,.int .i64 0,.int .i64 0,.slice none 0 0,.slice none 0 0][j]?:=fun j=>(hbE.cell (p:=⟨w.heap.size,j,none⟩) hwr2).trans (r1 j)
     have r2':∀ j,wE.frozen? ⟨w.heap.size,j,none⟩=false:=fun j=>(hbE.frozen (p:=⟨w.heap.size,j,none⟩) hwr2).trans (r2 j)
     have hbwE:Below w.heap.size w wE:=hbwr.trans (hbE.mono hbwr.size)
     rw[← HM.out] at hME
     rw[← HE.out] at hLE
     have e0:=cell_later hbE d0
     have e1:=cell_later hbE d1
     have e2:=cell_later hbE d2
     have e3:=cell_later hbE d3
     have e4:=cell_later hbE d4
     have e5:=cell_later hbE d5
     have e6:=cell_later hbE d6
     have e7:=cell_later hbE d7
     have e8:=cell_later hbE d8
     have e9:=cell_later hbE c9
     clear r1 r2 d0 d1 d2 d3 d4 d5 d6 d7 d8 c9;by_cases hE:encOf (pKind T) (pHead T) (pMems T) (pEnts T)=(L,0)
     ·have hE2:Hid (encOf (pKind T) (pHead T) (pMems T) (pEnts T)=(L,0)):=hE
      rw[hE];clear hE;have hee:((bs L).toList == (bs L).toList)=true:=by simp
      go_wp2_with fail;refine bodyPost_ret (v:=.tuple #[.agg #[.int .i64 (pKind T),.int .i64 (numAt T 1),.int .i64 (numAt T 3),.int .i64 (numAt T 5),.int .i64 (numAt T 7),.int .i64 (numAt T 9),.int .i64 (numAt T 11),.int .i64 (numAt T 13),v,v2],.int .i64 0]) (by simp[results,Tryz.results139,go_sem,r1',HVV.out,HVW.out,HKK.out]) rfl ⟨?_,.inl ⟨hE2.out,v,v2, ?_, ?_,rfl⟩⟩
      ·iterate 10 refine Below.setCell ?_ (by exact Nat.le_refl _) _
       exact hbwE
      ·iterate 10 refine ownsRow_setCell_below ?_ (by exact Nat.lt_succ_self _) _
       exact owns_low o1 (by omega)
      ·iterate 10 refine ownsRow_setCell_below ?_ (by exact Nat.lt_succ_self _) _
       exact owns_low o2 (by omega)
     ·have hfin:∀ w',DecPost T L w (.returned (.tuple #[.agg #[.int .i64 0,.int .i64 0,.int .i64 0,.int .i64 0,.int .i64 0,.int .i64 0,.int .i64 0,.int .i64 0,.slice none 0 0,.slice none 0 0],.int .i64 1])) w':=fun w'=>.inr ⟨hE,rfl⟩
      have hcase:¬ (encOf (pKind T) (pHead T) (pMems T) (pEnts T)).2=0∨((encOf (pKind T) (pHead T) (pMems T) (pEnts T)).2=0∧((bs (encOf (pKind T) (pHead T) (pMems T) (pEnts T)).1).toList == (bs L).toList)=false):=by
       generalize encOf (pKind T) (pHead T) (pMems T) (pEnts T)=r at *
       obtain⟨r1,r2⟩:=r;by_cases h0:r2=0
       ·subst h0
        refine .inr ⟨rfl, ?_⟩
        rw[eq_bs];exact decide_eq_false fun h=>hE (by rw[show r1=L from h])
       ·exact .inl h0
      clear hE;generalize encOf (pKind T) (pHead T) (pMems T) (pEnts T)=r at hcase ⊢
      obtain⟨x,y⟩:=r;dsimp only at hcase ⊢
      rcases hcase with hc|⟨rfl,hc2⟩
      all_goals
       go_wp2_with fail;refine bodyPost_ret (v:=.tuple #[.agg #[.int .i64 0,.int .i64 0,.int .i64 0,.int .i64 0,.int .i64 0,.int .i64 0,.int .i64 0,.int .i64 0,.slice none 0 0,.slice none 0 0],.int .i64 1]) (by simp[results,Tryz.results139,go_sem,r1']) rfl ⟨?_,hfin _⟩
       iterate 10 refine Below.setCell ?_ (by exact Nat.le_refl _) _
       exact hbwE
end Go.Proofs.YtgieeeeeiggoeaaGreat
