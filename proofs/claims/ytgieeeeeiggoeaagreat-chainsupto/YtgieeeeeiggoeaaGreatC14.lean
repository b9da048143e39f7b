import Derived.Test.YtgieeeeeiggoeaaGreatC10
import Derived.Test.YtgieeeeeiggoeaaGreatC13
import Derived.Test.YtgieeeeeiggoeaaGreatC02
import Derived.Deep.AppendLies
import Derived.Deep.RegionLaw
import Derived.Test.YtgieeeeeiggoeaaGreatC09
set_option maxRecDepth 100000
set_option maxHeartbeats 4000000
namespace Go.Proofs.YtgieeeeeiggoeaaGreat
open Go.RowKit Go.Shelf
attribute [local go_sem] Oper.semAt_some
def KeepS (S:TypeId→Bool)(A B:World):Prop:=∀ (k:Nat) (cs:Array Value) (T:TypeId) (fz:Nat × Nat),S T=true→A.heap[k]?=some (Obj.cells cs T fz)→B.heap[k]?=some (Obj.cells cs T fz)
theorem KeepS.trans {S:TypeId→Bool}{A B C:World}(h:KeepS S A B)(k:KeepS S B C):KeepS S A C:=fun i cs T fz h1 h3=>k i cs T fz h1 (h i cs T fz h1 h3)
theorem KeepS.below {S:TypeId→Bool}{A B:World}(h:Below A.heap.size A B):KeepS S A B:=fun i _ _ _ _ h3=>(h.block i (Array.getElem?_eq_some_iff.1 h3).1).trans h3
theorem keepS_put (S:TypeId→Bool)(W:World)(l:Nat)(o o':Obj)(hl:W.heap[l]?=some o)(hc:o.isCells=false):KeepS S W (W.putObj l o'):=by
 intro k cs T fz _ h;have hne:l≠k:=by
  intro e;subst e;rw[h] at hl
  injection hl with hl
  subst hl;cases hc
 rw[World.putObj_heap_other (Ne.symm hne)]
 exact h
def allT : TypeId→Bool:=fun _=>true
theorem KeepS.cell {A B:World}(h:KeepS allT A B){p:Addr}{v:Value}(hc:A.cell? p=some v):B.cell? p=some v:=by
 cases hb:A.heap[p.block]? with
 | none=>simp[World.cell?,hb] at hc
 | some o =>
  cases o with
  | cells cs T fz =>
   have:=h p.block cs T fz rfl hb
   rw[World.cell?_of_block (this.trans hb.symm)]
   exact hc
  | _=>simp[World.cell?,hb] at hc
theorem IntsAt.keepS {A B:World}{v:Value}{l:List Int}(h:IntsAt A v l)(k:KeepS allT A B):IntsAt B v l:=by
 obtain⟨a,c,rfl,h⟩:=h;refine⟨a,c,rfl,fun i hi => ?_⟩
 obtain⟨b,off,ha,hc⟩:=h i hi
 exact⟨b,off,ha,k.cell hc⟩
def behindOf (l:List Int)(x:Int):List Int:=if x∈l then l.drop (l.idxOf x+1) else []
def aheadOf (l:List Int)(x:Int):List Int:=if x∈l then (l.take (l.idxOf x)).reverse else []
theorem drop_getD (l:List Int)(i k:Nat):(l.drop i).getD k 0=l.getD (i+k) 0:=by
 simp[List.getD,List.getElem?_drop]
theorem tail_at {w:World}{a:Option Addr}{c:Nat}{L:List Int}(h:IntsAt w (.slice a L.length c) L)(hcap:L.length≤c)(i:Nat)(hi:i<L.length) :
  ∃ b off A,a=some ⟨b,off,none⟩∧(if c=i+1 then some (⟨b,off,none⟩:Addr) else some ⟨b,off+(i+1),none⟩)=some A∧IntsAt w (.slice (some A) (L.length-(i+1)) (c-(i+1))) (L.drop (i+1)):=by
 obtain⟨a',c',e,hc⟩:=h;cases e
 obtain⟨b,off,rfl, -⟩:=hc i hi
 by_cases hci:c=i+1
 ·refine⟨b,off,⟨b,off,none⟩,rfl,by rw[if_pos hci], ?_⟩
  refine⟨_,_,by rw[List.length_drop],fun k hk => ?_⟩
  rw[List.length_drop] at hk
  omega
 ·refine⟨b,off,⟨b,off+(i+1),none⟩,rfl,by rw[if_neg hci], ?_⟩
  refine⟨_,_,by rw[List.length_drop],fun k hk => ?_⟩
  rw[List.length_drop] at hk
  obtain⟨b',off',e,hb⟩:=hc (i+1+k) (by omega)
  cases e
  exact⟨b,off+(i+1),rfl,by rw[drop_getD,Nat.add_assoc];exact hb⟩
theorem behind1_in (n l B0 B1:Nat)(a:Option Addr)(c:Nat)(L:List Int)(x:Int)(hL:L.length≤1000)(hcap:L.length≤c)(J Jx:List Int→World→Prop)(W:World)
  (hY:∀ pre y W1,J pre W1→pre.length<(behindOf L x).length→YieldAt Fence.wide (n-1) Tryz.prog l #[.int .i64 y] W1 fun e W' =>
   (e=.returned (.bool true)∧J (pre++[y]) W'∧KeepS allT W1 W')∨(e=.returned (.bool false)∧Jx (pre++[y]) W'))
  (h0:W.cell? ⟨B0,0,none⟩=some (.slice a L.length c)) (h1:W.cell? ⟨B1,0,none⟩=some (.int .i64 x)) (hv:IntsAt W (.slice a L.length c) L) (hJ:J [] W) :
  CallsIn Fence.wide n Tryz.prog 294 #[.func (.yield l) #[] #[],.pointer (some ⟨B0,0,none⟩),.pointer (some ⟨B1,0,none⟩)] W fun e W'=>(∃ v,e=.returned v) ∧
   ((∃ ys,ys=behindOf L x∧J ys W')∨(∃ pre,pre <+: behindOf L x∧Jx pre W')):=by
 have HI:=hideA (index_ints _ L x W hv (by omega))
 have Ht:=hideA (tail_at hv hcap)
 clear hv;by_cases hx:x∈L
 ·have hix:Hid (idxI L x=(L.idxOf x:Int)):=hideA (by unfold idxI;rw[if_pos hx])
  have hil:L.idxOf x<L.length:=List.idxOf_lt_length_of_mem hx
  have Hb:Hid (behindOf L x=L.drop (L.idxOf x+1)):=hideA (by unfold behindOf;rw[if_pos hx])
  rw[hix.out] at HI
  generalize L.idxOf x=i at *
  obtain⟨b,off,A,rfl,hA,hT⟩:=Ht.out i hil
  clear Ht;have hle:(i:Int)+1≤(L.length:Int):=by omega
  have hle0:(0:Int)≤(i:Int)+1:=by omega
  have Hl:Hid ((L.drop (i+1)).length=L.length-(i+1)):=hideA (by simp)
  have HY:=hideA hY;rw[Hb.out];rw[Hb.out] at HY
  have hln:(L.drop (i+1)).length≤1000:=by rw[List.length_drop];omega
  rw[← Hl.out] at hT
  generalize L.drop (i+1)=M at *
  refine callsIn_of_wp Tryz.func294 rfl trivial ?_ rfl
  simp only [Tryz.ntmps294,List.size_toArray,List.length_cons,List.length_nil,Nat.reduceAdd,Nat.reduceSub,Array.replicate_succ,Array.replicate_zero,List.push_toArray,List.append_toArray,List.nil_append,List.cons_append]
  gi_wp2_with fail;refine⟨trivial,by simp[Fence.wide],(callsIn_wide.2 HI.out).mono ?_⟩
  rintro e W1 ⟨rfl,rfl⟩;gi_wp2_with fail;rw[← Hl.out];gi_loopw [17] (fun j wr=>∃ k:Nat,k≤M.length∧j=.int .i64 k∧J (M.take k) wr∧IntsAt wr (.slice (some A) M.length (c-(i+1))) M) (fun j _=>M.length-(intOf j).toNat)
  case atStart=>exact⟨0,Nat.zero_le _,rfl,hJ,hT⟩
  case round =>
   obtain⟨k,hk,rfl,hJk,hM⟩:=hrel;by_cases hlt:k<M.length
   ·have hM1:=hideA hM
    obtain⟨a',c',e',hcc⟩:=hM;obtain⟨b1,o1,ha1,hck⟩:=hcc k hlt
    cases e'
    cases ha1
    have ht:Hid (M.take (k+1)=M.take k++[M.getD k 0]):=take_snoc_ints M k hlt
    obtain⟨fn,tmps,assign,body,hy,hR⟩:=HY.out (M.take k) (M.getD k 0) _ hJk (by rw[List.length_take];omega)
    clear hcc hA;have hk1:(k:Int)<(M.length:Int):=by omega
    generalize M.getD k 0=z at *
    gi_wp2
    refine⟨by simp[Fence.wide],hR.mono ?_⟩
    rintro e W3 (⟨rfl,hJ3,hk3⟩|⟨rfl,hJx3⟩)
    ·gi_wp2
     go_roundw
     case rel=>exact⟨k+1,by omega,by go_num,by rw[ht.out];exact hJ3,hM1.out.keepS hk3⟩
     case measure=>simp[intOf];omega
    ·gi_wp2
     refine bodyPost_ret (results_none rfl _ _ _) rfl ?_
     exact⟨⟨_,rfl⟩,.inr ⟨_,by rw[← ht.out];exact List.take_prefix _ _,hJx3⟩⟩
   ·obtain rfl:k=M.length:=by omega
    rw[List.take_length] at hJk
    gi_wp2
    go_end0
    exact⟨⟨_,rfl⟩,.inl ⟨_,rfl,hJk⟩⟩
 ·have hix:Hid (idxI L x = -1):=hideA (idx_none L x hx)
  have Hb:Hid (behindOf L x=[]):=hideA (by unfold behindOf;rw[if_neg hx])
  rw[hix.out] at HI
  refine callsIn_of_wp Tryz.func294 rfl trivial ?_ rfl
  simp only [Tryz.ntmps294,List.size_toArray,List.length_cons,List.length_nil,Nat.reduceAdd,Nat.reduceSub,Array.replicate_succ,Array.replicate_zero,List.push_toArray,List.append_toArray,List.nil_append,List.cons_append]
  gi_wp2_with fail;refine⟨trivial,by simp[Fence.wide],(callsIn_wide.2 HI.out).mono ?_⟩
  rintro e W1 ⟨rfl,rfl⟩;gi_wp2_with fail;refine bodyPost_ret (results_none rfl _ _ _) rfl ?_
  exact⟨⟨_,rfl⟩,.inl ⟨_,Hb.out.symm,hJ⟩⟩
theorem behind_stops (n B0 B1:Nat)(a:Option Addr)(c:Nat)(L:List Int)(x:Int)(w:World)(hL:L.length≤1000)(hcap:L.length≤c)
  (h0:w.cell? ⟨B0,0,none⟩=some (.slice a L.length c)) (h1:w.cell? ⟨B1,0,none⟩=some (.int .i64 x)) (hv:IntsAt w (.slice a L.length c) L) :
  SeqStopsK Fence.wide n Tryz.prog 294 #[.pointer (some ⟨B0,0,none⟩),.pointer (some ⟨B1,0,none⟩)] (fun y:Int=>#[Value.int .i64 y]) (KeepS allT) (fun ys=>ys=behindOf L x) (fun pre=>pre <+: behindOf L x) (behindOf L x).length w :=
 fun l J Jx W hW _ _ hY hJ=>behind1_in n l B0 B1 a c L x hL hcap J Jx W hY (cell_later hW h0) (cell_later hW h1) (hv.below hW) hJ
theorem take_rev (L:List Int)(i k:Nat)(hi:i≤L.length)(hk:k<i):(L.take i).reverse.getD k 0=L.getD (i-1-k) 0:=by
 simp[List.getD]
 rw[List.getElem?_reverse (by simp;omega)]
 simp[Nat.min_eq_left hi]
 rw[List.getElem?_take_of_lt (by omega)]
theorem ahead1_in (n l B0 B1:Nat)(a:Option Addr)(c:Nat)(L:List Int)(x:Int)(hL:L.length≤1000)(J Jx:List Int→World→Prop)(W:World)
  (hY:∀ pre y W1,J pre W1→pre.length<(aheadOf L x).length→YieldAt Fence.wide (n-1) Tryz.prog l #[.int .i64 y] W1 fun e W' =>
   (e=.returned (.bool true)∧J (pre++[y]) W'∧KeepS allT W1 W')∨(e=.returned (.bool false)∧Jx (pre++[y]) W'))
  (h0:W.cell? ⟨B0,0,none⟩=some (.slice a L.length c)) (h1:W.cell? ⟨B1,0,none⟩=some (.int .i64 x)) (hv:IntsAt W (.slice a L.length c) L) (hJ:J [] W) :
  CallsIn Fence.wide n Tryz.prog 297 #[.func (.yield l) #[] #[],.pointer (some ⟨B0,0,none⟩),.pointer (some ⟨B1,0,none⟩)] W fun e W'=>(∃ v,e=.returned v) ∧
   ((∃ ys,ys=aheadOf L x∧J ys W')∨(∃ pre,pre <+: aheadOf L x∧Jx pre W')):=by
 have HI:=hideA (index_ints _ L x W hv (by omega))
 have Hv:=hideA hv;clear hv;by_cases hx:x∈L
 ·have hix:Hid (idxI L x=(L.idxOf x:Int)):=hideA (by unfold idxI;rw[if_pos hx])
  have hil:L.idxOf x<L.length:=List.idxOf_lt_length_of_mem hx
  have Hb:Hid (aheadOf L x=(L.take (L.idxOf x)).reverse):=hideA (by unfold aheadOf;rw[if_pos hx])
  rw[hix.out] at HI
  generalize L.idxOf x=i at *
  have HY:=hideA hY;rw[Hb.out];rw[Hb.out] at HY
  have Hg:=hideA (take_rev L i)
  have Hl:Hid ((L.take i).reverse.length=i):=hideA (by simp;omega)
  generalize (L.take i).reverse=M at *
  refine callsIn_of_wp Tryz.func297 rfl trivial ?_ rfl
  simp only [Tryz.ntmps297,List.size_toArray,List.length_cons,List.length_nil,Nat.reduceAdd,Nat.reduceSub,Array.replicate_succ,Array.replicate_zero,List.push_toArray,List.append_toArray,List.nil_append,List.cons_append]
  gi_wp2_with fail;refine⟨trivial,by simp[Fence.wide],(callsIn_wide.2 HI.out).mono ?_⟩
  rintro e W1 ⟨rfl,rfl⟩;gi_wp2_with fail;gi_loopw [4] (fun j wr=>∃ k:Nat,k≤i∧j=.int .i64 ((i:Int)-1-k)∧J (M.take k) wr∧Hid (IntsAt wr (.slice a L.length c) L)∧wr.cell? ⟨B0,0,none⟩=some (.slice a L.length c)) (fun j _=>(intOf j+1).toNat)
  case atStart=>exact⟨0,Nat.zero_le _,by simp,hJ,Hv,h0⟩
  case round =>
   obtain⟨k,hk,rfl,hJk,hM,hB0⟩:=hrel;by_cases hlt:k<i
   ·have hM1:=hM
    obtain⟨a',c',e',hcc⟩:=hM.out;obtain⟨b1,o1,ha1,hck⟩:=hcc (i-1-k) (by omega)
    cases e'
    cases ha1
    have hck':wr.cell? ⟨b1,o1+(i-1-k),none⟩=some (.int .i64 (M.getD k 0)):=by rw[Hg.out k (by omega) hlt];exact hck
    have ht:Hid (M.take (k+1)=M.take k++[M.getD k 0]):=take_snoc_ints M k (by rw[Hl.out];exact hlt)
    obtain⟨fn,tmps,assign,body,hy,hR⟩:=HY.out (M.take k) (M.getD k 0) _ hJk (by rw[List.length_take,Hl.out];omega)
    clear hcc hck;have hk1:(0:Int)≤(i:Int)-1-(k:Int):=by omega
    have hk2:(i:Int)-1-(k:Int)<(L.length:Int):=by omega
    have hk3:((i:Int)-1-(k:Int)).toNat=i-1-k:=by omega
    generalize M.getD k 0=z at *
    gi_wp2
    refine⟨by simp[Fence.wide],hR.mono ?_⟩
    rintro e W3 (⟨rfl,hJ3,hk3⟩|⟨rfl,hJx3⟩)
    ·gi_wp2
     go_roundw
     case rel=>exact⟨k+1,by omega,by go_num,by rw[ht.out];exact hJ3,hM1.out.keepS hk3,hk3.cell hB0⟩
     case measure=>simp[intOf];omega
    ·gi_wp2
     refine bodyPost_ret (results_none rfl _ _ _) rfl ?_
     exact⟨⟨_,rfl⟩,.inr ⟨_,by rw[← ht.out];exact List.take_prefix _ _,hJx3⟩⟩
   ·obtain rfl:k=i:=by omega
    rw[List.take_of_length_le (by rw[Hl.out];exact Nat.le_refl _)] at hJk
    gi_wp2
    go_end0
    exact⟨⟨_,rfl⟩,.inl ⟨_,rfl,hJk⟩⟩
 ·have hix:Hid (idxI L x = -1):=hideA (idx_none L x hx)
  have Hb:Hid (aheadOf L x=[]):=hideA (by unfold aheadOf;rw[if_neg hx])
  rw[hix.out] at HI
  refine callsIn_of_wp Tryz.func297 rfl trivial ?_ rfl
  simp only [Tryz.ntmps297,List.size_toArray,List.length_cons,List.length_nil,Nat.reduceAdd,Nat.reduceSub,Array.replicate_succ,Array.replicate_zero,List.push_toArray,List.append_toArray,List.nil_append,List.cons_append]
  gi_wp2_with fail;refine⟨trivial,by simp[Fence.wide],(callsIn_wide.2 HI.out).mono ?_⟩
  rintro e W1 ⟨rfl,rfl⟩;gi_wp2_with fail;gi_loopw [4] (fun j wr=>j=.int .i64 (-2)∧J [] wr) (fun _ _=>0)
  case atStart=>exact⟨rfl,hJ⟩
  case round =>
   obtain⟨rfl,hJk⟩:=hrel;gi_wp2
   go_end0
   exact⟨⟨_,rfl⟩,.inl ⟨_,Hb.out.symm,hJk⟩⟩
theorem ahead_stops (n B0 B1:Nat)(a:Option Addr)(c:Nat)(L:List Int)(x:Int)(w:World)(hL:L.length≤1000)
  (h0:w.cell? ⟨B0,0,none⟩=some (.slice a L.length c)) (h1:w.cell? ⟨B1,0,none⟩=some (.int .i64 x)) (hv:IntsAt w (.slice a L.length c) L) :
  SeqStopsK Fence.wide n Tryz.prog 297 #[.pointer (some ⟨B0,0,none⟩),.pointer (some ⟨B1,0,none⟩)] (fun y:Int=>#[Value.int .i64 y]) (KeepS allT) (fun ys=>ys=aheadOf L x) (fun pre=>pre <+: aheadOf L x) (aheadOf L x).length w :=
 fun l J Jx W hW _ _ hY hJ=>ahead1_in n l B0 B1 a c L x hL J Jx W hY (cell_later hW h0) (cell_later hW h1) (hv.below hW) hJ
end Go.Proofs.YtgieeeeeiggoeaaGreat
namespace Go.Proofs.YtgieeeeeiggoeaaGreat
open Go.RowKit Go.Shelf
attribute [local go_sem] Oper.semAt_some
theorem two_set {W:World}{A B:Nat}{u0 v0:Value}(u v:Value)(hne:A≠B)(ha:W.cell? ⟨A,0,none⟩=some u0)(hb:W.cell? ⟨B,0,none⟩=some v0) :
  ((W.setCell ⟨A,0,none⟩ u).setCell ⟨B,0,none⟩ v).cell? ⟨A,0,none⟩=some u∧((W.setCell ⟨A,0,none⟩ u).setCell ⟨B,0,none⟩ v).cell? ⟨B,0,none⟩=some v:=by
 constructor
 ·rw[World.cell?_setCell_other _ _ _ _ (by intro e;injection e with e;exact hne e.symm)]
  exact World.cell?_setCell_same' _ _ _ (by rw[ha];rfl)
 ·refine World.cell?_setCell_same' _ _ _ ?_
  rw[World.cell?_setCell_other _ _ _ _ (by intro e;injection e with e;exact hne e),hb]
  rfl
theorem first_in (n:Nat)(hn:Hid (3≤n))(gf:Nat)(lb:Array Value)(L:List Int)(w:World)(eg:∀ args w,(callFunc gf args).run Tryz.prog w=.ok (.enter gf args) w)
  (hseq:∀ W,Below w.heap.size w W→SeqStopsK Fence.wide (n-1) Tryz.prog gf lb (fun y:Int=>#[Value.int .i64 y]) (KeepS allT) (fun ys=>ys=L) (fun pre=>pre <+: L) L.length W) :
  CallsIn Fence.wide n Tryz.prog 287 #[.func (.func gf) #[] lb] w fun e w'=>e=.returned (.tuple #[.int .i64 (L.headD 0),.bool (!L.isEmpty)])∧Below w.heap.size w w':=by
 refine callsIn_of_wp_marks Tryz.func287 rfl trivial ?_ rfl
 simp only [Tryz.ntmps287,List.size_toArray,List.length_cons,List.length_nil,Nat.reduceAdd,Nat.reduceSub,Array.replicate_succ,Array.replicate_zero,List.push_toArray,List.append_toArray,List.nil_append,List.cons_append]
 gi_wp2_with fail;obtain⟨X1,hX1,hbX1,hsX1,q1,f1⟩:=boxed w #[.int .i64 0] 3
 rw[hX1];obtain⟨X,hX,hbX,hsX,q2,f2⟩:=boxed X1 #[.bool false] 4
 rw[hX];clear hX hX1;have hb:Below w.heap.size w X:=hbX1.trans (hbX.mono hbX1.size)
 have cA:X.cell? ⟨w.heap.size,0,none⟩=some (.int .i64 0):=(hbX.cell (p:=⟨w.heap.size,0,none⟩) (by show w.heap.size<_;omega)).trans (q1 0)
 have fA:X.frozen? ⟨w.heap.size,0,none⟩=false:=(hbX.frozen (p:=⟨w.heap.size,0,none⟩) (by show w.heap.size<_;omega)).trans (f1 0)
 have cB:X.cell? ⟨w.heap.size+1,0,none⟩=some (.bool false):=by have:=q2 0;rw[hsX1] at this;exact this
 have fB:X.frozen? ⟨w.heap.size+1,0,none⟩=false:=by have:=f2 0;rw[hsX1] at this;exact this
 have hsz:X.heap.size=w.heap.size+1+1:=by omega
 clear q1 q2 f1 f2 hbX hbX1 hsX hsX1;have hs:=hseq X hb
 refine wpIn_rangeFunc_ownF rfl (by have:=hn.out;omega) (gf:=gf) (lb:=lb) rfl trivial eg
  hs KeepS.trans (fun W l o o' _ hl hc _=>keepS_put allT W l o o' hl hc) (Below.refl _ _) (fun _=>rfl)
  (fun pre W=>(pre=[]∧W.cell? ⟨w.heap.size,0,none⟩=some (.int .i64 0)∧W.frozen? ⟨w.heap.size,0,none⟩=false∧W.cell? ⟨w.heap.size+1,0,none⟩=some (.bool false)∧W.frozen? ⟨w.heap.size+1,0,none⟩=false)∧Below w.heap.size w W)
  (fun c pre W=>(c=.ret∧∃ y,pre=[y]∧W.cell? ⟨w.heap.size,0,none⟩=some (.int .i64 y)∧W.cell? ⟨w.heap.size+1,0,none⟩=some (.bool true))∧Below w.heap.size w W)
  (OwnFrom.and (Own.from (fun s A B row hs hg hr=>⟨hs.1,cell_kept hs.2.1 hg hr,(frozen_kept hs.2.1 hg hr).trans hs.2.2.1,cell_kept hs.2.2.2.1 hg hr,(frozen_kept hs.2.2.2.1 hg hr).trans hs.2.2.2.2⟩) _) (ownFrom_below (Nat.le_refl _) (by omega)))
  (fun c=>OwnFrom.and (Own.from (fun s A B row hs hg hr=>by obtain⟨h1,y,h2,h3,h4⟩:=hs;exact⟨h1,y,h2,cell_kept h3 hg hr,cell_kept h4 hg hr⟩) _) (ownFrom_below (Nat.le_refl _) (by omega)))
  ⟨⟨rfl,cA,fA,cB,fB⟩,hb⟩
  (fun x=>{ tmps:=#[Value.func (Fn.func gf) #[] lb,undef,Value.pointer (some { block:=w.heap.size,off:=0 }),Value.pointer (some { block:=w.heap.size+1,off:=0 }),.int .i64 x,Value.func (Fn.func gf) #[] lb,.int .i64 x,undef],defers:=[] }) ?assign ?body ?done ?stop
 case assign =>
  intro l x W K hK;gi_wp2
  exact hK
 case body =>
  rintro l pre x W ⟨⟨rfl,hca,hfa,hcb,hfb⟩,hB⟩ _;gi_wp2_with fail;have h2:=two_set (.int .i64 x) (.bool true) (by omega) hca hcb
  exact⟨(KeepsOthers.setCell _ _ _).trans (KeepsOthers.setCell _ _ _),⟨rfl,x,rfl,h2.1,h2.2⟩,(hB.setCell (p:=⟨w.heap.size,0,none⟩) (by simp) _).setCell (p:=⟨w.heap.size+1,0,none⟩) (by simp) _⟩
 case done =>
  rintro D ys W hD rfl ⟨⟨rfl,hca,hfa,hcb,hfb⟩,hB⟩ hK;gi_wp2
  have hK':=((KeepsOthers.setCell W ⟨w.heap.size,0,none⟩ (.int .i64 0)).trans (KeepsOthers.setCell _ ⟨w.heap.size+1,0,none⟩ (.bool false))).same D _ hK rfl
  have h2:=two_set (.int .i64 0) (.bool false) (by omega) hca hcb
  refine⟨by simp,.inl ⟨_,_,rfl,run_takeDeferred hK', ?_⟩⟩
  have hc5:=cell_kept h2.1 (grownBy_putObj' _ D (.deferred none)) (fun r e=>by cases e;exact⟨_,hK',rfl⟩)
  have hc6:=cell_kept h2.2 (grownBy_putObj' _ D (.deferred none)) (fun r e=>by cases e;exact⟨_,hK',rfl⟩)
  refine⟨.tuple #[.int .i64 0,.bool false], ?_,rfl,((hB.setCell (p:=⟨w.heap.size,0,none⟩) (by simp) _).setCell (p:=⟨w.heap.size+1,0,none⟩) (by simp) _).trans (belowK_b (w:=w) (Nat.le_refl _) _ D _ _ (by omega) hK' rfl rfl)⟩
  simp[results,Tryz.f287,go_sem,hc5,hc6]
 case stop =>
  rintro D c pre W hD hpre ⟨⟨rfl,y,rfl,hca,hcb⟩,hB⟩ hK;have HL:Hid (L.headD 0=y∧L.isEmpty=false):=hideA (by
   obtain⟨t,rfl⟩:=hpre;exact⟨rfl,rfl⟩)
  gi_wp2
  refine⟨by simp,.inl ⟨_,_,rfl,run_takeDeferred hK, ?_⟩⟩
  have hc5:=cell_kept hca (grownBy_putObj' _ D (.deferred none)) (fun r e=>by cases e;exact⟨_,hK,rfl⟩)
  have hc6:=cell_kept hcb (grownBy_putObj' _ D (.deferred none)) (fun r e=>by cases e;exact⟨_,hK,rfl⟩)
  refine⟨.tuple #[.int .i64 y,.bool true], ?_,by rw[HL.out.1,HL.out.2];rfl,hB.trans (belowK_b (w:=w) (Nat.le_refl _) W D _ _ (by omega) hK rfl rfl)⟩
  simp[results,Tryz.f287,go_sem,hc5,hc6]
end Go.Proofs.YtgieeeeeiggoeaaGreat
namespace Go.Proofs.YtgieeeeeiggoeaaGreat
open Go.RowKit Go.Shelf
theorem head_behind (l:List Int)(x:Int):(behindOf l x).head?=nextOf l x:=by
 unfold behindOf nextOf
 split
 ·rw[List.head?_drop]
 ·rename_i h
  rw[List.idxOf_eq_length h];simp
theorem head_ahead (l:List Int)(x:Int):(aheadOf l x).head?=prevOf l x:=by
 unfold aheadOf prevOf
 split
 ·rename_i h
  have hi:=List.idxOf_lt_length_of_mem h
  rw[List.head?_reverse]
  by_cases h0:l.idxOf x=0
  ·rw[if_pos h0,h0];simp
  ·rw[if_neg h0,if_pos hi,List.getLast?_eq_getElem?,List.length_take,Nat.min_eq_left (by omega),List.getElem?_take_of_lt (by omega)]
 ·rename_i h
  rw[List.idxOf_eq_length h];split
  ·rfl
  ·simp
theorem heads {L:List Int}{o:Option Int}(h:L.head?=o):L.headD 0=o.getD 0∧(!L.isEmpty)=o.isSome:=by
 subst h;cases L<;>simp
theorem next_any (a:Option Addr)(c:Nat)(L:List Int)(x:Int)(w:World)(hL:L.length≤1000)(hcap:L.length≤c)(hv:IntsAt w (.slice a L.length c) L) :
  Calls Tryz.prog 280 #[.slice a L.length c,.int .i64 x] w fun e w'=>e=.returned (.tuple #[.int .i64 ((nextOf L x).getD 0),.bool (nextOf L x).isSome])∧Below w.heap.size w w':=by
 obtain⟨H1,H2⟩:=heads (head_behind L x)
 rw[← H1, ← H2];clear H1 H2;have hbeh:Calls Tryz.prog 288 #[.slice a L.length c,.int .i64 x] w fun e w'=>e=.returned (.func (.func 294) #[] #[.pointer (some ⟨w.heap.size,0,none⟩),.pointer (some ⟨w.heap.size+1,0,none⟩)])∧w'=(w.alloc (.cells #[.slice a L.length c] 29)).alloc (.cells #[.int .i64 x] 3):=by
  go_enter Tryz.func288,Tryz.ntmps288
  go_wp2_with fail;go_ret;exact⟨rfl,rfl⟩
 go_enter Tryz.func280,Tryz.ntmps280
 go_wp2_with fail;refine hbeh.mono ?_
 rintro e w1 ⟨rfl,rfl⟩;clear hbeh;obtain⟨X1,hX1,hbX1,hsX1,q1, -⟩:=boxed w #[.slice a L.length c] 29
 rw[hX1];obtain⟨X,hX,hbX,hsX,q2, -⟩:=boxed X1 #[.int .i64 x] 3
 rw[hX];clear hX hX1;have hb:Below w.heap.size w X:=hbX1.trans (hbX.mono hbX1.size)
 have cA:X.cell? ⟨w.heap.size,0,none⟩=some (.slice a L.length c):=(hbX.cell (p:=⟨w.heap.size,0,none⟩) (by show w.heap.size<_;omega)).trans (q1 0)
 have cB:X.cell? ⟨w.heap.size+1,0,none⟩=some (.int .i64 x):=by have:=q2 0;rw[hsX1] at this;exact this
 have hf:=callsIn_wide.1 (first_in 3 (hideA (by omega)) 294 #[.pointer (some ⟨w.heap.size,0,none⟩),.pointer (some ⟨w.heap.size+1,0,none⟩)] (behindOf L x) X (enters_of Tryz.func294 (by kernel_rfl) rfl)
  (fun W hW=>behind_stops _ w.heap.size (w.heap.size+1) a c L x W hL hcap (cell_later hW cA) (cell_later hW cB) ((hv.below hb).below hW)))
 clear q1 q2 cA cB hv;go_wp2_with fail;refine hf.mono ?_
 rintro e w2 ⟨rfl,hb2⟩;go_wp2_with fail;go_ret2
 exact⟨by simp,hb.trans (hb2.mono hb.size)⟩
theorem previous_any (a:Option Addr)(c:Nat)(L:List Int)(x:Int)(w:World)(hL:L.length≤1000)(hv:IntsAt w (.slice a L.length c) L) :
  Calls Tryz.prog 285 #[.slice a L.length c,.int .i64 x] w fun e w'=>e=.returned (.tuple #[.int .i64 ((prevOf L x).getD 0),.bool (prevOf L x).isSome])∧Below w.heap.size w w':=by
 obtain⟨H1,H2⟩:=heads (head_ahead L x)
 rw[← H1, ← H2];clear H1 H2;have hbeh:Calls Tryz.prog 293 #[.slice a L.length c,.int .i64 x] w fun e w'=>e=.returned (.func (.func 297) #[] #[.pointer (some ⟨w.heap.size,0,none⟩),.pointer (some ⟨w.heap.size+1,0,none⟩)])∧w'=(w.alloc (.cells #[.slice a L.length c] 29)).alloc (.cells #[.int .i64 x] 3):=by
  go_enter Tryz.func293,Tryz.ntmps293
  go_wp2_with fail;go_ret;exact⟨rfl,rfl⟩
 go_enter Tryz.func285,Tryz.ntmps285
 go_wp2_with fail;refine hbeh.mono ?_
 rintro e w1 ⟨rfl,rfl⟩;clear hbeh;obtain⟨X1,hX1,hbX1,hsX1,q1, -⟩:=boxed w #[.slice a L.length c] 29
 rw[hX1];obtain⟨X,hX,hbX,hsX,q2, -⟩:=boxed X1 #[.int .i64 x] 3
 rw[hX];clear hX hX1;have hb:Below w.heap.size w X:=hbX1.trans (hbX.mono hbX1.size)
 have cA:X.cell? ⟨w.heap.size,0,none⟩=some (.slice a L.length c):=(hbX.cell (p:=⟨w.heap.size,0,none⟩) (by show w.heap.size<_;omega)).trans (q1 0)
 have cB:X.cell? ⟨w.heap.size+1,0,none⟩=some (.int .i64 x):=by have:=q2 0;rw[hsX1] at this;exact this
 have hf:=callsIn_wide.1 (first_in 3 (hideA (by omega)) 297 #[.pointer (some ⟨w.heap.size,0,none⟩),.pointer (some ⟨w.heap.size+1,0,none⟩)] (aheadOf L x) X (enters_of Tryz.func297 (by kernel_rfl) rfl)
  (fun W hW=>ahead_stops _ w.heap.size (w.heap.size+1) a c L x W hL (cell_later hW cA) (cell_later hW cB) ((hv.below hb).below hW)))
 clear q1 q2 cA cB hv;go_wp2_with fail;refine hf.mono ?_
 rintro e w2 ⟨rfl,hb2⟩;go_wp2_with fail;go_ret2
 exact⟨by simp,hb.trans (hb2.mono hb.size)⟩
end Go.Proofs.YtgieeeeeiggoeaaGreat
namespace Go.Proofs.YtgieeeeeiggoeaaGreat
open Go.RowKit
section
variable {P:Program} (w:World)
theorem run_append_keeps (t ty:TypeId)(base:Nat)(e:TypeId)(i:TypeInfo)(z:Value)(size bytes:Nat)(ht:P.underlying t=some (.slice e))(hi:P.info? e=some i)(hz:i.zero=some z)
  (hsize:i.size=size) (hby:i.bytes=bytes) (hzs:z.cells.size=size) (hsz:0<size)
  (v:Value) (n:Nat) (xs:List Value) (hown:w.ownsRow base e size v n xs)
  (ad:Addr) (m c:Nat) (news:List Value) (hl:news.length=m*size) (hnews:∀ j u,news[j]?=some u→w.cell? (ad.add j)=some u) (h1:∀ u∈news,u.oneCell'=true)
  (hm:0<m) (h63:n+m≤maxLen) (hbytes:(n+m)*bytes≤140737488355328) (hbase:base≤w.heap.size) :
  ∃ g cap w',(Builtin.append_ #[t,t] ty #[v,.slice (some ad) m c]).run P w=.ok (.slice (some ⟨g,0,none⟩) (n+m) cap) w' ∧
   w'.ownsRow base e size (.slice (some ⟨g,0,none⟩) (n+m) cap) (n+m) (xs++news)∧w.grownBy w' v.ownBlock∧w'.ownsRow base e size v n xs∧(v.ownBlock=some g∨g=w.heap.size):=by
 obtain⟨g,cap,w',hr,h2,h3,h4,h5⟩:=run_append_lies (P:=P) w t ty base e i z size bytes ht hi hz hsize hby hzs hsz v n xs hown ad m c news hl hnews h1 hm h63 hbytes hbase _ rfl
 refine⟨g,cap,w',hr,h2,h3, ?_,h4⟩
 have hsmall:n+m≤9223372036854775807:=by simp only [maxLen] at h63;omega
 rcases hown.2 with ⟨rfl,rfl⟩|⟨g0,cap0,cur,rfl,hbg,hg,hnc,hcm,hcs,htake⟩
 ·exact⟨hown.1,.inl ⟨rfl,rfl⟩⟩
 ·by_cases hroom:n+m≤cap0
  ·have hfit:n*i.size+news.length≤cur.size:=by rw[hl,hcs,hsize, ← Nat.add_mul];exact Nat.mul_le_mul_right _ hroom
   have hr2:=run_append_room (P:=P) w t ty e i ht hi g0 n cap0 cur hg ad m c news (by rw[hsize];exact hl) hnews h1 hroom hfit
   rw[hr2] at hr
   injection hr with hv hw
   subst hw;refine⟨hown.1,.inr ⟨g0,cap0,_,rfl,hbg,setRow_heap w g0 cur _ e _ hg,hnc,hcm, ?_, ?_⟩⟩
   ·simp only [List.size_toArray,List.length_append,List.length_take,List.length_drop,Array.length_toList]
    omega
   ·have hlen:xs.length=n*size:=hown.1
    rw[hsize,htake,List.append_assoc];simp only []
    rw[← hlen];exact List.take_left
  ·have holds:∀ j u,xs[j]?=some u→w.cell? ((⟨g0,0,none⟩:Addr).add j)=some u:=hown.cells (g:=g0) rfl
   have hr2:=run_append_grow (P:=P) w t ty e i z ht hi hz ⟨g0,0,none⟩ n cap0 xs (by rw[hsize];exact hown.1) holds ad m c news (by rw[hsize];exact hl) hnews (by omega) (by omega) (growslice_fits (by omega) (by rw[hby];exact hbytes))
   rw[hr2] at hr
   injection hr with hv hw
   subst hw;refine⟨hown.1,.inr ⟨g0,cap0,cur,rfl,hbg, ?_,hnc,hcm,hcs,htake⟩⟩
   rw[Below.heap_alloc w.drew _ g0 (Array.getElem?_eq_some_iff.1 hg).1]
   exact hg
theorem wpList_append_keeps {ops:Array Oper}{rest:List Oper}{o:Oper}{a:Act}{Q:Exit→Act→World→Prop}(hgd:o.guard=none)(s x:Operand)(t:TypeId)
  (ho:o.op=.call { callee:=.builtin .append,args:=#[s,x],argTypes:=#[t,t] })
  (base:Nat) (e:TypeId) (i:TypeInfo) (z:Value) (size bytes:Nat) (ht:P.underlying t=some (.slice e)) (hi:P.info? e=some i) (hz:i.zero=some z)
  (hsize:i.size=size) (hby:i.bytes=bytes) (hzs:z.cells.size=size) (hsz:0<size)
  (v:Value) (n:Nat) (xs:List Value) (hs:a.eval s=v) (hown:w.ownsRow base e size v n xs)
  (ad:Addr) (m c:Nat) (news:List Value) (hx:a.eval x=.slice (some ad) m c) (hl:news.length=m*size) (hnews:∀ j u,news[j]?=some u→w.cell? (ad.add j)=some u) (h1:∀ u∈news,u.oneCell'=true)
  (hm:0<m) (h63:n+m≤maxLen) (hbytes:(n+m)*bytes≤140737488355328) (hbase:base≤w.heap.size)
  (h:∀ g cap w',w'.ownsRow base e size (.slice (some ⟨g,0,none⟩) (n+m) cap) (n+m) (xs++news)→w.grownBy w' v.ownBlock→w'.ownsRow base e size v n xs→(v.ownBlock=some g∨g=w.heap.size)→wpList P ops Q rest (a.put o.dst (.slice (some ⟨g,0,none⟩) (n+m) cap)) w'):wpList P ops Q (o :: rest) a w:=by
 refine wpList_plain hgd fun _ hK => ?_
 obtain⟨g,cap,w',hr,h2,h3,h4,h5⟩:=run_append_keeps (P:=P) w t o.type base e i z size bytes ht hi hz hsize hby hzs hsz v n xs hown ad m c news hl hnews h1 hm h63 hbytes hbase
 unfold Oper.wp execOp
 simp only [ho,resolve,invoke,builtin,Sem.run_bind,Sem.run_pure,Result.andThen_ok,List.map_toArray,List.map_cons,List.map_nil,hs,hx,hr]
 exact hK _ _ (h g cap w' h2 h3 h4 h5)
end
theorem owns_beside {w w':World}{base1 base2:Nat}{e1 e2:TypeId}{size n1 n2:Nat}{v1 v2:Value}{xs1 xs2:List Value}(h1:w.ownsRow base1 e1 size v1 n1 xs1)(h2:w.ownsRow base2 e2 size v2 n2 xs2)
  (hg:w.grownBy w' v2.ownBlock) (h2':w'.ownsRow base2 e2 size v2 n2 xs2) (hle:n1≤n2) (hs:0<size):w'.ownsRow base1 e1 size v1 n1 xs1:=by
 rcases h1.2 with ⟨rfl,rfl⟩|⟨g1,cap1,cur1,rfl,hb1,hg1,hn1,hc1,hs1,ht1⟩
 ·exact⟨h1.1,.inl ⟨rfl,rfl⟩⟩
 ·by_cases he:v2.ownBlock=some g1
  ·rcases h2.2 with ⟨rfl,rfl⟩|⟨g2,cap2,cur2,rfl,hb2,hg2,hn2,hc2,hs2,ht2⟩
   ·cases he
   ·have hgg:g2=g1:=by simpa [Value.ownBlock] using he
    subst hgg;rw[hg1] at hg2
    cases hg2
    have hcap:cap1=cap2:=Nat.eq_of_mul_eq_mul_right hs (by rw[← hs1, ← hs2])
    subst hcap;rcases h2'.2 with ⟨h0,_⟩|⟨g3,cap3,cur3,hv3,hb3,hg3,hn3,hc3,hs3,ht3⟩
    ·cases h0
    ·cases hv3
     refine⟨h1.1,.inr ⟨_,_,cur3,rfl,hb1,hg3,hn1,hc1,hs3, ?_⟩⟩
     have e1:cur3.toList.take (n1*size)=(cur3.toList.take (n2*size)).take (n1*size):=by
      rw[List.take_take,Nat.min_eq_left (Nat.mul_le_mul_right _ hle)]
     rw[e1,ht3, ← ht2,List.take_take,Nat.min_eq_left (Nat.mul_le_mul_right _ hle),ht1]
  ·refine⟨h1.1,.inr ⟨g1,cap1,cur1,rfl,hb1, ?_,hn1,hc1,hs1,ht1⟩⟩
   rw[hg.block g1 (Array.getElem?_eq_some_iff.1 hg1).1 (fun h=>he h.symm)]
   exact hg1
structure Moved (w w':World)(S:Nat→Prop):Prop where
 os:w'.os=w.os
 tape:w'.tape=w.tape
 output:w'.output=w.output
 size:w.heap.size≤w'.heap.size
 block:∀ k,k<w.heap.size→¬ S k→w'.heap[k]?=w.heap[k]?
theorem Moved.refl (w:World)(S:Nat→Prop):Moved w w S:=⟨rfl,rfl,rfl,Nat.le_refl _,fun _ _ _=>rfl⟩
theorem Moved.trans {w w1 w2:World}{S S':Nat→Prop}(h:Moved w w1 S)(h':Moved w1 w2 S')(hs:∀ k,k<w.heap.size→S' k→S k):Moved w w2 S :=
 ⟨h'.os.trans h.os,h'.tape.trans h.tape,h'.output.trans h.output,Nat.le_trans h.size h'.size,fun k hk hS=>(h'.block k (Nat.lt_of_lt_of_le hk h.size) (fun h2=>hS (hs k hk h2))).trans (h.block k hk hS)⟩
theorem Moved.grown {w w1 w2:World}{S:Nat→Prop}{row:Option Nat}(h:Moved w w1 S)(h':w1.grownBy w2 row)(hs:∀ k,k<w.heap.size→row=some k→S k):Moved w w2 S :=
 h.trans (S':=fun k=>row=some k) ⟨h'.os,h'.tape,h'.output,h'.size,fun k hk hS=>h'.block k hk (fun e=>hS e.symm)⟩ hs
theorem Moved.alloc {w w1:World}{S:Nat→Prop}(h:Moved w w1 S)(o:Obj):Moved w (w1.alloc o) S :=
 h.trans (S':=fun _=>False) ⟨rfl,rfl,rfl,by simp,fun k hk _=>Below.heap_alloc _ _ k hk⟩ (fun _ _ h=>h.elim)
theorem Moved.setCell {w w1:World}{S:Nat→Prop}(h:Moved w w1 S)(p:Addr)(hp:S p.block)(u:Value):Moved w (w1.setCell p u) S :=
 h.trans (S':=fun k=>k=p.block) ⟨rfl,rfl,rfl,by simp,fun k _ hS=>Below.heap_setCell _ _ _ k hS⟩ (fun k _ e=>e ▸ hp)
theorem Moved.drew {w w1:World}{S:Nat→Prop}(h:Moved w w1 S):Moved w w1.drew S:=⟨h.os,h.tape,h.output,h.size,h.block⟩
theorem Moved.below {w w1 w2:World}{S:Nat→Prop}(h:Moved w w1 S)(h':Below w1.heap.size w1 w2):Moved w w2 S :=
 h.trans (S':=fun _=>False) ⟨h'.os,h'.tape,h'.output,h'.size,fun k hk _=>h'.block k hk⟩ (fun _ _ h=>h.elim)
theorem Moved.to_below {w w':World}{S:Nat→Prop}{B:Nat}(h:Moved w w' S)(hS:∀ k,S k→B≤k)(hB:B≤w.heap.size):Below B w w' :=
 ⟨h.os,h.tape,h.output,h.size,fun k hk=>h.block k (Nat.lt_of_lt_of_le hk hB) (fun hs=>by have:=hS k hs;omega)⟩
theorem Moved.owns {w w':World}{S:Nat→Prop}{base size n:Nat}{e:TypeId}{v:Value}{xs:List Value}(h:Moved w w' S)(ho:w.ownsRow base e size v n xs)(hv:∀ k,v.ownBlock=some k→¬ S k):w'.ownsRow base e size v n xs:=by
 refine⟨ho.1, ?_⟩
 rcases ho.2 with h0|⟨g,cap,cur,rfl,hb,hg,rest⟩
 ·exact .inl h0
 ·exact .inr ⟨g,cap,cur,rfl,hb,(h.block g (Array.getElem?_eq_some_iff.1 hg).1 (hv g rfl)).trans hg,rest⟩
theorem otw {w:World}{b1 b2 s1 s2 n1 n2:Nat}{e1 e2:TypeId}{v1 v2:Value}{xs1 xs2:List Value}(h1:w.ownsRow b1 e1 s1 v1 n1 xs1)(h2:w.ownsRow b2 e2 s2 v2 n2 xs2)(he:e1≠e2):∀ k,v1.ownBlock=some k→v2.ownBlock≠some k:=by
 intro k hk hk2;rcases h1.2 with ⟨rfl,_⟩|⟨g1,_,_,rfl,_,hg1,_⟩
 ·cases hk
 ·rcases h2.2 with ⟨rfl,_⟩|⟨g2,_,_,rfl,_,hg2,_⟩
  ·cases hk2
  ·have e1':g1=k:=by simpa [Value.ownBlock] using hk
   have e2':g2=k:=by simpa [Value.ownBlock] using hk2
   subst e1' e2'
   rw[hg1] at hg2
   injection hg2 with h
   injection h with _ h
   exact he h
end Go.Proofs.YtgieeeeeiggoeaaGreat
