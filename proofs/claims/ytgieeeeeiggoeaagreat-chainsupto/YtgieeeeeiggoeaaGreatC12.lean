import Derived.Test.YtgieeeeeiggoeaaGreatC11
import Derived.OneCell
import Derived.Deep.DeepCutAuto
set_option maxRecDepth 100000
set_option maxHeartbeats 2000000
namespace Go.Proofs.YtgieeeeeiggoeaaGreat
open Go.RowKit
def intsRow (n:Nat):Array Value:=madeCells #[.int .i64 0] (n*1)
def entsRow (n:Nat):Array Value:=madeCells #[.int .i64 0,.int .i64 0,.int .i64 0,.int .i64 0,.int .i64 0] (n*5)
theorem make_ints (n:Nat)(h:n≤1000000):∀ w,(Instr.makeSlice 29 (.int .i64 (n:Int)) (.int .i64 (n:Int))).run Tryz.prog w=.ok (.slice (some ⟨w.heap.size,0,none⟩) n n) (w.alloc (.cells (intsRow n) 3)):=by
 intro w;obtain⟨i0,hi,hz0,hz1,hz2⟩:=info_parts infoInt
 have:=run_make (P:=Tryz.prog) w 29 3 i0 _ Tryz.underlying29 hi hz0 .i64 .i64 n n (by omega) (Int.le_refl _) (by rw[hz2];omega) (by omega)
 rw[Int.toNat_natCast,hz1] at this
 exact this
theorem make_ents (n:Nat)(h:n≤1000000):∀ w,(Instr.makeSlice 44 (.int .i64 (n:Int)) (.int .i64 (n:Int))).run Tryz.prog w=.ok (.slice (some ⟨w.heap.size,0,none⟩) n n) (w.alloc (.cells (entsRow n) 42)):=by
 intro w;obtain⟨i0,hi,hz0,hz1,hz2⟩:=info_parts infoEnt
 have:=run_make (P:=Tryz.prog) w 44 42 i0 _ Tryz.underlying44 hi hz0 .i64 .i64 n n (by omega) (Int.le_refl _) (by rw[hz2];omega) (by omega)
 rw[Int.toNat_natCast,hz1] at this
 exact this
theorem hnw (W:World)(a:Obj):(W.alloc a).heap[W.heap.size]?=some a:=by
 show (W.heap.push a)[W.heap.size]?=some a
 simp
section
variable (W:World) (a b c:Obj)
theorem heap3_2 : (((W.alloc a).alloc b).alloc c).heap[W.heap.size+1+1]?=some c:=by
 have:=hnw ((W.alloc a).alloc b) c
 rwa [World.size_alloc,World.size_alloc] at this
theorem heap3_1 : (((W.alloc a).alloc b).alloc c).heap[W.heap.size+1]?=some b:=by
 rw[Below.heap_alloc _ _ _ (by rw[World.size_alloc,World.size_alloc];omega)]
 have:=hnw (W.alloc a) b
 rwa [World.size_alloc] at this
theorem heap3_0 : (((W.alloc a).alloc b).alloc c).heap[W.heap.size]?=some a:=by
 rw[Below.heap_alloc _ _ _ (by rw[World.size_alloc,World.size_alloc];omega),Below.heap_alloc _ _ _ (by rw[World.size_alloc];omega)]
 exact hnw W a
theorem below3 : Below W.heap.size W (((W.alloc a).alloc b).alloc c):=(((Below.refl _ _).alloc (Nat.le_refl _) _).alloc (by rw[World.size_alloc];omega) _).alloc (by rw[World.size_alloc,World.size_alloc];omega) _
end
theorem coh {w:World}{B:Nat}{cs:Array Value}{T:TypeId}(h:w.heap[B]?=some (.cells cs T))(j:Nat):w.cell? ⟨B,j,none⟩=cs[j]?:=by
 simp[World.cell?,h]
theorem foh {w:World}{B:Nat}{cs:Array Value}{T:TypeId}(h:w.heap[B]?=some (.cells cs T))(j:Nat):w.frozen? ⟨B,j,none⟩=false:=by
 simp[World.frozen?,h]
theorem byteAt_drop (T:List UInt8)(d k:Nat):byteAt (T.drop d) k=byteAt T (d+k):=by
 unfold byteAt;rw[List.getD,List.getElem?_drop,List.getD]
theorem numAt_drop (T:List UInt8)(d:Nat):numAt (T.drop d) 0=numAt T d:=by
 unfold numAt;rw[byteAt_drop,byteAt_drop,Nat.add_zero,Nat.zero_add]
structure RBI (T:List UInt8)(B R gm gl nm ne base:Nat)(W wr:World)(d:Nat)(F:Nat→Option Value)(ms es:List Int):Prop where
 cB:∀ j,wr.cell? ⟨B,j,none⟩=F j
 fB:∀ j,wr.frozen? ⟨B,j,none⟩=false
 cR:wr.cell? ⟨R,0,none⟩=some (.string (bs (T.drop d)))
 fR:wr.frozen? ⟨R,0,none⟩=false
 om:wr.ownsRow base 3 1 (.slice (some ⟨gm,0,none⟩) nm nm) nm (ints ms)
 ol:wr.ownsRow base 42 5 (.slice (some ⟨gl,0,none⟩) ne ne) ne (ints es)
 be:Below base W wr
 oB:base≤B
 oR:base≤R
 om':base≤gm
 ol':base≤gl
 lR:R<wr.heap.size
 nB:B≠R
 n1:B≠gm
 n2:B≠gl
 n3:gm≠gl
 n4:R≠gm
 n5:R≠gl
theorem RBI.reads {T:List UInt8}{B R gm gl nm ne base:Nat}{W wr:World}{d:Nat}{F:Nat→Option Value}{ms es:List Int}(h:RBI T B R gm gl nm ne base W wr d F ms es)(d' q:Nat) :
  RBI T B R gm gl nm ne base W ((wr.setCell ⟨R,0,none⟩ (.string (bs (T.drop d')))).drewN q) d' F ms es where
 cB j:=(World.cell?_setCell_other wr _ _ _ (by intro e;cases e;exact h.nB rfl)).trans (h.cB j)
 fB j:=(World.frozen?_setCell wr _ _ _).trans (h.fB j)
 cR:=World.cell?_setCell_same' wr _ _ (by rw[h.cR];rfl)
 fR:=(World.frozen?_setCell wr _ _ _).trans h.fR
 om:=ownsRow_setCell_other h.om (by intro e;cases e;exact h.n4 rfl) _
 ol:=ownsRow_setCell_other h.ol (by intro e;cases e;exact h.n5 rfl) _
 be:=below_drewN (h.be.setCell h.oR _) q
 oB:=h.oB
 oR:=h.oR
 om':=h.om'
 ol':=h.ol'
 lR:=by have:=h.lR;simpa using this
 nB:=h.nB
 n1:=h.n1
 n2:=h.n2
 n3:=h.n3
 n4:=h.n4
 n5:=h.n5
theorem RBI.setB {T:List UInt8}{B R gm gl nm ne base:Nat}{W wr:World}{d:Nat}{F:Nat→Option Value}{ms es:List Int}(h:RBI T B R gm gl nm ne base W wr d F ms es)(k:Nat)(v:Value)(hk:(F k).isSome=true) :
  RBI T B R gm gl nm ne base W (wr.setCell ⟨B,k,none⟩ v) d (fun j=>if j=k then some v else F j) ms es where
 cB j:=by
  by_cases e:j=k
  ·subst e
   rw[if_pos rfl];exact World.cell?_setCell_same' wr _ _ (by rw[h.cB j];exact hk)
  ·rw[if_neg e]
   exact (World.cell?_setCell_other wr _ _ _ (by intro e';cases e';exact e rfl)).trans (h.cB j)
 fB j:=(World.frozen?_setCell wr _ _ _).trans (h.fB j)
 cR:=(World.cell?_setCell_other wr _ _ _ (by intro e;cases e;exact h.nB rfl)).trans h.cR
 fR:=(World.frozen?_setCell wr _ _ _).trans h.fR
 om:=ownsRow_setCell_other h.om (by intro e;cases e;exact h.n1 rfl) _
 ol:=ownsRow_setCell_other h.ol (by intro e;cases e;exact h.n2 rfl) _
 be:=h.be.setCell h.oB _
 oB:=h.oB
 oR:=h.oR
 om':=h.om'
 ol':=h.ol'
 lR:=by have:=h.lR;simpa using this
 nB:=h.nB
 n1:=h.n1
 n2:=h.n2
 n3:=h.n3
 n4:=h.n4
 n5:=h.n5
theorem ints_set (l:List Int)(k:Nat)(x:Int):(ints l).set k (.int .i64 x)=ints (l.set k x):=by
 simp[ints,List.map_set]
theorem RBI.setM {T:List UInt8}{B R gm gl nm ne base:Nat}{W wr:World}{d:Nat}{F:Nat→Option Value}{ms es:List Int}(h:RBI T B R gm gl nm ne base W wr d F ms es)(k:Nat)(x:Int) :
  RBI T B R gm gl nm ne base W (wr.setCell ⟨gm,k,none⟩ (.int .i64 x)) d F (ms.set k x) es where
 cB j:=(World.cell?_setCell_other wr _ _ _ (by intro e;cases e;exact h.n1 rfl)).trans (h.cB j)
 fB j:=(World.frozen?_setCell wr _ _ _).trans (h.fB j)
 cR:=(World.cell?_setCell_other wr _ _ _ (by intro e;cases e;exact h.n4 rfl)).trans h.cR
 fR:=(World.frozen?_setCell wr _ _ _).trans h.fR
 om:=by rw[← ints_set];exact (h.om.stored k _).1
 ol:=ownsRow_setCell_other h.ol (by intro e;cases e;exact h.n3 rfl) _
 be:=h.be.setCell h.om' _
 oB:=h.oB
 oR:=h.oR
 om':=h.om'
 ol':=h.ol'
 lR:=by have:=h.lR;simpa using this
 nB:=h.nB
 n1:=h.n1
 n2:=h.n2
 n3:=h.n3
 n4:=h.n4
 n5:=h.n5
theorem RBI.setL {T:List UInt8}{B R gm gl nm ne base:Nat}{W wr:World}{d:Nat}{F:Nat→Option Value}{ms es:List Int}(h:RBI T B R gm gl nm ne base W wr d F ms es)(k:Nat)(x:Int) :
  RBI T B R gm gl nm ne base W (wr.setCell ⟨gl,k,none⟩ (.int .i64 x)) d F ms (es.set k x) where
 cB j:=(World.cell?_setCell_other wr _ _ _ (by intro e;cases e;exact h.n2 rfl)).trans (h.cB j)
 fB j:=(World.frozen?_setCell wr _ _ _).trans (h.fB j)
 cR:=(World.cell?_setCell_other wr _ _ _ (by intro e;cases e;exact h.n5 rfl)).trans h.cR
 fR:=(World.frozen?_setCell wr _ _ _).trans h.fR
 om:=ownsRow_setCell_other h.om (by intro e;cases e;exact h.n3 rfl) _
 ol:=by rw[← ints_set];exact (h.ol.stored k _).1
 be:=h.be.setCell h.ol' _
 oB:=h.oB
 oR:=h.oR
 om':=h.om'
 ol':=h.ol'
 lR:=by have:=h.lR;simpa using this
 nB:=h.nB
 n1:=h.n1
 n2:=h.n2
 n3:=h.n3
 n4:=h.n4
 n5:=h.n5
theorem RBI.below {T:List UInt8}{B R gm gl nm ne base:Nat}{W wr w2:World}{d:Nat}{F:Nat→Option Value}{ms es:List Int}(h:RBI T B R gm gl nm ne base W wr d F ms es)(hb:Below wr.heap.size wr w2)
  (lB:B<wr.heap.size) (lbase:base≤wr.heap.size):RBI T B R gm gl nm ne base W w2 d F ms es where
 cB j:=(hb.cell (p:=⟨B,j,none⟩) lB).trans (h.cB j)
 fB j:=(hb.frozen (p:=⟨B,j,none⟩) lB).trans (h.fB j)
 cR:=(hb.cell (p:=⟨R,0,none⟩) h.lR).trans h.cR
 fR:=(hb.frozen (p:=⟨R,0,none⟩) h.lR).trans h.fR
 om:=okp h.om fun k _ hk=>hb.block k hk
 ol:=okp h.ol fun k _ hk=>hb.block k hk
 be:=h.be.trans (hb.mono lbase)
 oB:=h.oB
 oR:=h.oR
 om':=h.om'
 ol':=h.ol'
 lR:=Nat.lt_of_lt_of_le h.lR hb.size
 nB:=h.nB
 n1:=h.n1
 n2:=h.n2
 n3:=h.n3
 n4:=h.n4
 n5:=h.n5
theorem intsRow_list (n:Nat):(intsRow n).toList=ints (List.replicate n 0):=by
 unfold intsRow
 rw[toList_madeCells_one,Nat.mul_one];simp[ints]
theorem entsRow_list (n:Nat):(entsRow n).toList=ints (List.replicate (n*5) 0):=by
 apply List.ext_getElem?
 intro j;unfold entsRow ints
 by_cases hj:j<n*5
 ·have h5:j % 5<5:=Nat.mod_lt _ (by omega)
  have:∀ k,k<5→(#[Value.int .i64 0,.int .i64 0,.int .i64 0,.int .i64 0,.int .i64 0][k]!:Value)=.int .i64 0:=by
   intro k hk;match k,hk with
   | 0,_=>rfl
   | 1,_=>rfl
   | 2,_=>rfl
   | 3,_=>rfl
   | 4,_=>rfl
  have h:=this (j % 5) h5
  simp[madeCells,hj]
  simpa using h
 ·simp[madeCells,hj]
theorem size_rows (n:Nat):(intsRow n).size=n*1∧(entsRow n).size=n*5:=⟨size_madeCells _ _,size_madeCells _ _⟩
theorem types_ne {w:World}{a b:Nat}{x y:Array Value}{s t:TypeId}(ha:w.heap[a]?=some (.cells x s))(hb:w.heap[b]?=some (.cells y t))(hst:s≠t):a≠b:=by
 intro e;subst e;rw[ha] at hb
 injection hb with hb
 injection hb with _ h
 exact hst h
end Go.Proofs.YtgieeeeeiggoeaaGreat
namespace Go.Proofs.YtgieeeeeiggoeaaGreat
open Go.RowKit
def headBox (T:List UInt8)(gm gl nm ne n:Nat)(j:Nat):Option Value :=
 if 1≤j∧j≤n then some (.int .i64 (numAt T (2*j-1))) else (#[.int .i64 (byteAt T 0:Nat),.int .i64 0,.int .i64 0,.int .i64 0,.int .i64 0,.int .i64 0,.int .i64 0,.int .i64 0,.slice (some ⟨gm,0,none⟩) nm nm,.slice (some ⟨gl,0,none⟩) ne ne]:Array Value)[j]?
theorem headBox_zero (T:List UInt8)(gm gl nm ne:Nat):headBox T gm gl nm ne 0=fun j=>(#[.int .i64 (byteAt T 0:Nat),.int .i64 0,.int .i64 0,.int .i64 0,.int .i64 0,.int .i64 0,.int .i64 0,.int .i64 0,.slice (some ⟨gm,0,none⟩) nm nm,.slice (some ⟨gl,0,none⟩) ne ne]:Array Value)[j]?:=by
 funext j;unfold headBox;rw[if_neg (by omega)]
theorem headBox_succ (T:List UInt8)(gm gl nm ne n:Nat):headBox T gm gl nm ne (n+1)=fun j=>if j=n+1 then some (.int .i64 (numAt T (1+2*n))) else headBox T gm gl nm ne n j:=by
 funext j
 unfold headBox
 by_cases h:j=n+1
 ·subst h
  rw[if_pos (by omega),if_pos rfl,show 2*(n+1)-1=1+2*n by omega]
 ·rw[if_neg h]
  by_cases h2:1≤j∧j≤n
  ·rw[if_pos h2,if_pos (by omega)]
  ·rw[if_neg h2,if_neg (by omega)]
theorem headBox_some (T:List UInt8)(gm gl nm ne n k:Nat)(hk:k<10):(headBox T gm gl nm ne n k).isSome=true:=by
 unfold headBox
 split
 ·rfl
 ·simp[hk]
theorem head_index0 (B:Nat)(w:World):(Instr.index 225 (.agg #[.pointer (some ⟨B,1,none⟩),.pointer (some ⟨B,2,none⟩),.pointer (some ⟨B,3,none⟩),.pointer (some ⟨B,4,none⟩),.pointer (some ⟨B,5,none⟩),.pointer (some ⟨B,6,none⟩),.pointer (some ⟨B,7,none⟩)]) (.int .i64 0)).run Tryz.prog w=.ok (.pointer (some ⟨B,1,none⟩)) w:=by kernel_rfl
theorem head_index1 (B:Nat)(w:World):(Instr.index 225 (.agg #[.pointer (some ⟨B,1,none⟩),.pointer (some ⟨B,2,none⟩),.pointer (some ⟨B,3,none⟩),.pointer (some ⟨B,4,none⟩),.pointer (some ⟨B,5,none⟩),.pointer (some ⟨B,6,none⟩),.pointer (some ⟨B,7,none⟩)]) (.int .i64 1)).run Tryz.prog w=.ok (.pointer (some ⟨B,2,none⟩)) w:=by kernel_rfl
theorem head_index2 (B:Nat)(w:World):(Instr.index 225 (.agg #[.pointer (some ⟨B,1,none⟩),.pointer (some ⟨B,2,none⟩),.pointer (some ⟨B,3,none⟩),.pointer (some ⟨B,4,none⟩),.pointer (some ⟨B,5,none⟩),.pointer (some ⟨B,6,none⟩),.pointer (some ⟨B,7,none⟩)]) (.int .i64 2)).run Tryz.prog w=.ok (.pointer (some ⟨B,3,none⟩)) w:=by kernel_rfl
theorem head_index3 (B:Nat)(w:World):(Instr.index 225 (.agg #[.pointer (some ⟨B,1,none⟩),.pointer (some ⟨B,2,none⟩),.pointer (some ⟨B,3,none⟩),.pointer (some ⟨B,4,none⟩),.pointer (some ⟨B,5,none⟩),.pointer (some ⟨B,6,none⟩),.pointer (some ⟨B,7,none⟩)]) (.int .i64 3)).run Tryz.prog w=.ok (.pointer (some ⟨B,4,none⟩)) w:=by kernel_rfl
theorem head_index4 (B:Nat)(w:World):(Instr.index 225 (.agg #[.pointer (some ⟨B,1,none⟩),.pointer (some ⟨B,2,none⟩),.pointer (some ⟨B,3,none⟩),.pointer (some ⟨B,4,none⟩),.pointer (some ⟨B,5,none⟩),.pointer (some ⟨B,6,none⟩),.pointer (some ⟨B,7,none⟩)]) (.int .i64 4)).run Tryz.prog w=.ok (.pointer (some ⟨B,5,none⟩)) w:=by kernel_rfl
theorem head_index5 (B:Nat)(w:World):(Instr.index 225 (.agg #[.pointer (some ⟨B,1,none⟩),.pointer (some ⟨B,2,none⟩),.pointer (some ⟨B,3,none⟩),.pointer (some ⟨B,4,none⟩),.pointer (some ⟨B,5,none⟩),.pointer (some ⟨B,6,none⟩),.pointer (some ⟨B,7,none⟩)]) (.int .i64 5)).run Tryz.prog w=.ok (.pointer (some ⟨B,6,none⟩)) w:=by kernel_rfl
theorem head_index6 (B:Nat)(w:World):(Instr.index 225 (.agg #[.pointer (some ⟨B,1,none⟩),.pointer (some ⟨B,2,none⟩),.pointer (some ⟨B,3,none⟩),.pointer (some ⟨B,4,none⟩),.pointer (some ⟨B,5,none⟩),.pointer (some ⟨B,6,none⟩),.pointer (some ⟨B,7,none⟩)]) (.int .i64 6)).run Tryz.prog w=.ok (.pointer (some ⟨B,7,none⟩)) w:=by kernel_rfl
theorem head_index (B n:Nat)(hn:n<7):∀ w,(Instr.index 225 (.agg #[.pointer (some ⟨B,1,none⟩),.pointer (some ⟨B,2,none⟩),.pointer (some ⟨B,3,none⟩),.pointer (some ⟨B,4,none⟩),.pointer (some ⟨B,5,none⟩),.pointer (some ⟨B,6,none⟩),.pointer (some ⟨B,7,none⟩)]) (.int .i64 (n:Int))).run Tryz.prog w=.ok (.pointer (some ⟨B,n+1,none⟩)) w:=by
 intro w;match n,hn with
 | 0,_=>exact head_index0 B w
 | 1,_=>exact head_index1 B w
 | 2,_=>exact head_index2 B w
 | 3,_=>exact head_index3 B w
 | 4,_=>exact head_index4 B w
 | 5,_=>exact head_index5 B w
 | 6,_=>exact head_index6 B w
theorem field_index0 (B o:Nat)(w:World):(Instr.index 254 (.agg #[.pointer (some ⟨B,o,none⟩),.pointer (some ⟨B,o+1,none⟩),.pointer (some ⟨B,o+2,none⟩),.pointer (some ⟨B,o+3,none⟩),.pointer (some ⟨B,o+4,none⟩)]) (.int .i64 0)).run Tryz.prog w=.ok (.pointer (some ⟨B,o,none⟩)) w:=by kernel_rfl
theorem field_index1 (B o:Nat)(w:World):(Instr.index 254 (.agg #[.pointer (some ⟨B,o,none⟩),.pointer (some ⟨B,o+1,none⟩),.pointer (some ⟨B,o+2,none⟩),.pointer (some ⟨B,o+3,none⟩),.pointer (some ⟨B,o+4,none⟩)]) (.int .i64 1)).run Tryz.prog w=.ok (.pointer (some ⟨B,o+1,none⟩)) w:=by kernel_rfl
theorem field_index2 (B o:Nat)(w:World):(Instr.index 254 (.agg #[.pointer (some ⟨B,o,none⟩),.pointer (some ⟨B,o+1,none⟩),.pointer (some ⟨B,o+2,none⟩),.pointer (some ⟨B,o+3,none⟩),.pointer (some ⟨B,o+4,none⟩)]) (.int .i64 2)).run Tryz.prog w=.ok (.pointer (some ⟨B,o+2,none⟩)) w:=by kernel_rfl
theorem field_index3 (B o:Nat)(w:World):(Instr.index 254 (.agg #[.pointer (some ⟨B,o,none⟩),.pointer (some ⟨B,o+1,none⟩),.pointer (some ⟨B,o+2,none⟩),.pointer (some ⟨B,o+3,none⟩),.pointer (some ⟨B,o+4,none⟩)]) (.int .i64 3)).run Tryz.prog w=.ok (.pointer (some ⟨B,o+3,none⟩)) w:=by kernel_rfl
theorem field_index4 (B o:Nat)(w:World):(Instr.index 254 (.agg #[.pointer (some ⟨B,o,none⟩),.pointer (some ⟨B,o+1,none⟩),.pointer (some ⟨B,o+2,none⟩),.pointer (some ⟨B,o+3,none⟩),.pointer (some ⟨B,o+4,none⟩)]) (.int .i64 4)).run Tryz.prog w=.ok (.pointer (some ⟨B,o+4,none⟩)) w:=by kernel_rfl
theorem field_index (B o n:Nat)(hn:n<5):∀ w,(Instr.index 254 (.agg #[.pointer (some ⟨B,o,none⟩),.pointer (some ⟨B,o+1,none⟩),.pointer (some ⟨B,o+2,none⟩),.pointer (some ⟨B,o+3,none⟩),.pointer (some ⟨B,o+4,none⟩)]) (.int .i64 (n:Int))).run Tryz.prog w=.ok (.pointer (some ⟨B,o+n,none⟩)) w:=by
 intro w;match n,hn with
 | 0,_=>exact field_index0 B o w
 | 1,_=>exact field_index1 B o w
 | 2,_=>exact field_index2 B o w
 | 3,_=>exact field_index3 B o w
 | 4,_=>exact field_index4 B o w
def partRow (T:List UInt8)(p n all:Nat):List Int:=numsFrom T p n++List.replicate (all-n) 0
theorem partRow_zero (T:List UInt8)(p all:Nat):partRow T p 0 all=List.replicate all 0:=by simp[partRow,numsFrom]
theorem partRow_full (T:List UInt8)(p all:Nat):partRow T p all all=numsFrom T p all:=by simp[partRow]
theorem partRow_set (T:List UInt8)(p n all:Nat)(h:n<all):(partRow T p n all).set n (numAt T (p+2*n))=partRow T p (n+1) all:=by
 unfold partRow
 rw[numsFrom_succ,List.set_append_right _ _ (by rw[numsFrom_length];omega),numsFrom_length,Nat.sub_self,
  show all-n=(all-(n+1))+1 by omega,List.replicate_succ,List.set_cons_zero,List.append_assoc]
 rfl
theorem RBI.cellM {T:List UInt8}{B R gm gl nm ne base:Nat}{W wr:World}{d:Nat}{F:Nat→Option Value}{ms es:List Int}(h:RBI T B R gm gl nm ne base W wr d F ms es)(k:Nat)(hk:k<nm) :
  wr.cell? ⟨gm,k,none⟩=some (.int .i64 (ms.getD k 0))∧wr.frozen? ⟨gm,k,none⟩=false:=by
 have hl:ms.length=nm:=by have:=h.om.1;rw[ints_length] at this;omega
 refine⟨?_,h.om.frozenAt k⟩
 rw[h.om.cellAt k (by omega)]
 simp[ints,List.getD,List.getElem?_eq_getElem (show k<ms.length by omega)]
theorem RBI.cellL {T:List UInt8}{B R gm gl nm ne base:Nat}{W wr:World}{d:Nat}{F:Nat→Option Value}{ms es:List Int}(h:RBI T B R gm gl nm ne base W wr d F ms es)(k:Nat)(hk:k<ne*5) :
  wr.cell? ⟨gl,k,none⟩=some (.int .i64 (es.getD k 0))∧wr.frozen? ⟨gl,k,none⟩=false:=by
 have hl:es.length=ne*5:=by have:=h.ol.1;rw[ints_length] at this;omega
 refine⟨?_,h.ol.frozenAt k⟩
 rw[h.ol.cellAt k (by omega)]
 simp[ints,List.getD,List.getElem?_eq_getElem (show k<es.length by omega)]
theorem readBody_any (T:List UInt8)(nm ne:Nat)(w:World)(h1:nm≤5)(h2:ne≤24)(hT:T.length=17+2*nm+10*ne) :
  Calls Tryz.prog 150 #[.string (bs T),.int .i64 (nm:Int),.int .i64 (ne:Int)] w fun e w'=>Below w.heap.size w w'∧∃ mem log,
   e=.returned (.agg #[.int .i64 (pKind T),.int .i64 (numAt T 1),.int .i64 (numAt T 3),.int .i64 (numAt T 5),.int .i64 (numAt T 7),.int .i64 (numAt T 9),.int .i64 (numAt T 11),.int .i64 (numAt T 13),mem,log]) ∧
   w'.ownsRow (w.heap.size+1) 3 1 mem nm (ints (numsFrom T 16 nm))∧w'.ownsRow (w.heap.size+1) 42 5 log ne (ints (entsNums (entsFrom T (17+2*nm) ne))):=by
 have hs:=bs_size T
 have i0:=index_bs T 0 0 rfl (by omega)
 have m1:=make_ints nm (by omega)
 have m2:=make_ents ne (by omega)
 obtain⟨W,hW,hb0,hsz,q,fz⟩:=boxed w #[.int .i64 0,.int .i64 0,.int .i64 0,.int .i64 0,.int .i64 0,.int .i64 0,.int .i64 0,.int .i64 0,.slice none 0 0,.slice none 0 0] 134
 have hbt:=byteAt_lt T 0
 have hk:IntKind.i64.wrap (byteAt T 0:Nat)=(byteAt T 0:Nat):=wrap_i64_nat _ (by omega)
 have Hsz:Hid (W.heap.size=w.heap.size+1):=hsz
 have hTg:17≤T.length:=by omega
 have HT:Hid (T.length=17+2*nm+10*ne):=hT
 clear hsz hT;go_enter Tryz.func150,Tryz.ntmps150
 go_upto_region 1 with fail
 clear hW;go_cut [7] (fun b wx=>∃ B gm gl,b=.pointer (some ⟨B,0,none⟩)∧wx.heap[B]?=some (.cells #[.int .i64 (byteAt T 0:Nat),.int .i64 0,.int .i64 0,.int .i64 0,.int .i64 0,.int .i64 0,.int .i64 0,.int .i64 0,.slice (some ⟨gm,0,none⟩) nm nm,.slice (some ⟨gl,0,none⟩) ne ne] 134) ∧
   wx.heap[gm]?=some (.cells (intsRow nm) 3)∧wx.heap[gl]?=some (.cells (entsRow ne) 42)∧W.heap.size≤B∧W.heap.size≤gm∧W.heap.size≤gl∧Below W.heap.size W wx)
 case first =>
  go_region_held3 (fun _=>True) (trivial) (fail)
  all_goals
   go_wp2_with fail;go_meet
  all_goals
   first
    | exact⟨W.heap.size+1+1,W.heap.size,W.heap.size+1,rfl,heap3_2 _ _ _ _,heap3_0 _ _ _ _,heap3_1 _ _ _ _,by omega,by omega,by omega,(below3 _ _ _ _).drew⟩
    | exact⟨W.heap.size+1,W.heap.size,W.heap.size+1+1,rfl,heap3_1 _ _ _ _,heap3_0 _ _ _ _,heap3_2 _ _ _ _,by omega,by omega,by omega,(below3 _ _ _ _).drew⟩
    | exact⟨W.heap.size+1+1,W.heap.size+1,W.heap.size,rfl,heap3_2 _ _ _ _,heap3_1 _ _ _ _,heap3_0 _ _ _ _,by omega,by omega,by omega,(below3 _ _ _ _).drew⟩
    | exact⟨W.heap.size+1,W.heap.size+1+1,W.heap.size,rfl,heap3_1 _ _ _ _,heap3_2 _ _ _ _,heap3_0 _ _ _ _,by omega,by omega,by omega,(below3 _ _ _ _).drew⟩
    | exact⟨W.heap.size,W.heap.size+1,W.heap.size+1+1,rfl,heap3_0 _ _ _ _,heap3_1 _ _ _ _,heap3_2 _ _ _ _,by omega,by omega,by omega,(below3 _ _ _ _).drew⟩
    | exact⟨W.heap.size,W.heap.size+1+1,W.heap.size+1,rfl,heap3_0 _ _ _ _,heap3_2 _ _ _ _,heap3_1 _ _ _ _,by omega,by omega,by omega,(below3 _ _ _ _).drew⟩
 case rest =>
  obtain⟨B,gm,gl,rfl,cB,rm,rl,o1,o2,o3,hb1⟩:=hcut;have hx:=bs_drop T 1
  have hl1:=(Array.getElem?_eq_some_iff.1 cB).1
  have n1:=types_ne cB rm (by decide)
  have n2:=types_ne cB rl (by decide)
  have n3:=types_ne rm rl (by decide)
  have hl2:=(Array.getElem?_eq_some_iff.1 rm).1
  have hl3:=(Array.getElem?_eq_some_iff.1 rl).1
  obtain⟨V,hV,hbV,hszV,qV,fV⟩:=boxed wc #[.string (bs T.tail)] 253
  have inv:RBI T B wc.heap.size gm gl nm ne W.heap.size W V 1 (headBox T gm gl nm ne 0) (partRow T 16 0 nm) (partRow T (17+2*nm) 0 (ne*5)) :=
   {cB:=fun j=>by rw[headBox_zero];exact (hbV.cell (p:=⟨B,j,none⟩) hl1).trans (coh cB j)
    fB:=fun j=>(hbV.frozen (p:=⟨B,j,none⟩) hl1).trans (foh cB j)
    cR:=by rw[List.drop_one];exact qV 0
    fR:=fV 0
    om:=by
     rw[partRow_zero, ← intsRow_list];refine⟨by simp[(size_rows nm).1],.inr ⟨gm,nm,intsRow nm,rfl,o2,(hbV.block gm hl2).trans rm,Nat.le_refl _,by unfold maxLen;omega,(size_rows nm).1, ?_⟩⟩
     exact List.take_of_length_le (by simp[(size_rows nm).1])
    ol:=by
     rw[partRow_zero, ← entsRow_list];refine⟨by simp[(size_rows ne).2],.inr ⟨gl,ne,entsRow ne,rfl,o3,(hbV.block gl hl3).trans rl,Nat.le_refl _,by unfold maxLen;omega,(size_rows ne).2, ?_⟩⟩
     exact List.take_of_length_le (by simp[(size_rows ne).2])
    be:=hb1.trans (hbV.mono hb1.size)
    oB:=o1
    oR:=hb1.size
    om':=o2
    ol':=o3
    lR:=by omega
    nB:=by omega
    n1:=n1
    n2:=n2
    n3:=n3
    n4:=by omega
    n5:=by omega }
  have hlV:B<V.heap.size:=by omega
  have hlV2:W.heap.size≤V.heap.size:=by have:=hb1.size;omega
  have Hq:Hid (∀ j,W.cell? ⟨w.heap.size,j,none⟩=#[.int .i64 0,.int .i64 0,.int .i64 0,.int .i64 0,.int .i64 0,.int .i64 0,.int .i64 0,.int .i64 0,.slice none 0 0,.slice none 0 0][j]?):=q
  have Hf:Hid (∀ j,W.frozen? ⟨w.heap.size,j,none⟩=false):=fz
  clear cB rm rl m1 m2 i0 q fz hk qV fV hszV;go_wp2_with fail;clear hV;refine (header_any B _).mono ?_
  rintro e w2 ⟨hb2,rfl⟩;have inv2:=inv.below hb2 hlV hlV2
  generalize wc.heap.size=R at *
  go_wp2_with fail;go_loopw [27] (fun i wr=>∃ n:Nat,n≤7∧i=.int .i64 n∧RBI T B R gm gl nm ne W.heap.size W wr (1+2*n) (headBox T gm gl nm ne n) (partRow T 16 0 nm) (partRow T (17+2*nm) 0 (ne*5))∧w2.heap.size≤wr.heap.size) (fun i _=>7-(intOf i).toNat)
  case atStart=>exact⟨0,Nat.zero_le _,rfl,inv2,Nat.le_refl _⟩
  case round =>
   obtain⟨n,hn,rfl,I,hsw⟩:=hrel;by_cases hlt:n<7
   ·have hix:=head_index B n hlt
    have cR:=I.cR
    have fR:=I.fR
    go_wp2_with fail;refine (number_any R (T.drop (1+2*n)) _ (by rw[List.length_drop];omega) cR fR).mono ?_
    rintro e w3 ⟨rfl,q,rfl⟩;rw[numAt_drop,List.drop_drop];have I2:=I.reads (1+2*n+2) q
    have cc:(((wr.setCell ⟨R,0,none⟩ (.string (bs (T.drop (1+2*n+2))))).drewN q).cell? ⟨B,n+1,none⟩).isSome=true:=by
     rw[I2.cB];exact headBox_some _ _ _ _ _ _ _ (by omega)
    obtain⟨v0,hv0⟩:=Option.isSome_iff_exists.1 cc
    have ff:=I2.fB (n+1)
    have hsz4:w2.heap.size≤((wr.setCell ⟨R,0,none⟩ (.string (bs (T.drop (1+2*n+2))))).drewN q).heap.size:=by simpa using hsw
    generalize ((wr.setCell ⟨R,0,none⟩ (.string (bs (T.drop (1+2*n+2))))).drewN q)=w4 at *
    go_wp2_with fail;refine⟨⟨n+1,by omega,by go_num, ?_,by simpa using hsz4⟩,by simp[intOf];omega⟩
    have I3:=I2.setB (n+1) (.int .i64 (numAt T (1+2*n))) (headBox_some _ _ _ _ _ _ _ (by omega))
    rw[headBox_succ];exact I3
   ·obtain rfl:n=7:=by omega
    have cR:=I.cR
    have fR:=I.fR
    go_wp2_with fail;refine (skip_any R _ (T.drop (1+2*7)) _ (by omega) (by rw[List.length_drop];omega) cR fR).mono ?_
    rintro e w3 ⟨rfl,q,rfl⟩;rw[List.drop_drop,show (1+2*7+(1:Int).toNat)=16 from rfl]
    have I2:=I.reads 16 q
    have hsz4:w2.heap.size≤((wr.setCell ⟨R,0,none⟩ (.string (bs (T.drop 16)))).drewN q).heap.size:=by simpa using hsw
    generalize ((wr.setCell ⟨R,0,none⟩ (.string (bs (T.drop 16)))).drewN q)=w4 at *
    have c8:w4.cell? ⟨B,8,none⟩=some (.slice (some ⟨gm,0,none⟩) nm nm):=by rw[I2.cB];rfl
    clear I inv inv2;go_wp2_with fail;go_loopw [38] (fun i wr=>∃ n:Nat,n≤nm∧i=.int .i64 n∧RBI T B R gm gl nm ne W.heap.size W wr (16+2*n) (headBox T gm gl nm ne 7) (partRow T 16 n nm) (partRow T (17+2*nm) 0 (ne*5))∧w2.heap.size≤wr.heap.size) (fun i _=>nm-(intOf i).toNat)
    case atStart=>exact⟨0,Nat.zero_le _,rfl,I2,hsz4⟩
    case round =>
     clear I2 c8;obtain⟨n,hn,rfl,I,hsw⟩:=hrel;have hTl:=HT.out
     by_cases hlt:n<nm
     ·have c8:wr.cell? ⟨B,8,none⟩=some (.slice (some ⟨gm,0,none⟩) nm nm):=by rw[I.cB];rfl
      have hlt1:(0:Int)≤(n:Int):=by omega
      have hlt2:(n:Int)<(nm:Int):=by omega
      have hdl:2≤(T.drop (16+2*n)).length:=by rw[List.length_drop];omega
      clear hTl;have I8:∀ q,((wr.setCell ⟨R,0,none⟩ (.string (bs (T.drop (16+2*n+2))))).drewN q).cell? ⟨B,8,none⟩=some (.slice (some ⟨gm,0,none⟩) nm nm):=fun q=>by
       rw[(I.reads (16+2*n+2) q).cB 8];rfl
      have Im:∀ q,((wr.setCell ⟨R,0,none⟩ (.string (bs (T.drop (16+2*n+2))))).drewN q).cell? ⟨gm,n,none⟩=some (.int .i64 ((partRow T 16 n nm).getD n 0)):=fun q=>((I.reads (16+2*n+2) q).cellM n hlt).1
      have Jm:∀ q,((wr.setCell ⟨R,0,none⟩ (.string (bs (T.drop (16+2*n+2))))).drewN q).frozen? ⟨gm,n,none⟩=false:=fun q=>((I.reads (16+2*n+2) q).cellM n hlt).2
      simp only [World.cell?_drewN,World.frozen?_drewN] at Im Jm
      have Im':=Im 0
      have Jm':=Jm 0
      have I9:∀ q x,(((wr.setCell ⟨R,0,none⟩ (.string (bs (T.drop (16+2*n+2))))).drewN q).setCell ⟨gm,n,none⟩ (.int .i64 x)).cell? ⟨B,8,none⟩=some (.slice (some ⟨gm,0,none⟩) nm nm):=fun q x=>by
       rw[((I.reads (16+2*n+2) q).setM n x).cB 8];rfl
      have I10:∀ q,RBI T B R gm gl nm ne W.heap.size W (((wr.setCell ⟨R,0,none⟩ (.string (bs (T.drop (16+2*n+2))))).drewN q).setCell ⟨gm,n,none⟩ (.int .i64 (numAt T (16+2*n)))) (16+2*(n+1)) (headBox T gm gl nm ne 7) (partRow T 16 (n+1) nm) (partRow T (17+2*nm) 0 (ne*5)):=fun q=>by
       have:=(I.reads (16+2*n+2) q).setM n (numAt T (16+2*n))
       rw[partRow_set T 16 n nm hlt] at this
       exact this
      have hnd:=numAt_drop T (16+2*n)
      go_upto_region 12 with fail
      go_region_held3 (fun w'=>w'.cell? ⟨B,8,none⟩=some (.slice (some ⟨gm,0,none⟩) nm nm)) (first|exact c8|exact I8 _|exact I9 _ _) ((go_at_call 178;refine (number_any R (T.drop (16+2*n)) _ hdl ?_ ?_).mono ?_;(exact I.cR);(exact I.fR);rintro e w5 ⟨rfl,q5,rfl⟩))
      all_goals
       go_wp2_with fail;exact⟨⟨n+1,by omega,by go_num,I10 _,by simpa using hsw⟩,by simp[intOf];omega⟩
     ·obtain rfl:n=nm:=by omega
      have cR:=I.cR
      have fR:=I.fR
      have hdl:(1:Int)≤(T.drop (16+2*n)).length:=by rw[List.length_drop];omega
      clear hTl;go_wp2_with fail;refine (skip_any R _ (T.drop (16+2*n)) _ (by omega) hdl cR fR).mono ?_
      rintro e w3 ⟨rfl,q,rfl⟩;rw[List.drop_drop,show (16+2*n+(1:Int).toNat)=17+2*n by simp;omega]
      have I2:=I.reads (17+2*n) q
      have hsz4:w2.heap.size≤((wr.setCell ⟨R,0,none⟩ (.string (bs (T.drop (17+2*n))))).drewN q).heap.size:=by simpa using hsw
      generalize ((wr.setCell ⟨R,0,none⟩ (.string (bs (T.drop (17+2*n))))).drewN q)=w4 at *
      have c9:w4.cell? ⟨B,9,none⟩=some (.slice (some ⟨gl,0,none⟩) ne ne):=by rw[I2.cB];rfl
      clear I;go_wp2_with fail;go_loopw [51] (fun i wr=>∃ m:Nat,m≤ne∧i=.int .i64 m∧RBI T B R gm gl n ne W.heap.size W wr (17+2*n+2*(m*5)) (headBox T gm gl n ne 7) (partRow T 16 n n) (partRow T (17+2*n) (m*5) (ne*5))∧w2.heap.size≤wr.heap.size) (fun i _=>ne-(intOf i).toNat)
      case atStart=>exact⟨0,Nat.zero_le _,rfl,I2,hsz4⟩
      case round =>
       clear I2 c9;obtain⟨m,hm,rfl,I,hsw⟩:=hrel;by_cases hlt:m<ne
       ·have c9:wr.cell? ⟨B,9,none⟩=some (.slice (some ⟨gl,0,none⟩) ne ne):=by rw[I.cB];rfl
        have hBw:B<wr.heap.size:=by have:=hb2.size;omega
        have hWw:W.heap.size≤wr.heap.size:=by have:=hb2.size;omega
        go_wp2_with fail;refine (fields_any gl _ _).mono ?_
        rintro e w5 ⟨hb5,rfl⟩;have I5:=I.below hb5 hBw hWw
        have hsw5:w2.heap.size≤w5.heap.size:=by have:=hb5.size;omega
        clear I c9;go_wp2_with fail;go_loopw [59] (fun i wr=>∃ j:Nat,j≤5∧i=.int .i64 j∧RBI T B R gm gl n ne W.heap.size W wr (17+2*n+2*(m*5+j)) (headBox T gm gl n ne 7) (partRow T 16 n n) (partRow T (17+2*n) (m*5+j) (ne*5))∧w2.heap.size≤wr.heap.size) (fun i _=>5-(intOf i).toNat)
        case atStart=>exact⟨0,Nat.zero_le _,rfl,I5,hsw5⟩
        case round =>
         clear I5 hsw5;obtain⟨j,hj,rfl,I,hsw6⟩:=hrel;by_cases hlj:j<5
         ·have hix:=field_index gl (m*5) j hlj
          have cR:=I.cR
          have fR:=I.fR
          have hdl2:2≤(T.drop (17+2*n+2*(m*5+j))).length:=by have:=HT.out;rw[List.length_drop];omega
          have hnd:=numAt_drop T (17+2*n+2*(m*5+j))
          go_wp2_with fail;refine (number_any R _ _ hdl2 cR fR).mono ?_
          rintro e w6 ⟨rfl,q6,rfl⟩;rw[hnd,List.drop_drop];have I6:=I.reads (17+2*n+2*(m*5+j)+2) q6
          have hsw7:w2.heap.size≤((wr.setCell ⟨R,0,none⟩ (.string (bs (T.drop (17+2*n+2*(m*5+j)+2))))).drewN q6).heap.size:=by simpa using hsw6
          generalize ((wr.setCell ⟨R,0,none⟩ (.string (bs (T.drop (17+2*n+2*(m*5+j)+2))))).drewN q6)=w7 at *
          obtain⟨cl,fl⟩:=I6.cellL (m*5+j) (by omega)
          have I7:=I6.setL (m*5+j) (numAt T (17+2*n+2*(m*5+j)))
          rw[partRow_set T (17+2*n) (m*5+j) (ne*5) (by omega)] at I7
          clear hix hnd;go_wp2_with fail;exact⟨⟨j+1,by omega,by go_num,I7,by simpa using hsw7⟩,by simp[intOf];omega⟩
         ·obtain rfl:j=5:=by omega
          go_wp2_with fail;refine⟨⟨m+1,by omega,by go_num, ?_,hsw6⟩,by simp[intOf];omega⟩
          rw[show (m+1)*5=m*5+5 by omega]
          exact I
       ·obtain rfl:m=ne:=by omega
        have c:∀ j,wr.cell? ⟨B,j,none⟩=headBox T gm gl n m 7 j:=I.cB
        have c0:wr.cell? ⟨B,0,none⟩=some (.int .i64 (byteAt T 0:Nat)):=c 0
        have c1:wr.cell? ⟨B,1,none⟩=some (.int .i64 (numAt T 1)):=c 1
        have c2:wr.cell? ⟨B,2,none⟩=some (.int .i64 (numAt T 3)):=c 2
        have c3:wr.cell? ⟨B,3,none⟩=some (.int .i64 (numAt T 5)):=c 3
        have c4:wr.cell? ⟨B,4,none⟩=some (.int .i64 (numAt T 7)):=c 4
        have c5:wr.cell? ⟨B,5,none⟩=some (.int .i64 (numAt T 9)):=c 5
        have c6:wr.cell? ⟨B,6,none⟩=some (.int .i64 (numAt T 11)):=c 6
        have c7:wr.cell? ⟨B,7,none⟩=some (.int .i64 (numAt T 13)):=c 7
        have c8:wr.cell? ⟨B,8,none⟩=some (.slice (some ⟨gm,0,none⟩) n n):=c 8
        have c9:wr.cell? ⟨B,9,none⟩=some (.slice (some ⟨gl,0,none⟩) m m):=c 9
        have hw:w.heap.size<W.heap.size:=by have:=Hsz.out;omega
        have r1:∀ j,wr.cell? ⟨w.heap.size,j,none⟩=#[.int .i64 0,.int .i64 0,.int .i64 0,.int .i64 0,.int .i64 0,.int .i64 0,.int .i64 0,.int .i64 0,.slice none 0 0,.slice none 0 0][j]?:=fun j=>(I.be.cell (p:=⟨w.heap.size,j,none⟩) hw).trans (Hq.out j)
        have r2:∀ j,wr.frozen? ⟨w.heap.size,j,none⟩=false:=fun j=>(I.be.frozen (p:=⟨w.heap.size,j,none⟩) hw).trans (Hf.out j)
        have hbe:Below w.heap.size w wr:=hb0.trans (I.be.mono hb0.size)
        have om:=I.om
        have ol:=I.ol
        rw[partRow_full] at om
        rw[partRow_full, ← entsFrom_nums] at ol
        have hBw:B≠w.heap.size:=by omega
        clear c I;go_wp2_with fail;refine bodyPost_ret (v:=.agg #[.int .i64 (pKind T),.int .i64 (numAt T 1),.int .i64 (numAt T 3),.int .i64 (numAt T 5),.int .i64 (numAt T 7),.int .i64 (numAt T 9),.int .i64 (numAt T 11),.int .i64 (numAt T 13),.slice (some ⟨gm,0,none⟩) n n,.slice (some ⟨gl,0,none⟩) m m]) (by simp[results,Tryz.results150,go_sem,r1,pKind]) rfl ⟨?_,_,_,rfl, ?_, ?_⟩
        ·iterate 10 refine Below.setCell ?_ (by exact Nat.le_refl _) _
         exact hbe
        ·rw[← Hsz.out]
         iterate 10 refine ownsRow_setCell_below ?_ (by exact hw) _
         exact om
        ·rw[← Hsz.out]
         iterate 10 refine ownsRow_setCell_below ?_ (by exact hw) _
         exact ol
end Go.Proofs.YtgieeeeeiggoeaaGreat
