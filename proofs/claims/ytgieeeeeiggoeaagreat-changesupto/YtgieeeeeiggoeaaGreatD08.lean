import Derived.Test.YtgieeeeeiggoeaaGreatD07
import Derived.Test.YtgieeeeeiggoeaaGreatD06
import Derived.OneCell
import Derived.Deep.DeepCutAuto
import Derived.Laws.CopyRow
import Derived.Lib.SmallJoins
set_option maxRecDepth 100000
set_option maxHeartbeats 1000000
namespace Go.Proofs.YtgieeeeeiggoeaaGreat
open Go.RowKit
open Tryz
def lM (n:Nat):Array Value:=madeCells #[()] (n*1)
def sx (n:Nat):Array Value:=madeCells #[(),(),(),(),()] (n*5)
theorem Qo (n:Nat)(h:n<=1000000):∀ w,(Instr.makeSlice 29 (.int .i64 (n:Int)) (.int .i64 (n:Int))).run prog w=.ok (.slice (some w.heap.size) n n) (w.alloc (.cells (lM n) 3)):=by
 intro w;obtain⟨i0,hi,hz0,hz1,hz2⟩:=info_parts rD;have:=run_make (P:=prog) w 29 3 i0 _ underlying29 hi hz0 .i64 .i64 n n (by omega) (gv _) (by rw[hz2];omega) (by omega)
 rw[Int.toNat_natCast,hz1] at this;exact this
theorem Qn (n:Nat)(h:n<=1000000):∀ w,(Instr.makeSlice 44 (.int .i64 (n:Int)) (.int .i64 (n:Int))).run prog w=.ok (.slice (some w.heap.size) n n) (w.alloc (.cells (sx n) 42)):=by
 intro w;obtain⟨i0,hi,hz0,hz1,hz2⟩:=info_parts uL;have:=run_make (P:=prog) w 44 42 i0 _ underlying44 hi hz0 .i64 .i64 n n (by omega) (gv _) (by rw[hz2];omega) (by omega)
 rw[Int.toNat_natCast,hz1] at this;exact this
theorem hnw (W:World)(a:Obj):(W.alloc a).heap[W.heap.size]?=some a:=by
 show (W.heap.push a)[W.heap.size]?=some a;simp
section
variable (W:World) (a b c:Obj)
theorem sH : (((W.alloc a).alloc b).alloc c).heap[W.heap.size+1+1]?=some c:=by
 have:=hnw ((W.alloc a).alloc b) c
 rwa [World.size_alloc,World.size_alloc] at this
theorem sG : (((W.alloc a).alloc b).alloc c).heap[W.heap.size+1]?=some b:=by
 rw[Below.heap_alloc _ _ _ (by rw[World.size_alloc,World.size_alloc];omega)]
 have:=hnw (W.alloc a) b
 rwa [World.size_alloc] at this
theorem sF : (((W.alloc a).alloc b).alloc c).heap[W.heap.size]?=some a:=by
 rw[Below.heap_alloc _ _ _ (by rw[World.size_alloc,World.size_alloc];omega),Below.heap_alloc _ _ _ (by rw[World.size_alloc];omega)]
 exact hnw W a
theorem sq : Below W.heap.size W (((W.alloc a).alloc b).alloc c):=(((Below.refl _ _).alloc (aG _) _).alloc (by rw[World.size_alloc];omega) _).alloc (by rw[World.size_alloc,World.size_alloc];omega) _
end
theorem aj {w:World}{B:Nat}{cs:Array Value}{T:TypeId}(h:w.heap[B]?=some (.cells cs T))(j:Nat):w.cell? ⟨B,j,none⟩=cs[j]?:=by
 simp[World.cell?,h]
abbrev ai(w W:World):=Below w.heap.size w W
theorem oK:type_of% @World.cell?_setCell_other:=@World.cell?_setCell_other
theorem j6:type_of% @Below.heap_alloc:=@Below.heap_alloc
theorem ei:type_of% @callsIn_wide:=@callsIn_wide
theorem eE:type_of% @Below.setCell:=@Below.setCell
theorem iR:type_of% @World.cell?_of_block:=@World.cell?_of_block
theorem fi:type_of% @World.drewN_drewN:=@World.drewN_drewN
theorem dB:type_of% @bodyPost_ret:=@bodyPost_ret
theorem dV:type_of% @IntKind.wrap_i64:=@IntKind.wrap_i64
theorem eJ:type_of% @World.size_alloc:=@World.size_alloc
theorem ev:type_of% @World.ownsRow.cellAt:=@World.ownsRow.cellAt
theorem cJ:type_of% @Below.heap_setCell:=@Below.heap_setCell
theorem bV:type_of% @heap_setCell_same:=@heap_setCell_same
theorem bE:type_of% @World.ownsRow_nil:=@World.ownsRow_nil
theorem aV:type_of% @below_drewN:=@below_drewN
theorem bC:type_of% @ownsRow_setCell_below:=@ownsRow_setCell_below
theorem bu:type_of% @ownsRow_setCell_other:=@ownsRow_setCell_other
theorem aF:type_of% @cell_later:=@cell_later
theorem ax:type_of% @Below.refl:=@Below.refl
theorem au {w:World}{B:Nat}{cs:Array Value}{T:TypeId}{x:Value}(h:w.heap[B]?=some (.cells cs T))(j:Nat)(e:(cs.toList.drop j).head?=some x:=by rfl):w.cell? ⟨B,j,none⟩=some x:=(aj h j).trans (by rw[<- e,List.head?_drop];simp)
theorem aW {w:World}{B:Nat}{cs:Array Value}{T:TypeId}(h:w.heap[B]?=some (.cells cs T))(j:Nat):w.frozen? ⟨B,j,none⟩=false:=by
 simp[World.frozen?,h]
theorem Dj (T:List UInt8)(d k:Nat):bn (T.drop d) k=bn T (d+k):=by
 unfold bn;rw[List.getD,List.getElem?_drop,List.getD]
theorem A4 (T:List UInt8)(d:Nat):bo (T.drop d) 0=bo T d:=by
 unfold bo;rw[Dj,Dj,Nat.add_zero,fh]
structure gz (T:List UInt8)(B R gm gl nm ne base:Nat)(W wr:World)(d:Nat)(F:Nat->Option Value)(ms es:List Int):Prop where
 cB:∀ j,wr.cell? ⟨B,j,none⟩=F j
 fB:∀ j,wr.frozen? ⟨B,j,none⟩=false
 cR:wr.cell? (R,0)=some (.string (bs (T.drop d)))
 fR:wr.frozen? (R,0)=false
 om:wr.ownsRow base 3 1 (.slice (some gm) nm nm) nm (aJ ms)
 ol:wr.ownsRow base 42 5 (.slice (some gl) ne ne) ne (aJ es)
 be:Below base W wr
 oB:base<=B
 oR:base<=R
 na:base<=gm
 mY:base<=gl
 lR:R<wr.heap.size
 nB:B≠R
 n1:B≠gm
 n2:B≠gl
 n3:gm≠gl
 n4:R≠gm
 n5:R≠gl
theorem gz.reads {T:List UInt8}{B R gm gl nm ne base:Nat}{W wr:World}{d:Nat}{F:Nat->Option Value}{ms es:List Int}(h:gz T B R gm gl nm ne base W wr d F ms es)(d' q:Nat) :
  gz T B R gm gl nm ne base W ((wr.setCell R (.string (bs (T.drop d')))).drewN q) d' F ms es where
 cB j:=(oK wr _ _ _ (by intro e;cases e;exact h.nB rfl)).trans (h.cB j)
 fB j:=(World.frozen?_setCell wr _ _ _).trans (h.fB j)
 cR:=World.cell?_setCell_same' wr _ _ (by rw[h.cR];rfl)
 fR:=(World.frozen?_setCell wr _ _ _).trans h.fR
 om:=bu h.om (by intro e;cases e;exact h.n4 rfl) _
 ol:=bu h.ol (by intro e;cases e;exact h.n5 rfl) _
 be:=aV (h.be.setCell h.oR _) q
 oB:=h.oB
 oR:=h.oR
 na:=h.na
 mY:=h.mY
 lR:=by have:=h.lR;simpa using this
 nB:=h.nB
 n1:=h.n1
 n2:=h.n2
 n3:=h.n3
 n4:=h.n4
 n5:=h.n5
theorem gz.TL {T:List UInt8}{B R gm gl nm ne base:Nat}{W wr:World}{d:Nat}{F:Nat->Option Value}{ms es:List Int}(h:gz T B R gm gl nm ne base W wr d F ms es)(k:Nat)(v:Value)(hk:(F k).isSome=true) :
  gz T B R gm gl nm ne base W (wr.setCell ⟨B,k,none⟩ v) d (fun j=>if j=k then some v else F j) ms es where
 cB j:=by
  by_cases e:j=k
  ·subst e
   rw[if_pos rfl];exact World.cell?_setCell_same' wr _ _ (by rw[h.cB j];exact hk)
  ·rw[if_neg e]
   exact (oK wr _ _ _ (by intro e';cases e';exact e rfl)).trans (h.cB j)
 fB j:=(World.frozen?_setCell wr _ _ _).trans (h.fB j)
 cR:=(oK wr _ _ _ (by intro e;cases e;exact h.nB rfl)).trans h.cR
 fR:=(World.frozen?_setCell wr _ _ _).trans h.fR
 om:=bu h.om (by intro e;cases e;exact h.n1 rfl) _
 ol:=bu h.ol (by intro e;cases e;exact h.n2 rfl) _
 be:=h.be.setCell h.oB _
 oB:=h.oB
 oR:=h.oR
 na:=h.na
 mY:=h.mY
 lR:=by have:=h.lR;simpa using this
 nB:=h.nB
 n1:=h.n1
 n2:=h.n2
 n3:=h.n3
 n4:=h.n4
 n5:=h.n5
theorem nV (l:List Int)(k:Nat)(x:Int):(aJ l).set k (.int .i64 x)=aJ (l.set k x):=by
 simp[aJ,List.map_set]
theorem gz.G9 {T:List UInt8}{B R gm gl nm ne base:Nat}{W wr:World}{d:Nat}{F:Nat->Option Value}{ms es:List Int}(h:gz T B R gm gl nm ne base W wr d F ms es)(k:Nat)(x:Int) :
  gz T B R gm gl nm ne base W (wr.setCell ⟨gm,k,none⟩ (.int .i64 x)) d F (ms.set k x) es where
 cB j:=(oK wr _ _ _ (by intro e;cases e;exact h.n1 rfl)).trans (h.cB j)
 fB j:=(World.frozen?_setCell wr _ _ _).trans (h.fB j)
 cR:=(oK wr _ _ _ (by intro e;cases e;exact h.n4 rfl)).trans h.cR
 fR:=(World.frozen?_setCell wr _ _ _).trans h.fR
 om:=by rw[<- nV];exact (h.om.stored k _).1
 ol:=bu h.ol (by intro e;cases e;exact h.n3 rfl) _
 be:=h.be.setCell h.na _
 oB:=h.oB
 oR:=h.oR
 na:=h.na
 mY:=h.mY
 lR:=by have:=h.lR;simpa using this
 nB:=h.nB
 n1:=h.n1
 n2:=h.n2
 n3:=h.n3
 n4:=h.n4
 n5:=h.n5
theorem gz.TM {T:List UInt8}{B R gm gl nm ne base:Nat}{W wr:World}{d:Nat}{F:Nat->Option Value}{ms es:List Int}(h:gz T B R gm gl nm ne base W wr d F ms es)(k:Nat)(x:Int) :
  gz T B R gm gl nm ne base W (wr.setCell ⟨gl,k,none⟩ (.int .i64 x)) d F ms (es.set k x) where
 cB j:=(oK wr _ _ _ (by intro e;cases e;exact h.n2 rfl)).trans (h.cB j)
 fB j:=(World.frozen?_setCell wr _ _ _).trans (h.fB j)
 cR:=(oK wr _ _ _ (by intro e;cases e;exact h.n5 rfl)).trans h.cR
 fR:=(World.frozen?_setCell wr _ _ _).trans h.fR
 om:=bu h.om (by intro e;cases e;exact h.n3 rfl) _
 ol:=by rw[<- nV];exact (h.ol.stored k _).1
 be:=h.be.setCell h.mY _
 oB:=h.oB
 oR:=h.oR
 na:=h.na
 mY:=h.mY
 lR:=by have:=h.lR;simpa using this
 nB:=h.nB
 n1:=h.n1
 n2:=h.n2
 n3:=h.n3
 n4:=h.n4
 n5:=h.n5
theorem gz.below {T:List UInt8}{B R gm gl nm ne base:Nat}{W wr w2:World}{d:Nat}{F:Nat->Option Value}{ms es:List Int}(h:gz T B R gm gl nm ne base W wr d F ms es)(hb:ai wr w2)
  (lB:B<wr.heap.size) (PU:base<=wr.heap.size):gz T B R gm gl nm ne base W w2 d F ms es where
 cB j:=(hb.cell (p:=⟨B,j,none⟩) lB).trans (h.cB j)
 fB j:=(hb.frozen (p:=⟨B,j,none⟩) lB).trans (h.fB j)
 cR:=(hb.cell (p:=⟨R,0,none⟩) h.lR).trans h.cR
 fR:=(hb.frozen (p:=⟨R,0,none⟩) h.lR).trans h.fR
 om:=aS h.om fun k _ hk=>hb.block k hk
 ol:=aS h.ol fun k _ hk=>hb.block k hk
 be:=h.be.trans (hb.mono PU)
 oB:=h.oB
 oR:=h.oR
 na:=h.na
 mY:=h.mY
 lR:=j5 h.lR hb.size
 nB:=h.nB
 n1:=h.n1
 n2:=h.n2
 n3:=h.n3
 n4:=h.n4
 n5:=h.n5
theorem Fp (n:Nat):(lM n).toList=aJ (List.replicate n 0):=by
 unfold lM;rw[toList_madeCells_one,Nat.mul_one];simp[aJ]
theorem L8 (n:Nat):(sx n).toList=aJ (List.replicate (n*5) 0):=by
 apply List.ext_getElem?;intro j;unfold sx aJ;by_cases hj:j<n*5
 ·have h5:j % 5<5:=Nat.mod_lt _ (by omega)
  have:∀ k,k<5->(#[Value.int .i64 0,.int .i64 0,.int .i64 0,.int .i64 0,.int .i64 0][k]!:Value)=.int .i64 0:=by
   intro k hk;match k,hk with
   | 0,_=>rfl
   | 1,_=>rfl
   | 2,_=>rfl
   | 3,_=>rfl
   | 4,_=>rfl
  have h:=this (j % 5) h5;simp[madeCells,hj]
  simpa using h
 ·simp[madeCells,hj]
theorem rW (n:Nat):(lM n).size=n*1/\(sx n).size=n*5:=⟨size_madeCells _ _,size_madeCells _ _⟩
theorem xQ {w:World}{a b:Nat}{x y:Array Value}{s t:TypeId}(ha:w.heap[a]?=some (.cells x s))(hb:w.heap[b]?=some (.cells y t))(hst:s≠t):a≠b:=by
 intro e;subst e;rw[ha] at hb;injection hb with hb
 injection hb with _ h
 exact hst h
end Go.Proofs.YtgieeeeeiggoeaaGreat
namespace Go.Proofs.YtgieeeeeiggoeaaGreat
open Go.RowKit
open Tryz
section
variable {P:Program}
theorem Tt (w:World)(dT sT ty elem:TypeId)(size g dLen dCap:Nat)(a:Option Addr)(sLen sCap:Nat)(cur:Array Value)(t:TypeId)(cs:List Value)
  (hu:P.underlying dT=some (.slice elem)) (hs:(P.info? elem).map (·.size)=some size)
  (hg:w.heap[g]?=some (.cells cur t (0,0))) (hle:sLen<=dLen) (hn:cs.length=sLen*size)
  (hsrc:∀ j u,cs[j]?=some u->∃ x,a=some x/\w.cell? (x.add j)=some u) (ha:a=none->sLen=0) (hfit:cs.length<=cur.size) (h1:∀ u∈cs,u.oneCell'=true) :
  (Builtin.copy_ #[dT,sT] ty #[.slice (some g) dLen dCap,.slice a sLen sCap]).run P w =
   .ok (goInt sLen) (w.setRow g (cs++cur.toList.drop cs.length).toArray):=by
 have hst:=run_storeCells_at P g 0 t cs 0 cur w hg (by simpa using hfit) h1
 simp only [Nat.add_zero,fh,List.take_zero,fH] at hst;have hmin:Nat.min sLen dLen=sLen:=Nat.min_eq_left hle;cases hq:P.info? elem with
 | none=>simp[hq] at hs
 | some i =>
  have hi:i.size=size:=by simpa [hq] using hs
  cases a with
  | none =>
   have h0:=ha rfl;subst h0;have hcs:cs=[]:=List.eq_nil_of_length_eq_zero (by simpa using hn)
   subst hcs;simp only [fG,List.drop_zero,fH,Array.toArray_toList] at hst |-;rw[setRow_self w g cur t (0,0) hg];simp[Builtin.copy_,run_underlying hu,Builtin.lenOf,Builtin.firstCells,sizeOf,typeInfo,hq,storeCells]
  | some x =>
   have hl:=run_loadCells_list (P:=P) w x cs (fun j u hj=>by
    obtain⟨x',hx,hc⟩:=hsrc j u hj;cases hx;exact hc)
   rw[hn] at hl;simp[Builtin.copy_,run_underlying hu,Builtin.lenOf,Builtin.firstCells,sizeOf,typeInfo,hq,hi,hmin,hl,hst]
end
theorem Qp (n:Nat)(h:n<=17592186044416):∀ w,(Instr.makeSlice 29 (.int .i64 (n:Int)) (.int .i64 (n:Int))).run prog w=.ok (.slice (some w.heap.size) n n) (w.alloc (.cells (lM n) 3)):=by
 intro w;obtain⟨i0,hi,hz0,hz1,hz2⟩:=info_parts rD;have:=run_make (P:=prog) w 29 3 i0 _ underlying29 hi hz0 .i64 .i64 n n (by omega) (gv _) (by rw[hz2];omega) (by omega)
 rw[Int.toNat_natCast,hz1] at this;exact this
theorem TP (w:World)(g:Nat)(cs:Array Value):Below g w (w.setRow g cs) :=
 ⟨rfl,rfl,rfl,by simp,fun k hk=>setRow_other w g k _ (by omega)⟩
theorem LI (w:World)(v:Value)(l:List Int)(hv:bJ w v l) :
  ∃ W2,(∀ ty,(Builtin.copy_ #[29,29] ty #[.slice (some w.heap.size) (l.length+1) (l.length+1),v]).run prog (w.alloc (.cells (lM (l.length+1)) 3))=.ok (goInt l.length) W2) /\
   W2.heap[w.heap.size]?=some (.cells (aJ (l++[0])).toArray 3)/\ai w W2/\W2.heap.size=w.heap.size+1:=by
 obtain⟨a,c,rfl,hv⟩:=hv;have Ol:(lM (l.length+1)).toList=aJ (List.replicate (l.length+1) 0):=Fp _;have hr:(aJ l++(lM (l.length+1)).toList.drop (aJ l).length)=aJ (l++[0]):=by
  rw[Ol,fP,pk];congr 1;simp[aJ]
 refine⟨(w.alloc (.cells (lM (l.length+1)) 3)).setRow w.heap.size (aJ (l++[0])).toArray,fun ty => ?_, ?_, ?_, ?_⟩
 ·have:=Tt (P:=prog) (w.alloc (.cells (lM (l.length+1)) 3)) 29 29 ty 3 1 w.heap.size (l.length+1) (l.length+1) a l.length c (lM (l.length+1)) 3 (aJ l)
   underlying29 (by kernel_rfl) (hnw _ _) (by omega) (by rw[fP];omega) ?_ ?_ ?_ (kE _)
  ·rw[hr] at this
   exact this
  ·intro j u hj
   have hjl:j<l.length:=by
    have:=(dI.1 hj).1
    rwa [fP] at this
   obtain⟨b,off,rfl,hc⟩:=hv j hjl;refine⟨_,rfl, ?_⟩
   have e:(⟨b,off,none⟩:Addr).add j=⟨b,off+j,none⟩:=by unfold Addr.add;simp
   rw[e,aF ((ax _ _).alloc (aG _) _) hc];simp[aJ,List.getElem?_eq_getElem hjl] at hj
   simp[List.getD,List.getElem?_eq_getElem hjl,hj]
  ·intro ha
   rcases Nat.eq_zero_or_pos l.length with h0|h0
   ·exact h0
   ·obtain⟨b,off,hb,_⟩:=hv 0 h0
    rw[ha] at hb;cases hb
  ·rw[fP,(rW _).1];omega
 ·exact setRow_heap _ _ (lM (l.length+1)) _ _ _ (hnw _ _)
 ·exact ((ax _ _).alloc (aG _) _).trans (TP _ _ _)
 ·show ((w.alloc _).setRow _ _).heap.size=_
  simp
theorem L9 (A:List aH)(x y:aH)(C:List aH)(n:Nat)(hn:n=A.length) :
  (((((aJ (bk (A++x :: C))).set (n*5) (.int .i64 y.client)).set (n*5+1) (.int .i64 y.seq)).set (n*5+2) (.int .i64 y.kind)).set (n*5+3) (.int .i64 y.key)).set (n*5+4) (.int .i64 y.value)=aJ (bk (A++y :: C)):=by
 subst hn;rw[nV,nV,nV,nV,nV];congr 1;rw[ou,ou];have hl:(bk A).length=A.length*5:=by rw[kt];omega
 rw[<- hl];have e1:bk (x :: C)=x.client :: x.seq :: x.kind :: x.key :: x.value :: bk C:=rfl;have e2:bk (y :: C)=y.client :: y.seq :: y.kind :: y.key :: y.value :: bk C:=rfl;rw[e1,e2];rw[lP _ _ (aG _),lP _ _ (by omega),lP _ _ (by omega),lP _ _ (by omega),lP _ _ (by omega)]
 rw[Nat.sub_self,Nat.add_sub_cancel_left,Nat.add_sub_cancel_left,Nat.add_sub_cancel_left,Nat.add_sub_cancel_left];rfl
theorem eM.cellAt {w:World}{a:Option Addr}{n c:Nat}{es:List aH}(h:eM w (.slice a n c) es)(j:Nat)(u:Value)(hj:(aJ (bk es))[j]?=some u):∃ x,a=some x/\w.cell? (x.add j)=some u:=by
 obtain⟨a',c',hv,hc⟩:=h;cases hv;have hjl:j<es.length*5:=by
  have:=(dI.1 hj).1;rw[fP,kt] at this;omega
 obtain⟨b,off,rfl,d0,d1,d2,d3,d4⟩:=hc (j / 5) (by omega)
 refine⟨_,rfl, ?_⟩
 have e:(⟨b,off,none⟩:Addr).add j=⟨b,off+j,none⟩:=by unfold Addr.add;simp
 rw[e];have hu:u=.int .i64 ((bk es).getD j 0):=by
  have EN:j<(bk es).length:=by rw[kt];omega
  simp[aJ,List.getElem?_eq_getElem EN] at hj
  simp[List.getD,List.getElem?_eq_getElem EN, <- hj]
 have hg:=DO es (j / 5) (j % 5) (by omega) (by omega)
 rw[show j / 5*5+j % 5=j by omega] at hg
 rw[hu,hg];have h5:j % 5=0\/j % 5=1\/j % 5=2\/j % 5=3\/j % 5=4:=by omega
 rcases h5 with h5|h5|h5|h5|h5<;>rw[h5]
 ·rw[show off+j=off+j / 5*5 by omega,d0];rfl
 ·rw[show off+j=off+j / 5*5+1 by omega,d1];rfl
 ·rw[show off+j=off+j / 5*5+2 by omega,d2];rfl
 ·rw[show off+j=off+j / 5*5+3 by omega,d3];rfl
 ·rw[show off+j=off+j / 5*5+4 by omega,d4];rfl
end Go.Proofs.YtgieeeeeiggoeaaGreat
namespace Go.Proofs.YtgieeeeeiggoeaaGreat
open Go.RowKit
open Tryz
theorem Qf (v:Value)(l:List Int)(w:World)(hv:bJ w v l)(hl:l.length<=17592186043904) :
  Calls prog 93 #[v] w fun e w'=>e=.returned (.slice (some w.heap.size) l.length (l.length+1))/\ai w w'/\w'.heap[w.heap.size]?=some (.cells (aJ (l++[-77])).toArray 3):=by
 obtain⟨W2,hcp,hh,hb,hs⟩:=LI w v l hv;have hmk:=Qp (l.length+1) (by omega)
 rw[show ((l.length+1:Nat):Int)=(l.length:Int)+1 by omega] at hmk
 obtain⟨a,c,rfl, -⟩:=hv;have c1:W2.cell? ⟨w.heap.size,l.length,none⟩=some (.int .i64 0):=by
  rw[Joins.cell_of_block hh];simp[aJ]
 have f1:W2.frozen? ⟨w.heap.size,l.length,none⟩=false:=Joins.unfrozen_of_block hh _;have h2:=Joins.block_setCell (i:=l.length) hh (.int .i64 (-77));have e2:(aJ (l++[0])).toArray.setIfInBounds l.length (.int .i64 (-77))=(aJ (l++[-77])).toArray:=by
  apply Array.toList_inj.1;simp[aJ]
 rw[e2] at h2;have H2:=ae h2;have hb2:=ae (hb.setCell (p:=⟨w.heap.size,l.length,none⟩) (aG _) (.int .i64 (-77)));clear h2 e2 hh hb;go_enter func93,ntmps93;go_wp2_with fail;go_ret;exact⟨rfl,hb2.out,H2.out⟩
theorem PG (g:Nat)(v:Value)(l:List Int)(w:World)(h1:bJ w (.slice (some g) l.length (l.length+1)) l)(h2:bJ w v l)(hc:w.cell? ⟨g,l.length,none⟩=some (.int .i64 (-77)))(hl:l.length<=17592186043904) :
  Calls prog 96 #[.slice (some g) l.length (l.length+1),v] w fun e w'=>e=.returned (.bool true)/\∃ q,w'=w.drewN q:=by
 have hsame:=zh _ _ l w h1 h2 (by omega)
 obtain⟨a,c,rfl, -⟩:=h2;go_enter func96,ntmps96;go_wp2_with fail;refine hsame.mono ?_
 rintro e w1 ⟨rfl,q1,rfl⟩;go_wp2_with fail;go_ret;exact⟨rfl,q1,rfl⟩
end Go.Proofs.YtgieeeeeiggoeaaGreat
