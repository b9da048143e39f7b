import Derived.Test.YtgieeeeeiggoeaaGreatD12
set_option maxRecDepth 100000
set_option maxHeartbeats 4000000
namespace Go.Proofs.YtgieeeeeiggoeaaGreat
open Go.RowKit Go.Shelf
open Tryz
variable {l:List UInt8}{xs:List Value}{Q base n size:Nat}{e:TypeId}{v v':Value}{W w w1 wr:World}
attribute [local go_sem] Oper.semAt_some
theorem BZ {F:Fence}{nn:Nat}{w:World}{ops:Array Oper}{rest:List Oper}{o:Oper}{a:Act}{Q:Exit->Act->World->Prop}(hgd:o.guard=none)(s x:Operand)
  (ho:o.op=.call { callee:=.builtin .append,args:=#[s,x],argTypes:=#[169,169] })
  (base:Nat) (v:Value) (l:List UInt8) (hs:a.eval s=v) (hown:w.ownsRow base 5 1 v l.length (eZ l))
  (g m c:Nat) (news:List UInt8) (hx:a.eval x=.slice (some g) m c) (hm:news.length=m) (hnews:∀ j,j<m->w.cell? ⟨g,j,none⟩=some (.int .u8 ((news.getD j 0).toNat:Int)))
  (h63:l.length+m<=1000000) (hbase:base<=w.heap.size)
  (h:∀ v' w',w'.ownsRow base 5 1 v' (l++news).length (eZ (l++news))->w.grownBy w' v.ownBlock->wpListIn F nn prog ops Q rest (a.put o.dst v') w'):wpListIn F nn prog ops Q (o :: rest) a w:=by
 obtain⟨i0,hi,hz0,hz1,hz2⟩:=info_parts Bt;refine wpListIn_append_own w hgd s x 169 ho base 5 i0 _ 1 1 underlying169 hi hz0 hz1 hz2 rfl (by decide) v l.length (eZ l) hs hown ⟨g,0,none⟩ m c (eZ news) hx (by rw[wj,hm];omega) ?_ (Dm news) (by unfold maxLen;omega) (by omega) hbase ?_
 ·intro j u hj
  have hjl:j<news.length:=by
   have:=(dI.1 hj).1
   rwa [wj] at this
  have e:(⟨g,0,none⟩:Addr).add j=⟨g,j,none⟩:=by unfold Addr.add;simp;omega
  rw[e,hnews j (by omega)]
  simp[eZ,List.getElem?_eq_getElem hjl] at hj
  simp[List.getD,List.getElem?_eq_getElem hjl,hj]
 ·intro v' w' h1 h2 _
  refine h v' w' ?_ h2
  rw[Dl,bG,hm];exact h1
theorem uX (h:w.ownsRow base e size v n xs):∃ a m c,v=.slice a m c:=by
 obtain⟨a,c,hv⟩:=aM h;exact⟨a,n,c,hv⟩
theorem CV {l:List Int}{k:Nat}(h:l.all db=true)(hk:k<l.length) : -1<=l.getD k 0/\l.getD k 0<=65534:=by
 rw[List.all_eq_true] at h;exact (rJ _).1 (h (l.getD k 0) (by simp[List.getD,List.getElem?_eq_getElem hk]))
def wi (n:Nat):Array Value:=madeCells #[.int .u8 0] (n*1)
theorem Qm (n:Nat)(h:n<=1000000):∀ w,(Instr.makeSlice 169 (.int .i64 0) (.int .i64 (n:Int))).run prog w=.ok (.slice (some w.heap.size) 0 n) (w.alloc (.cells (wi n) 5)):=by
 intro w;obtain⟨i0,hi,hz0,hz1,hz2⟩:=info_parts Bt;have:=run_make (P:=prog) w 169 5 i0 _ underlying169 hi hz0 .i64 .i64 0 n (by omega) (by omega) (by rw[hz2];omega) (by omega)
 rw[Int.toNat_natCast,hz1] at this;exact this
structure iH (Q base:Nat)(W wr:World)(v:Value)(l:List UInt8):Prop where
 bx:wr.heap[Q]?=some (.cells #[v] 169)
 ow:wr.ownsRow base 5 1 v l.length (eZ l)
 be:Below base W wr
 bQ:base<=Q
 bs':base<=wr.heap.size
theorem iH.cell (h:iH Q base W wr v l):wr.cell? (Q,0)=some v:=by rw[aj h.bx];rfl
theorem iH.frozen (h:iH Q base W wr v l):wr.frozen? (Q,0)=false:=aW h.bx 0
theorem Bh {t:TypeId}{cs:Array Value}(h:w.ownsRow base e size v n xs)(hQ:w.heap[Q]?=some (.cells cs t))(hne:e≠t):some Q≠v.ownBlock:=by
 rcases h.2 with ⟨rfl,_⟩|⟨g,cap,cur,rfl,_,hg,_⟩
 ·intro e;cases e
 ·intro e
  cases e;exact xQ hg hQ hne rfl
theorem NX (w:World)(Q:Nat)(v v':Value)(t:TypeId)(h:w.heap[Q]?=some (.cells #[v] t)):(w.setCell Q v').heap[Q]?=some (.cells #[v'] t):=by
 obtain⟨hlt,he⟩:=dL.1 h;simp[World.setCell,hlt];rw[Array.getElem_modify];simp[he]
theorem iH.put {l':List UInt8}(h:iH Q base W wr v l)(ho:w1.ownsRow base 5 1 v' l'.length (eZ l'))(hg:wr.grownBy w1 v.ownBlock) :
  iH Q base W (w1.setCell Q v') v' l':=by
 have hne:=Bh h.ow h.bx (by decide)
 have hlt:=(aQ h.bx);have hQ:w1.heap[Q]?=some (.cells #[v] 169):=(hg.block Q hlt hne).trans h.bx;have hne':=Bh ho hQ (by decide)
 refine⟨NX w1 Q v v' _ hQ,bu ho (Ne.symm hne') _, ?_,h.bQ,by have:=hg.size;have:=h.bs';simp;omega⟩
 exact (h.be.grown hg h.bs' (fun k hk=>(h.ow.lt k hk).1)).setCell h.bQ _
theorem iH.mid (h:iH Q base W wr v l)(hg:wr.grownBy w1 v.ownBlock):w1.cell? (Q,0)=some v/\w1.frozen? (Q,0)=false:=by
 have hne:=Bh h.ow h.bx (by decide)
 have hlt:=(aQ h.bx);have hQ:w1.heap[Q]?=some (.cells #[v] 169):=(hg.block Q hlt hne).trans h.bx;exact⟨by rw[aj hQ];rfl,aW hQ 0⟩
theorem iH.below (h:iH Q base W wr v l)(hb:ai wr w1):iH Q base W w1 v l :=
 ⟨(hb.block Q (aQ h.bx)).trans h.bx,aS h.ow fun k _ hk=>hb.block k hk,h.be.trans (hb.mono h.bs'),h.bQ,bP h.bs' hb.size⟩
theorem iH.PE (h:iH Q base W wr v l)(hg:wr.grownBy w1 v.ownBlock) :
  jQ wr (w1.setCell Q v')/\KeepsOthers wr (w1.setCell Q v'):=by
 have hcells:∀ (j:Nat) (o:Obj),v.ownBlock=some j->wr.heap[j]?=some o->∃ cur fz,o=.cells cur 5 fz:=by
  intro j o hj ho';rcases h.ow.2 with ⟨hv,_⟩|⟨g,cap,cur,hv,_,hgg,_⟩
  ·rw[hv] at hj;cases hj
  ·rw[hv] at hj
   cases hj;rw[hgg] at ho';cases ho';exact⟨cur,_,rfl⟩
 constructor
 ·intro k cs T fz h1 h2 h3
  have hlt:=(aQ h3);have hk1:some k≠v.ownBlock:=by
   intro e;obtain⟨cur,pS,he⟩:=hcells k _ e.symm h3;cases he;exact h1 rfl
  have Oe:k≠Q:=by
   intro e;subst e;rw[h.bx] at h3;cases h3;exact h2 rfl
  rw[cJ _ _ _ _ (by exact Oe),hg.block k hlt hk1]
  exact h3
 ·refine (KeepsOthers.of_grownBy hg ?_).trans (KeepsOthers.setCell _ _ _)
  intro j o hj ho';obtain⟨cur,fz,rfl⟩:=hcells j o hj ho';rfl
theorem UR (Q base B:Nat)(W2:World)(L0:List UInt8)(hB:base<=B):OwnFrom B (fun (pre:List Int) W=>∃ v l,(l.length=L0.length+2*pre.length/\(pre.all db=true->l=L0++bB pre))/\iH Q base W2 W v l):=by
 rintro pre W W' row ⟨v,l,hp,I⟩ hg hr;have hcells:∀ (k:Nat) (cs:Array Value) (T:TypeId) (fz:Nat × Nat),W.heap[k]?=some (Obj.cells cs T fz)->some k≠row:=by
  intro k cs T fz hk e;obtain⟨_,o,ho,hc⟩:=hr k e.symm;rw[hk] at ho;cases ho;cases hc
 refine⟨v,l,hp,(hg.block Q (aQ I.bx) (hcells _ _ _ _ I.bx)).trans I.bx, ?_, ?_,I.bQ,bP I.bs' hg.size⟩
 ·refine⟨I.ow.1, ?_⟩
  rcases I.ow.2 with h0|⟨g,cap,cur,hv,hb,hgg,rest⟩
  ·exact .inl h0
  ·exact .inr ⟨g,cap,cur,hv,hb,(hg.block g (aQ hgg) (hcells _ _ _ _ hgg)).trans hgg,rest⟩
 ·exact I.be.grown hg I.bs' (fun k hk=>bP hB (hr k hk).1)
theorem LH {g c:Nat}(h:w.ownsRow base 5 1 v l.length (eZ l))(hv:v=.slice (some g) l.length c) :
  (convert 169 9 v).run prog w=.ok (.string (bs l)) w:=by
 subst hv;refine run_convert_bytes_back w 169 9 5 ⟨g,0,none⟩ c l underlying169 underlying5 underlying9 ?_
 intro j hj;have e:(⟨g,0,none⟩:Addr).add j=⟨g,j,none⟩:=by unfold Addr.add;simp;omega
 rw[e,h.cellAt j (by omega)]
 simp[eZ,List.getElem?_eq_getElem hj]
theorem U2 (C:Nat)(w:World)(base:Nat)(hb:base<=w.heap.size)(hC:C<=1000000) :
  iH (w.heap.size+1) base w ((w.alloc (.cells (wi C) 5)).alloc (.cells #[.slice (some w.heap.size) 0 C] 169)) (.slice (some w.heap.size) 0 C) []:=by
 refine⟨?_, ?_,((ax base w).alloc hb _).alloc (by simp;omega) _,by omega,by simp;omega⟩
 ·have:=hnw (w.alloc (.cells (wi C) 5)) (.cells #[.slice (some w.heap.size) 0 C] 169)
  rwa [eJ] at this
 ·refine World.ownsRow.alloc ?_ _
  exact World.ownsRow_made w _ C hb (by unfold maxLen;omega) (size_madeCells _ _)
theorem U1 (n:Nat)(hn:Hid (3<=n))(k f t ep ba vo po va:Int)(am al:Option Addr)(cm cl:Nat)(ms:List Int)(es:List aH)(base0:Nat)(w:World)(hmem:bJ w (.slice am ms.length cm) ms)
  (dy:w.ownsRow base0 42 5 (.slice al es.length cl) es.length (aJ (bk es))) (hok:Hid (jD k [f,t,ep,ba,vo,po,va] ms es=true)) :
  CallsIn Fence.wide n prog 123 #[.agg #[.int .i64 k,.int .i64 f,.int .i64 t,.int .i64 ep,.int .i64 ba,.int .i64 vo,.int .i64 po,.int .i64 va,.slice am ms.length cm,.slice al es.length cl]] w fun e w'=>e=.returned (.string (bs (bX k [f,t,ep,ba,vo,po,va] ms es)))/\ai w w':=by
 obtain⟨⟨h1,h2,h3,h4⟩,g1,g2,g3⟩:=(qp _ _ _ _).1 hok.out;have G1:=ae g1;have G2:=ae g2;have G3:=ae g3;clear g1 g2 g3;have mk:=Qm (17+2*ms.length+10*es.length) (by omega)
 have hC:17+2*ms.length+10*es.length<=1000000:=by omega
 have Hc:Hid (((17+2*ms.length+10*es.length:Nat):Int)=17+2*(ms.length:Int)+10*(es.length:Int)):=ae (by omega)
 rw[Hc.out] at mk;generalize 17+2*ms.length+10*es.length=C at mk hC Hc;obtain⟨W1,hW1,hbW1,uF,q, -⟩:=fI w #[.int .i64 k,.int .i64 f,.int .i64 t,.int .i64 ep,.int .i64 ba,.int .i64 vo,.int .i64 po,.int .i64 va,.slice am ms.length cm,.slice al es.length cl] 134;refine callsIn_of_wp_marks func123 rfl trivial ?_ rfl
 simp only [ntmps123,jr,eu,fG,Nat.reduceAdd,Nat.reduceSub,jG,jH,jJ,jI,fH,js];gi_wp2_with fail;clear hW1;refine⟨trivial,by simp[Fence.wide],(ei.2 (Dg _ _ _ (by omega) (by omega) (by omega) (by omega))).mono ?_⟩
 rintro e W2 ⟨rfl,rfl⟩;have I0:=U2 C W2 W2.heap.size (aG _) hC;have hcB:∀ j,W2.cell? ⟨w.heap.size,j,none⟩=#[.int .i64 k,.int .i64 f,.int .i64 t,.int .i64 ep,.int .i64 ba,.int .i64 vo,.int .i64 po,.int .i64 va,.slice am ms.length cm,.slice al es.length cl][j]?:=q;have vP:=ae hcB;have hwl:w.heap.size<W2.heap.size:=by omega
 clear q hcB uF;have c0:=vP.out 0;have c8:=vP.out 8;have c9:=vP.out 9;obtain⟨V,hV⟩:∃ V,(W2.alloc (.cells (wi C) 5)).alloc (.cells #[.slice (some W2.heap.size) 0 C] 169)=V:=⟨_,rfl⟩;rw[hV] at I0;have bF:ai W2 V:=by rw[<- hV];exact ((ax _ _).alloc (aG _) _).alloc (by simp) _
 have Ox:W2.heap.size+1<V.heap.size:=by rw[<- hV];simp
 have cQ:=I0.cell;have fQ:=I0.frozen;have d0:V.cell? (w.heap.size,0)=some (.int .i64 k):=(bF.cell (p:=⟨w.heap.size,0,none⟩) hwl).trans c0;gi_wp2_with (gi_at_builtin;refine BZ rfl _ _ rfl W2.heap.size _ [] rfl (I0.ow.alloc _) V.heap.size 1 1 (bp k.toNat) rfl rfl ?hnews ?h63 ?hbase ?_)
 case hnews =>
  intro j hj;match j,hj with
  | 0,_=>simp[bp,vp];omega
 case h63=>simp
 case hbase=>simp;omega
 intro v1 w1 ho hg;have hg':=tS hg;obtain⟨KW,Mc⟩:=I0.mid hg';have I1:=I0.put (l':=bp k.toNat) ho hg';obtain⟨a1,x1,hv1⟩:=aM ho;have Ju:=ae hv1;rw[hv1];rw[hv1] at I1;clear hv1 cQ fQ d0 hV mk;generalize hQ:W2.heap.size+1=Q at *;gi_wp2_with fail;refine⟨trivial,by simp[Fence.wide],(ei.2 (Ag w.heap.size _)).mono ?_⟩
 rintro e V2 ⟨hb2,rfl⟩;have I2:=I1.below hb2;have hcB:∀ (wr:World) (v:Value) (l:List UInt8),iH Q W2.heap.size W2 wr v l->∀ j,wr.cell? ⟨w.heap.size,j,none⟩=#[.int .i64 k,.int .i64 f,.int .i64 t,.int .i64 ep,.int .i64 ba,.int .i64 vo,.int .i64 po,.int .i64 va,.slice am ms.length cm,.slice al es.length cl][j]?:=fun _ _ _ I j=>(I.be.cell (p:=⟨w.heap.size,j,none⟩) hwl).trans (vP.out j);have HB:=ae hcB;have hbW2:ai w W2:=hbW1;clear hcB I0 I1 c0 c8 c9 KW Mc hg hg' hb2 ho bF Ox Ju hQ;gi_wp2_with fail;gi_loopw [24] (fun i wr=>∃ (j:Nat) (v:Value),j<=7/\i=.int .i64 j/\iH Q W2.heap.size W2 wr v (bp k.toNat++bB (List.take j [f,t,ep,ba,vo,po,va]))) (fun i _=>7-(intOf i).toNat)
 case atStart=>exact⟨0,_,bl _,rfl,by simpa [bB] using I2⟩
 case round =>
  clear I2;obtain⟨j,vA,hj,rfl,I⟩:=hrel;by_cases hlt:j<7
  ·have hix:=Af w.heap.size j hlt
   have hcj:=EJ (HB.out _ _ _ I) j hlt;have ht:Hid (List.take (j+1) [f,t,ep,ba,vo,po,va]=List.take j [f,t,ep,ba,vo,po,va]++[List.getD [f,t,ep,ba,vo,po,va] j 0]):=mD _ _ hlt;have uK:=CV G1.out (show j<([f,t,ep,ba,vo,po,va]:List Int).length from hlt);have hll:(bp k.toNat++bB (List.take j [f,t,ep,ba,vo,po,va])).length<=1000:=by rw[bG,kG,dA,eo];omega
   generalize List.getD [f,t,ep,ba,vo,po,va] j 0=x at *;have cQ:=I.cell;have fQ:=I.frozen;gi_wp2_with fail;refine wpIn_wide.2 (wp_region_noPanic ?_)
   go_region_with ((go_at_call 157;refine (yR W2.heap.size vA (bp k.toNat++bB (List.take j [f,t,ep,ba,vo,po,va])) x _ (by exact I.ow) (by exact I.bs') uK.1 uK.2 (by omega)).mono ?_;rintro e w5 ⟨v5,rfl,iB,hg5⟩;have EK:wr.grownBy w5 vA.ownBlock:=⟨hg5.os,hg5.tape,hg5.output,hg5.size,hg5.block⟩;obtain⟨Ds,DR⟩:=I.mid EK;have I5:=I.put iB EK;obtain⟨a5,n5,x5,rfl⟩:=uX iB))
   all_goals
    refine NoPanic.normal ?_
    gi_wp2_with fail;exact⟨⟨j+1,_,by omega,by go_num,by rw[ht.out,uR,uS, <- eH];exact I5⟩,by simp[intOf];omega⟩
  ·have uq:Hid (j=7):=ae (by omega)
   have Oa:(7:Int)<=(j:Int):=by have:=uq.out;omega
   have I7:iH Q W2.heap.size W2 wr vA (bp k.toNat++bB [f,t,ep,ba,vo,po,va]):=by rw[uq.out] at I;exact I
   have c8:wr.cell? (w.heap.size,8)=some (.slice am ms.length cm):=HB.out _ _ _ I7 8;have cQ:=I7.cell;have fQ:=I7.frozen;have hll:(bp k.toNat++bB [f,t,ep,ba,vo,po,va]).length<=1000:=by rw[bG,kG,eo];simp
   have hle:=I7.be.size;clear I hlt hj;gi_wp2_with (gi_at_builtin;refine BZ rfl _ _ rfl W2.heap.size _ (bp k.toNat++bB [f,t,ep,ba,vo,po,va]) rfl (I7.ow.alloc _) wr.heap.size 1 1 (bp ms.length) rfl rfl ?hnews ?h63 ?hbase ?_)
   case hnews =>
    intro j hj;match j,hj with
    | 0,_=>simp[bp,vp];omega
   case h63=>omega
   case hbase=>simp;omega
   intro v2 w2 ho2 hg2;have Ai:=tS hg2;obtain⟨Vn,Vy⟩:=I7.mid Ai;have I8:=I7.put ho2 Ai;obtain⟨a2,n2,x2,hv2⟩:=uX ho2;have Ve:=ae hv2;rw[hv2];rw[hv2] at I8;have KU:=HB.out _ _ _ I8 8;clear hv2 cQ fQ I7 hg2 Ai ho2 c8;generalize hY:w2.setCell Q (.slice a2 n2 x2)=Y at *;gi_wp2_with fail;clear hY;clear hle;generalize wr.heap.size=N1 at *;gi_loopw [43] (fun i wr=>∃ (m:Nat) (v:Value),m<=ms.length/\i=.int .i64 m/\iH Q W2.heap.size W2 wr v (bp k.toNat++bB [f,t,ep,ba,vo,po,va]++bp ms.length++bB (ms.take m))) (fun i _=>ms.length-(intOf i).toNat)
   case atStart=>exact⟨0,_,bl _,rfl,by simpa [bB] using I8⟩
   case round =>
    clear I8 KU;obtain⟨m,v,hm,rfl,I⟩:=hrel;have ui:ai w wr:=hbW2.trans (I.be.mono hbW2.size);by_cases hlt:m<ms.length
    ·obtain⟨am',LD,dG,hcells⟩:=hmem
     obtain⟨b1,o1,ha1,hcm⟩:=hcells m hlt;injection dG with e1 _ e3
     subst e1 e3 ha1;have hcm':=aF ui hcm;have ht:Hid (ms.take (m+1)=ms.take m++[ms.getD m 0]):=mD _ _ hlt;have uK:=CV G2.out hlt;have hll:(bp k.toNat++bB [f,t,ep,ba,vo,po,va]++bp ms.length++bB (ms.take m)).length<=2000:=by rw[bG,bG,kG,dA,eo];omega
     clear hcells hcm;generalize ms.getD m 0=x at *;have cQ:=I.cell;have fQ:=I.frozen;gi_wp2_with fail;refine⟨trivial,by simp[Fence.wide],(ei.2 (yR W2.heap.size v _ x _ (by exact I.ow) (by exact I.bs') uK.1 uK.2 (by omega))).mono ?_⟩
     rintro e w5 ⟨v5,rfl,iB,hg5⟩;obtain⟨Ds,DR⟩:=I.mid hg5;have I5:=I.put iB hg5;obtain⟨a5,n5,x5,rfl⟩:=uX iB;gi_wp2_with fail;exact⟨⟨m+1,_,by omega,by go_num,by rw[ht.out,uR,uS, <- eH];exact I5⟩,by simp[intOf];omega⟩
    ·obtain rfl:m=ms.length:=by omega
     rw[je] at I;have c9:wr.cell? (w.heap.size,9)=some (.slice al es.length cl):=HB.out _ _ _ I 9;have cQ:=I.cell;have fQ:=I.frozen;have hll:(bp k.toNat++bB [f,t,ep,ba,vo,po,va]++bp ms.length++bB ms).length<=2000:=by rw[bG,bG,kG,eo];omega
     have hle3:=I.be.size;clear hlt hm;gi_wp2_with (gi_at_builtin;refine BZ rfl _ _ rfl W2.heap.size _ (bp k.toNat++bB [f,t,ep,ba,vo,po,va]++bp ms.length++bB ms) rfl (I.ow.alloc _) wr.heap.size 1 1 (bp es.length) rfl rfl ?hnews ?h63 ?hbase ?_)
     case hnews =>
      intro j hj;match j,hj with
      | 0,_=>simp[bp,vp];omega
     case h63=>omega
     case hbase=>simp;omega
     intro v3 w3 ho3 hg3;have hg3':=tS hg3;obtain⟨Vo,Vz⟩:=I.mid hg3';have EY:w3.ownsRow W2.heap.size 5 1 v3 (bp k.toNat++(bB [f,t,ep,ba,vo,po,va]++(bp ms.length++(bB ms++bp es.length)))).length (eZ (bp k.toNat++(bB [f,t,ep,ba,vo,po,va]++(bp ms.length++(bB ms++bp es.length))))):=by
      rw[bG,bG,bG,bG];exact ho3
     have I9:=I.put EY hg3';obtain⟨a3,n3,x3,hv3⟩:=uX ho3;have Vf:=ae hv3;rw[hv3];rw[hv3] at I9;have KV:(w3.setCell Q (.slice a3 n3 x3)).cell? (w.heap.size,9)=some (.slice al es.length cl):=HB.out _ _ _ I9 9;clear hv3 cQ fQ I hg3 hg3' ho3 EY c9 ui;generalize hZ:w3.setCell Q (.slice a3 n3 x3)=Z at *;gi_wp2_with fail;clear hZ;refine⟨trivial,by simp[Fence.wide],(FG _ al es.length cl _).mono ?_⟩
     rintro e W5 ⟨rfl,rfl⟩;obtain⟨X,hX,hbX,gJ,qX, -⟩:=fI Z #[.slice al es.length cl] 44;rw[hX];clear hX;gi_wp2_with fail;have mF:=I9.below hbX;have EF:ai w X:=hbW2.trans (mF.be.mono hbW2.size);have An:=aS dy fun k _ hk=>EF.block k hk;have Ax:Z.heap.size<X.heap.size:=by omega
     have Br:=qX 0;have Nh:W2.heap.size<=X.heap.size:=mF.bs';clear gJ qX KV I9;have Jo:Hid (bp k.toNat++(bB [f,t,ep,ba,vo,po,va]++(bp ms.length++(bB ms++bp es.length)))++bB (bk es)=bX k [f,t,ep,ba,vo,po,va] ms es):=ae (by unfold bX;simp only [eH])
     have Hlen:Hid ((bp k.toNat++(bB [f,t,ep,ba,vo,po,va]++(bp ms.length++(bB ms++bp es.length)))).length<=100):=ae (by simp only [bG,kG,eo,eu,fG];omega)
     generalize bp k.toNat++(bB [f,t,ep,ba,vo,po,va]++(bp ms.length++(bB ms++bp es.length)))=L0 at *;refine wpIn_rangeFunc_ownF rfl (by have:=hn.out;omega) (gf:=181) (lb:=#[.pointer (some Z.heap.size)]) rfl trivial (enters_of func181 (by kernel_rfl) rfl)
      (F8 (n-1) Z.heap.size base0 _ es X h4 Ax Br An) jQ.trans (fun W l o o' _ hl hc _=>Fv W l o o' hl hc) (ax _ _) (fun _=>rfl)
      (fun pre W=>∃ v l,(l.length=L0.length+2*pre.length/\(pre.all db=true->l=L0++bB pre))/\iH Q W2.heap.size W2 W v l)
      (fun _ _ _=>False)
      (UR Q W2.heap.size X.heap.size W2 L0 Nh)
      (fun _ _ _ _ _ hs _ _=>hs)
      ⟨_,L0,⟨by simp,fun _=>by simp[bB]⟩,mF⟩
      (fun x=>{ tmps:=#[Value.agg #[Value.int IntKind.i64 k,Value.int IntKind.i64 f,Value.int IntKind.i64 t,Value.int IntKind.i64 ep,Value.int IntKind.i64 ba,Value.int IntKind.i64 vo,Value.int IntKind.i64 po,Value.int IntKind.i64 va,Value.slice am ms.length cm,Value.slice al es.length cl],Value.pointer (some { block:=w.heap.size,off:=0 }),Value.string { data:=#[] },Value.pointer (some { block:=Q,off:=0 }),undef,u5,undef,u7,.int .i64 x,Value.pointer (some { block:=w.heap.size,off:=8 }),Value.slice am ms.length cm,Value.int IntKind.i64 (ms.length:Int),Value.pointer (some { block:=w.heap.size,off:=9 }),Value.slice al es.length cl,Value.int IntKind.i64 (es.length:Int),Value.int IntKind.i64 (17+2*(ms.length:Int)+10*(es.length:Int)),Value.slice (some { block:=W2.heap.size,off:=0 }) 0 C,Value.slice (some { block:=W2.heap.size,off:=0 }) 0 C,Value.pointer (some { block:=w.heap.size,off:=0 }),Value.int IntKind.i64 k,Value.int IntKind.u8 k,Value.slice (some { block:=V.heap.size,off:=0 }) 1 1,Value.slice a1 (bp k.toNat).length x1,Value.agg #[Value.pointer (some { block:=w.heap.size,off:=1 }),Value.pointer (some { block:=w.heap.size,off:=2 }),Value.pointer (some { block:=w.heap.size,off:=3 }),Value.pointer (some { block:=w.heap.size,off:=4 }),Value.pointer (some { block:=w.heap.size,off:=5 }),Value.pointer (some { block:=w.heap.size,off:=6 }),Value.pointer (some { block:=w.heap.size,off:=7 })],Value.int IntKind.i64 (j:Int),Value.bool (decide ((j:Int)<7)),u26,u27,u28,u29,u30,u31,u32,vA,Value.pointer (some { block:=w.heap.size,off:=8 }),Value.slice am ms.length cm,Value.int IntKind.i64 (ms.length:Int),Value.int IntKind.u8 (ms.length:Int),Value.slice (some { block:=N1,off:=0 }) 1 1,Value.slice a2 n2 x2,Value.pointer (some { block:=w.heap.size,off:=8 }),Value.slice am ms.length cm,Value.int IntKind.i64 (ms.length:Int),Value.int IntKind.i64 (ms.length:Int),Value.bool false,u45,u46,u47,u48,u49,u50,v,Value.pointer (some { block:=w.heap.size,off:=9 }),Value.slice al es.length cl,Value.int IntKind.i64 (es.length:Int),Value.int IntKind.u8 (es.length:Int),Value.slice (some { block:=wr.heap.size,off:=0 }) 1 1,Value.slice a3 n3 x3,Value.pointer (some { block:=w.heap.size,off:=9 }),Value.slice al es.length cl,Value.func (Fn.func 181) #[] #[Value.pointer (some { block:=Z.heap.size,off:=0 })],.int .i64 x,undef,undef,undef,undef,undef],defers:=[] }) ?assign ?bX ?done ?stop
     case assign =>
      intro l x W K hK;gi_wp2;exact hK
     case bX =>
      rintro l pre x W ⟨v6,l6,⟨uw,uB⟩,I⟩ hpl;have Of:l6.length<=100000:=by have:=Hlen.out;rw[kt] at hpl;omega
      have IH:=ae uw;have Jb:=ae uB;have cQ:=I.cell;have fQ:=I.frozen;clear uw uB;gi_wp2_with fail;refine⟨trivial,by simp[Fence.wide],(CallsIn.inRound l (ei.2 (Ki W2.heap.size v6 l6 x _ (by exact I.ow) (by exact I.bs') Of))).mono ?_⟩
      rintro e w5 ⟨v5,l5,⟨hl5,E1⟩,rfl,iB,hg5⟩;obtain⟨Ds,DR⟩:=I.mid hg5;have I5:=I.put iB hg5;have K5:=I.PE (v':=v5) hg5;have IG:=ae hl5;have Ja:=ae E1;clear hl5 E1;obtain⟨a5,n5,x5,rfl⟩:=uX iB;gi_wp2;refine⟨K5.2,K5.1,_,_,⟨?_, ?_⟩,I5⟩
      ·rw[bG,IH.out,IG.out,bG];simp;omega
      ·intro hall
       rw[List.all_append] at hall;simp only [Bool.and_eq_true,List.all_cons,List.all_nil,Bool.and_true] at hall;rw[Jb.out hall.1,Ja.out hall.2,uR,uS,eH]
     case done =>
      rintro D ys W hD rfl ⟨v6,l6,⟨hl0,uB⟩,I⟩ hK;clear hl0;have uw:=uB G3.out;rw[Jo.out] at uw;have hbd:=sr k [f,t,ep,ba,vo,po,va] ms es;have hl1:(bX k [f,t,ep,ba,vo,po,va] ms es).length<=1000:=by rw[hbd];simp only [eu,fG];omega
      have hpos:0<(bX k [f,t,ep,ba,vo,po,va] ms es).length:=by rw[hbd];omega
      clear uB hbd;subst uw;generalize Ee:bX k [f,t,ep,ba,vo,po,va] ms es=BD at *;have Il:=ae Ee;clear Ee;obtain⟨g6,c6,hv6⟩:=Bg I.ow hpos;have cQ:=I.cell;have NB:=LH I.ow hv6;rw[hv6] at cQ NB;gi_wp2;refine⟨by simp,.inl ⟨_,_,rfl,run_takeDeferred hK, ?_⟩⟩
      have hbW:ai w W:=hbW2.trans (I.be.mono hbW2.size);exact⟨_,results_tmp rfl _ _ _,by rw[Il.out];rfl,hbW.trans (belowK_b (w:=w) (aG _) W D _ _ (by have:=EF.size;omega) hK rfl rfl)⟩
     case stop =>
      rintro D c pre W _ _ h _;exact h.elim
end Go.Proofs.YtgieeeeeiggoeaaGreat
