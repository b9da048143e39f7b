import Derived.Test.YtgieeeeeiggoeaaGreatD41
set_option maxRecDepth 100000
set_option maxHeartbeats 4000000
namespace Go.Proofs.YtgieeeeeiggoeaaGreat
open Go.RowKit Go.Shelf
open Tryz
variable {c:aq}{ps:List Pr}{B M x:Nat}{vA vC vI vL vT x5:Value}{w w0:World}
theorem O8 : (prog.info? 104).map (fun i=>(i.zero,i.size,i.bytes))=some (some (.pointer none),1,8):=by kernel_rfl
theorem dM.lt' {F:Nat->Prop}(h:dM w F x c){k:Nat}(hk:F k):k<w.heap.size:=by
 obtain⟨_,_,_,_,_,_,_,_,_,h⟩:=h;exact h.lt k hk
theorem kM.xi {b:Bk}(h:kM w0 w B x5 M b ps vC vI vL vT vA)(p:Pr)(hp:p∈ps)(k:Nat)(hk:p.F k):k<w.heap.size:=by
 obtain⟨_,_,_,_,_,_,_,h6⟩:=h.jd p hp;exact h6 k hk
theorem kM.pair {W2:World}{b:Bk}{y:Nat}{FX FY:Nat->Prop}(h:kM w0 w B x5 M b ps vC vI vL vT vA)(hb:ai w W2)(hX:dM W2 FX x c)(hY:cK W2 FY y c)(wF:∀ k,FX k->w.heap.size<=k)(tT:∀ k,FY k->w.heap.size<=k)(i6:∀ k,FX k->¬ FY k)(hn:ps.length<=1000000000) :
  ∃ g' cap' W3,(∀ ty,(Builtin.append_ #[59,59] ty #[vC,.slice (some ⟨W2.heap.size+1,0,none⟩) 1 1]).run prog ((W2.alloc (.cells #[x,y] 123)).alloc (.cells #[W2.heap.size] 104))=.ok (.slice (some ⟨g',0,none⟩) (ps.length+1) cap') W3) /\
   W3.cell? (B,0)=some vC/\W3.frozen? (B,0)=false/\bZ w0 (W3.setCell B (.slice (some ⟨g',0,none⟩) (ps.length+1) cap')) B x5 M (ps++[⟨W2.heap.size,x,y,c,fun k=>k=W2.heap.size\/FX k\/FY k⟩]):=by
 obtain⟨X,wK⟩:∃ X,X=W2.alloc (.cells #[x,y] 123):=⟨_,rfl⟩;have gJ:X.heap.size=W2.heap.size+1:=by rw[wK];simp
 have hbX:ai W2 X:=by rw[wK];exact (ax _ W2).alloc (aG _) _
 have Na:X.heap[W2.heap.size]?=some (.cells #[x,y] 123):=by rw[wK];exact hnw _ _
 have cq:ai X (X.alloc (.cells #[W2.heap.size] 104)):=(ax _ X).alloc (aG _) _;have hnew:(X.alloc (.cells #[W2.heap.size] 104)).heap[W2.heap.size+1]?=some (.cells [Value.pointer (some W2.heap.size)].toArray 104):=by
  have:=hnw X (.cells #[W2.heap.size] 104);rw[gJ] at this;exact this
 have sI:(X.alloc (.cells #[W2.heap.size] 104)).heap.size=W2.heap.size+2:=by rw[eJ,gJ]
 generalize hZ:X.alloc (.cells #[W2.heap.size] 104)=Z at *;have pW:ai w Z:=hb.trans ((hbX.trans (cq.mono hbX.size)).mono hb.size);have Ew:ai W2 Z:=hbX.trans (cq.mono hbX.size);have IZ:=h.below pW;have hBl:=h.book.bs;obtain⟨g',cap',W3,hrun,ho1,hg1,ek⟩:=oX (t:=59) O8 underlying59 rfl (by decide) Z (B+1) vC ps.length (ps.map fun p=>Value.pointer (some p.q)) [.pointer (some W2.heap.size)] (W2.heap.size+1) IZ.row hnew rfl (by intro u hu;rw[dg] at hu;subst hu;rfl) (by omega) (by decide) (by have:=pW.size;omega)
 have hw2:=hb.size;have pU:B<Z.heap.size:=by omega
 have nb:vC.ownBlock≠some B:=fun e=>by have:=(IZ.row.lt B e).1;omega
 have hBW:W3.heap[B]?=some (.cells #[vC,vI,vL,vT,vA,x5] 67):=(hg1.block B pU (fun e=>nb e.symm)).trans IZ.book.blk;obtain⟨U,hU⟩:∃ U,U=W3.setCell B (.slice (some ⟨g',0,none⟩) (ps.length+1) cap'):=⟨_,rfl⟩;have bI:Moved Z U (fun z=>z=B\/vC.ownBlock=some z):=by
  rw[hU];exact ((Moved.refl Z _).grown hg1 (fun z _ e=>.inr e)).setCell B (.inl rfl) _
 have Ow:=bI.size;have Nt:U.heap[B]?=some (.cells #[.slice (some ⟨g',0,none⟩) (ps.length+1) cap',vI,vL,vT,vA,x5] 67):=by
  rw[hU];exact bV _ _ _ _ _ _ hBW
 have hkeep:∀ {base size n:Nat} {e:TypeId} {v:Value} {xs:List Value},Z.ownsRow base e size v n xs->e≠67->e≠104->U.ownsRow base e size v n xs:=fun ho h1 h2=>bI.owns ho fun z hz hS=>by
  rcases hS with e|e
  ·exact aY IZ.book.blk ho h1 (e ▸ hz)
  ·exact bM ho IZ.row h2 z hz e
 have N6:vC.ownBlock=some g'\/W2.heap.size+2<=g':=ek.imp id (fun e=>by omega)
 have Ef:∀ z,(Value.slice (some ⟨g',0,none⟩) (ps.length+1) cap').ownBlock=some z->vC.ownBlock=some z\/W2.heap.size+2<=z:=fun z e=>by
  have hg:g'=z:=by simpa [Value.ownBlock] using e
  subst hg;exact N6
 have hold:∀ z,vC.ownBlock=some z->z<w.heap.size:=fun z e=>(dL.1 (bK h.row e).choose_spec.1).1;have tU:∀ k,k=W2.heap.size\/FX k\/FY k->w.heap.size<=k/\k<W2.heap.size+1:=fun k hk=>by
  rcases hk with e|e|e
  ·omega
  ·have:=wF k e
   have:=hX.lt' e;omega
  ·have:=tT k e
   have:=hY.lt' e;omega
 have zH:∀ k,k=W2.heap.size\/FX k\/FY k->U.heap[k]?=Z.heap[k]?:=fun k hk=>bI.block k (by have:=(tU k hk).2;omega) (fun hS=>by
  have h1:=(tU k hk).1;rcases hS with e|e
  ·omega
  ·have:=hold k e
   omega)
 refine⟨g',cap',W3,fun ty=>by rw[<- wK,hZ];exact hrun ty,aj hBW 0,aW hBW 0,b,.slice (some ⟨g',0,none⟩) (ps.length+1) cap',vI,vL,vT,vA, ?_⟩
 rw[<- hU];have kV:ib U B (B+1) (.slice (some ⟨g',0,none⟩) (ps.length+1) cap') x5 b vI vL vT vA :=
  {blk:=Nt
   rI:=hkeep IZ.book.rI (by decide) (by decide)
   rL:=hkeep IZ.book.rL (by decide) (by decide)
   rT:=hkeep IZ.book.rT (by decide) (by decide)
   rA:=hkeep IZ.book.rA (by decide) (by decide)
   eI:=fun i p hp=>⟨(IZ.book.eI i p hp).1,hkeep (IZ.book.eI i p hp).2 (by decide) (by decide)⟩
   eL:=fun i p hp=>⟨(IZ.book.eL i p hp).1,hkeep (IZ.book.eL i p hp).2 (by decide) (by decide)⟩
   eT:=fun i p hp=>⟨(IZ.book.eT i p hp).1,hkeep (IZ.book.eT i p hp).2 (by decide) (by decide)⟩
   eA:=fun i p hp=>⟨(IZ.book.eA i p hp).1,hkeep (IZ.book.eA i p hp).2 (by decide) (by decide)⟩
   bb:=IZ.book.bb
   bs:=bP IZ.book.bs Ow
   mN:=IZ.book.mN }
 refine⟨kV, ?_,fun p hp => ?_,fun p hp k hk => ?_,h.small, ?_,h.new, ?_⟩
 ·have hr:=bu (a:=⟨B,0,none⟩) ho1 (fun e=>by have:=(ho1.lt B e).1;omega) (.slice (some ⟨g',0,none⟩) (ps.length+1) cap')
  rw[<- hU] at hr;rw[bG,gw];exact hr
 ·rcases fE.1 hp with hp|hp
  ·refine (IZ.jd p hp).keep fun k hk=>bI.block k (IZ.xi p hp k hk) (fun hS => ?_)
   have ho:=h.off p hp k hk;rcases hS with e|e
   ·omega
   ·exact ho.2.2 e
  ·rw[dg] at hp
   subst hp;have Er:dM U FX x c:=by
    obtain⟨gs,cap,b,Fn,vr,va,vm,vb,vt,h2⟩:=hX;exact⟨gs,cap,b,Fn,vr,va,vm,vb,vt,h2.keep fun k e=>(zH k (.inr (.inl e))).trans (Ew.block k (h2.lt k e))⟩
   exact⟨FX,FY,(zH _ (.inl rfl)).trans ((cq.block _ (by omega)).trans Na),Er,hY.keep fun k e=>(zH k (.inr (.inr e))).trans (Ew.block k (hY.lt' e)),fun k e=>e,⟨i6,fun e=>Nat.lt_irrefl _ (hX.lt' e),fun e=>Nat.lt_irrefl _ (hY.lt' e)⟩,fun k e=>by have:=(tU k e).2;omega⟩
 ·rcases fE.1 hp with hp|hp
  ·obtain⟨o1,o2,o3⟩:=h.off p hp k hk
   refine⟨o1,o2,fun e => ?_⟩
   rcases Ef k e with q|q
   ·exact o3 q
   ·have:=h.xi p hp k hk
    omega
  ·rw[dg] at hp
   subst hp;have hk':=tU k hk;refine⟨by omega,fun e => ?_,fun e => ?_⟩
   ·have:=Bk.lt h.book e
    omega
   ·rcases Ef k e with q|q
    ·have:=hold k q
     omega
    ·omega
 ·have hnw:=h.new
  refine IZ.be.trans (bI.jg (fun z q => ?_) IZ.be.size)
  rcases q with q|q
  ·omega
  ·have:=(h.row.lt z q).1
   omega
 ·refine List.pairwise_append.2 ⟨h.apart,List.pairwise_singleton _ _,fun p hp q hq k hk hk2 => ?_⟩
  rw[dg] at hq;subst hq;have h1:=h.xi p hp k hk;have h2:=(tU k hk2).1;omega
theorem FC (n:Int)(h:bZ w0 w B x5 M ps)(hn:ps.length<=1000000000) :
  Calls prog 41 #[B,.int .i64 n] w fun e w'=>e=.returned (.bool true)/\∃ ps',bZ w0 w' B x5 M ps'/\((1<=n/\n<=5/\∃ p,p.c=aq.first n.toNat/\ps'=ps++[p])\/(¬ (1<=n/\n<=5)/\ps'=ps)):=by
 obtain⟨b,vC,vI,vL,vT,vA,h⟩:=h;obtain⟨C,hC,hbC,lE⟩:=ch w #[.int .i64 n] 75;have cC:=au lE 0;have sb:=ae lE;have hCs:=(aQ lE);have HL:=ae h;clear h lE;by_cases hin:1<=n/\n<=5
 ·obtain⟨m,rfl⟩:∃ m:Nat,n=(m:Int):=⟨n.toNat,by omega⟩
  have HN:=ae (Lw m C (by omega) (by omega))
  go_enter func41,ntmps41;go_wp2_with fail;refine HN.out.mono ?_
  rintro e W1 ⟨x,FX,rfl,hX,wF,hb1⟩;have c1:=aF hb1 cC;have HX:=ae (aP hX wF);have HR:=ae (SP m W1 (by omega) (by omega))
  clear hX wF cC;go_wp2_with fail;refine HR.out.mono ?_
  rintro e W2 ⟨y,FY,rfl,hY,tT,hb2⟩;have hs1:=hb1.size;have VU:=hbC.size;have sB:=(hbC.trans (hb1.mono hbC.size)).trans (hb2.mono (bP hbC.size hb1.size));have hX2:dM W2 FX x (aq.first m):=by
   obtain⟨gs,cap,b,Fn,vr,va,vm,vb,vt,h2⟩:=HX.out.1;exact⟨gs,cap,b,Fn,vr,va,vm,vb,vt,h2.keep fun k e=>hb2.block k (h2.lt k e)⟩
  obtain⟨aC,Dr,OE⟩:=aM HL.out.row;subst OE;obtain⟨g',cap',W3,hrun,r1,r2,hfin⟩:=HL.out.pair sB hX2 hY (fun k e=>by have:=HX.out.2 k e;omega) (fun k e=>by have:=tT k e;omega) (fun k e1 e2=>by have:=HX.out.1.lt' e1;have:=tT k e2;omega) hn
  have cB:W2.cell? (B,0)=some (.slice aC ps.length Dr):=aj (HL.out.below sB).book.blk 0;have cB1:∀ o,(W2.alloc o).cell? (B,0)=some (.slice aC ps.length Dr):=fun o=>aF ((ax _ W2).alloc (aG _) o) cB;have Jf:=ae hrun;have HF:=ae hfin;clear hY tT hX2 hrun hfin c1;go_wp2_with (at_builtin;refine kI rfl (.tmp 38) (.tmp 43) 59 rfl _ _ _ _ (by simp[Act.eval]) (by simp[Act.eval]) Jf.out ?_)
  go_wp2_with fail;go_ret;exact⟨rfl,_,HF.out,.inl ⟨hin.1,hin.2,_,by simp,rfl⟩⟩
 ·have HN:=ae (Lx n C hin)
  go_enter func41,ntmps41;go_wp2_with fail;refine HN.out.mono ?_
  rintro e W1 ⟨rfl,hb1⟩;have c1:=aF hb1 cC;have HR:=ae (SQ n W1 hin);clear cC;go_wp2_with fail;refine HR.out.mono ?_
  rintro e W2 ⟨rfl,hb2⟩;have sB:=(hbC.trans (hb1.mono hbC.size)).trans (hb2.mono (bP hbC.size hb1.size));clear c1;go_wp2_with fail;go_ret;exact⟨rfl,ps,⟨b,vC,vI,vL,vT,vA,HL.out.below sB⟩,.inr ⟨hin,rfl⟩⟩
theorem bZ.less {M':Nat}(h:bZ w0 w B x5 M ps)(hM:M<=M'):bZ w0 w B x5 M' ps:=by
 obtain⟨b,vC,vI,vL,vT,vA,h⟩:=h;obtain⟨s1,s2,s3,s4⟩:=h.small;exact⟨b,vC,vI,vL,vT,vA, { h with small:=⟨by omega,by omega,by omega,by omega⟩ }⟩
theorem bZ.cells {p:Pr}(h:bZ w0 w B x5 M ps)(hp:p∈ps):∃ a c,w.cell? (p.q,1)=some (.pointer (some p.y))/\w.cell? (p.y,0)=some (.slice a p.c.aD.length c):=by
 obtain⟨b,vC,vI,vL,vT,vA,h⟩:=h;obtain⟨FX,FY,hq,hX,⟨br,ba,bm,vr,va,vm,vb,vt,vv,vc,hY⟩, -, -, -⟩:=h.jd p hp;obtain⟨a,c,hv⟩:=aM hY.rr;subst hv;exact⟨a,c,aj hq 1,aj hY.blk 0⟩
theorem bZ.row (h:bZ w0 w B x5 M ps):∃ a c,w.cell? (B,0)=some (.slice a ps.length c)/\∀ k p,ps[k]?=some p->∃ g,a=some ⟨g,0,none⟩/\w.cell? ⟨g,k,none⟩=some (.pointer (some p.q)):=by
 obtain⟨b,vC,vI,vL,vT,vA,h⟩:=h;obtain⟨a,c,hv⟩:=aM h.row;subst hv;refine⟨a,c,aj h.book.blk 0,fun k p hp => ?_⟩
 have hk:=(dI.1 hp).1;obtain⟨g,cap,hv, -, -⟩:=h.row.form (by omega)
 cases hv;refine⟨g,rfl, ?_⟩
 rw[ev h.row k (by omega),fe,hp]
 rfl
theorem PN (h:bZ w0 w B x5 M ps)(hg:∀ p∈ps,(∃ E g,Good p.c E g)/\p.c.told.length<=1000000000)(hn:ps.length<=2000000)(hM:M<=10000000) :
  Calls prog 25 #[B] w fun e w'=>e=.returned (.bool true)/\ai w0 w':=by
 have HL:=ae h;have HG:=ae hg;clear h hg;go_enter func25,ntmps25;go_wp2_with fail;go_loopw [3] (fun i wr=>∃ k:Nat,k<=ps.length/\i=.int .i64 k/\bZ w0 wr B x5 (M+100*k) ps) (fun i _=>ps.length-(intOf i).toNat)
 case atStart=>exact⟨0,bl _,rfl,HL.out⟩
 case round =>
  obtain⟨k,hk,rfl,hL⟩:=hrel;obtain⟨aC,cC,hrow,hrows⟩:=hL.row;have IL:=ae hL;by_cases hlt:k<ps.length
  ·have hk1:(k:Int)<(ps.length:Int):=by omega
   have hps:ps[k]?=some ps[k]:=bU hlt;obtain⟨gC,rfl,hcell⟩:=hrows k _ hps;have hp:ps[k]∈ps:=List.getElem_mem hlt;generalize ps[k]=p at *;obtain⟨⟨E,g,hgood⟩,htold⟩:=HG.out p hp;have nJ:=hgood.nodes.n5;have HB:=ae (AR hL hp hgood (by omega))
   clear hL hrows hps;go_wp2_with fail;refine HB.out.mono ?_
   rintro e W1 ⟨rfl,hL1⟩;have HA:=ae (FA hL1 hp htold (by omega))
   clear hL1 hrow hcell;go_wp2_with fail;refine HA.out.mono ?_
   rintro e W2 ⟨rfl,hL2⟩;have HL2:=ae hL2;clear hL2;go_wp2_with fail;go_loopw [7] (fun i wr=>∃ j:Nat,j<=p.c.aD.length+2/\i=.int .i64 ((j:Int)-1)/\bZ w0 wr B x5 (M+100*k+8+8*j) ps) (fun i _=>p.c.aD.length+2-(intOf i+1).toNat)
   case atStart=>exact⟨0,bl _,rfl,HL2.out⟩
   case round =>
    obtain⟨j,hj,rfl,tW⟩:=hrel;obtain⟨ay,cy,y1,y0⟩:=tW.cells hp;by_cases ES:j<p.c.aD.length+2
    ·have hj1:(j:Int)-1<=(p.c.aD.length:Int):=by omega
     have HS:=ae (FE ((j:Int)-1) tW hp hgood (by omega) (by omega))
     have Wc:IntKind.i64.wrap ((j:Int)-1+1)=((j+1:Nat):Int)-1:=by rw[dV];omega
     clear tW;go_wp2_with fail;refine HS.out.mono ?_
     rintro e W3 ⟨rfl,hL3⟩;have kL:=ae hL3;clear hL3 y0 y1;go_wp2_with fail;go_roundw
     case rel=>exact⟨j+1,by omega,by first|rfl|(congr 1;omega)|(simp;omega),kL.out⟩
     case measure=>simp[intOf];omega
    ·obtain rfl:j=p.c.aD.length+2:=by omega
     have hj1:¬ ((p.c.aD.length+2:Nat):Int)-1<=(p.c.aD.length:Int):=by omega
     have IK:=ae tW;clear tW;go_wp2_with fail;go_loopw [9] (fun i wr=>∃ m:Nat,m<=5/\i=.int .i64 (99+(m:Int))/\bZ w0 wr B x5 (M+100*k+8+8*(p.c.aD.length+2)+4*m) ps) (fun i _=>104-(intOf i).toNat)
     case atStart=>exact⟨0,bl _,rfl,IK.out⟩
     case round =>
      obtain⟨m,hm,rfl,wH⟩:=hrel;by_cases VZ:m<5
      ·have hm1:99+(m:Int)<=103:=by omega
       have HS:=ae (FB (99+(m:Int)) wH hp hgood (by omega) (by omega))
       have wY:IntKind.i64.wrap (99+(m:Int)+1)=99+((m+1:Nat):Int):=by rw[dV];omega
       clear wH;go_wp2_with fail;refine HS.out.mono ?_
       rintro e W4 ⟨rfl,hL4⟩;have yi:=ae hL4;clear hL4;go_wp2_with fail;go_roundw
       case rel=>exact⟨m+1,by omega,by first|rfl|(congr 1;omega)|(simp;omega),yi.out⟩
       case measure=>simp[intOf];omega
      ·obtain rfl:m=5:=by omega
       have jw:=ae wH;clear wH;go_wp2_with fail;go_roundw
       case rel=>exact⟨k+1,by omega,by go_num,jw.out.less (by omega)⟩
       case measure=>simp[intOf];omega
  ·obtain rfl:k=ps.length:=by omega
   obtain⟨b,vC,vI,vL,vT,vA,wG⟩:=IL.out;obtain⟨s1,s2,s3,s4⟩:=wG.small;have HW:=ae (wG.book.whole (by omega) (by omega) (by omega) (by omega))
   have od:=ae wG.be;clear hL hrows wG;go_wp2_with fail;refine HW.out.mono ?_
   rintro e W1 ⟨rfl,hb1⟩;have HB1:=ae (od.out.trans (hb1.mono od.out.size));clear hrow;go_wp2_with fail;go_ret;exact⟨rfl,HB1.out⟩
theorem PT {X:World}(x5:Value)(hb:ai w X)(hM:X.heap[w.heap.size]?=some (.cells #[true,true,true,true,true,x5] 67)):bZ w X w.heap.size x5 0 []:=by
 have hs:=(aQ hM);refine⟨⟨[],[],[],[]⟩,.slice none 0 0,.slice none 0 0,.slice none 0 0,.slice none 0 0,.slice none 0 0,⟨⟨hM,bE _ _ _ _,bE _ _ _ _,bE _ _ _ _,bE _ _ _ _,fun i p hp=>absurd hp (by simp),fun i p hp=>absurd hp (by simp),fun i p hp=>absurd hp (by simp),fun i p hp=>absurd hp (by simp),Nat.lt_succ_self _,hs,⟨rfl,rfl,rfl,rfl⟩⟩,bE _ _ _ _,fun p hp=>absurd hp (by simp),fun p hp=>absurd hp (by simp),⟨aG _,aG _,aG _,aG _⟩,hb,aG _,List.Pairwise.nil⟩⟩
end Go.Proofs.YtgieeeeeiggoeaaGreat
