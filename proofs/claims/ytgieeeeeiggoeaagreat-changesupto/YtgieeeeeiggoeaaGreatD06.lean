import Derived.Test.YtgieeeeeiggoeaaGreatD04
set_option maxRecDepth 100000
set_option maxHeartbeats 4000000
namespace Go.Proofs.YtgieeeeeiggoeaaGreat
open Go.RowKit
open Tryz
variable {xs:List Value}{base n size:Nat}{e:TypeId}{v:Value}{w:World}
theorem Dw (w:World)(B:Nat)(v:Value){k j:Nat}(h:k≠j):(w.setCell ⟨B,k,none⟩ v).cell? ⟨B,j,none⟩=w.cell? ⟨B,j,none⟩ :=
 World.cell?_setCell_other w _ _ v (by intro e;cases e;exact h rfl)
theorem aS {w':World}(h:w.ownsRow base e size v n xs)(hk:∀ k,base<=k->k<w.heap.size->w'.heap[k]?=w.heap[k]?) :
  w'.ownsRow base e size v n xs:=by
 refine⟨h.1, ?_⟩
 rcases h.2 with h0|⟨g,cap,cur,hv,hb,hg,rest⟩
 ·exact .inl h0
 ·exact .inr ⟨g,cap,cur,hv,hb,(hk g hb (aQ hg)).trans hg,rest⟩
theorem Bg (h:w.ownsRow base e size v n xs)(hn:0<n):∃ g cap,v=.slice (some ⟨g,0,none⟩) n cap:=by
 rcases h.2 with ⟨_,h0⟩|⟨g,cap,_,hv,_⟩
 ·omega
 ·exact⟨g,cap,hv⟩
theorem Gf {base':Nat}(h:w.ownsRow base e size v n xs)(hb:base'<=base):w.ownsRow base' e size v n xs:=by
 refine⟨h.1, ?_⟩
 rcases h.2 with h0|⟨g,cap,cur,hv,hg,rest⟩
 ·exact .inl h0
 ·exact .inr ⟨g,cap,cur,hv,bP hb hg,rest⟩
def Ci (T L:List UInt8)(w:World)(e:Ending)(w':World):Prop :=
 (eh (fa T) (jb T) (gu T) (fD T)=(L,0)/\∃ mem log,w'.ownsRow (w.heap.size+1) 3 1 mem (gu T).length (aJ (gu T))/\w'.ownsRow (w.heap.size+1) 42 5 log (fD T).length (aJ (bk (fD T))) /\
  e=.returned (.tuple #[.agg #[.int .i64 (fa T),.int .i64 (bo T 1),.int .i64 (bo T 3),.int .i64 (bo T 5),.int .i64 (bo T 7),.int .i64 (bo T 9),.int .i64 (bo T 11),.int .i64 (bo T 13),mem,log],()])) \/
 (eh (fa T) (jb T) (gu T) (fD T)≠(L,0)/\e=.returned (.tuple #[.agg #[(),(),(),(),(),(),(),(),true,true],.int .i64 1]))
theorem SF (L T:List UInt8)(w:World)(h:21<=L.length)(hm:L.length<=140737488355328)(hT:T=L.take (L.length-4))(hyes:T++h_ T=L) :
  Calls prog 139 #[.string (bs L)] w fun e w'=>Below w.heap.size w w'/\Ci T L w e w':=by
 have hs:=iy L;have hx:(bs L).extract 0 (L.length-4)=bs T:=by rw[zc,hT]
 have qZ:T.length<=140737488355328:=by rw[hT,dA];omega
 clear hT;obtain⟨W,hW,hb0,hsz,q,fz⟩:=fI w #[(),(),(),(),(),(),(),(),true,true] 134;have hcl:=wk T;have b1:=ji T (bp (crc T)) (by rw[eo];omega)
 have b2:=ji (T++bp (crc T)) (bp (crc T / 256)) (by simp only [bG,eo];omega)
 have b3:=ji (T++(bp (crc T)++bp (crc T / 256))) (bp (crc T / 65536)) (by simp only [bG,eo];omega)
 have b4:=ji (T++(bp (crc T)++(bp (crc T / 256)++bp (crc T / 65536)))) (bp (crc T / 16777216)) (by simp only [bG,eo];omega)
 simp only [eH] at b1 b2 b3 b4;go_enter func139,ntmps139;go_wp2_with fail;refine (yN _ _ (by rw[iy];unfold maxLen;omega)).mono ?_
 rintro e w5 ⟨rfl,rfl⟩;clear hW;rw[gS];go_wp2_with fail;refine (lk _ _ (by omega)).mono ?_
 rintro e w6 ⟨rfl,hb6⟩;rw[show ((crc T:Nat):Int).toNat=crc T by omega]
 go_wp2_with fail;refine (lk _ _ (by omega)).mono ?_
 rintro e w7 ⟨rfl,i7⟩;rw[show (((crc T:Nat):Int) / 256).toNat=crc T / 256 by omega]
 go_wp2_with fail;refine (lk _ _ (by omega)).mono ?_
 rintro e w8 ⟨rfl,mn⟩;rw[show (((crc T:Nat):Int) / 65536).toNat=crc T / 65536 by omega]
 go_wp2_with fail;refine (lk _ _ (by omega)).mono ?_
 rintro e w9 ⟨rfl,gT⟩;rw[show (((crc T:Nat):Int) / 16777216).toNat=crc T / 16777216 by omega]
 have sA:=hb6.trans ((i7.trans ((mn.trans (gT.mono mn.size)).mono i7.size)).mono hb6.size);obtain⟨q',pS⟩:=wg sA hsz q fz;have hbw:=hb0.trans (sA.mono hb0.size);have hne:((bs (T++(bp (crc T)++(bp (crc T / 256)++(bp (crc T / 65536)++bp (crc T / 16777216)))))).toList == (bs L).toList)=true:=by
  rw[tO];exact eR hyes
 have zO:w.heap.size<w9.heap.size:=by have:=sA.size;omega
 clear b1 b2 b3 q fz hsz;have kC:(bs T).size<=maxLen:=by rw[iy];unfold maxLen;omega
 go_wp2_with fail;clear b4 hne hb6 i7 mn gT;refine (tF (bs T) _ _ kC (by omega) (by omega)).mono ?_
 rintro e V ⟨rfl,rfl⟩;rw[gS];go_wp2_with fail;refine (mz (bs T) _ _ kC (by omega) (by omega)).mono ?_
 rintro e _ ⟨rfl,rfl⟩;rw[gS];go_wp2_with fail;refine (mz (bs T) _ _ kC (by omega) (by omega)).mono ?_
 rintro e _ ⟨rfl,rfl⟩;rw[gS];go_wp2_with fail;refine (mz (bs T) _ _ kC (by omega) (by omega)).mono ?_
 rintro e _ ⟨rfl,rfl⟩;rw[gS];go_wp2_with fail;refine (mz (bs T) _ _ kC (by omega) (by omega)).mono ?_
 rintro e _ ⟨rfl,rfl⟩;rw[gS];go_wp2_with fail;refine (mz (bs T) _ _ kC (by omega) (by omega)).mono ?_
 rintro e _ ⟨rfl,rfl⟩;rw[gS];go_wp2_with fail;refine (mz (bs T) _ _ kC (by omega) (by omega)).mono ?_
 rintro e _ ⟨rfl,rfl⟩;rw[gS];go_wp2_with fail;refine (mz (bs T) _ _ kC (by omega) (by omega)).mono ?_
 rintro e _ ⟨rfl,rfl⟩;rw[gS];go_wp2_with fail;refine (tF (bs T) _ _ kC (by omega) (by omega)).mono ?_
 rintro e _ ⟨rfl,rfl⟩;rw[gS];go_wp2_with fail;obtain⟨X,hX,hb1,hsz1,qX,fX⟩:=fI V #[.int .i64 (bn T 0:Nat),.int .i64 (bo T 1),.int .i64 (bo T 3),.int .i64 (bo T 5),.int .i64 (bo T 7),.int .i64 (bo T 9),.int .i64 (bo T 11),.int .i64 (bo T 13),true,true] 134;rw[hX];clear hX;have hnm:=lC T 15;have HM:Hid (gu T=eD T 16 (bn T 15)):=rfl;have HE:Hid (fD T=kR T (17+2*bn T 15) (bn T (16+2*bn T 15))):=rfl;generalize bn T 15=nm at *;have q8:=qX 8;have zR:Hid (∀ j,X.cell? ⟨V.heap.size,j,none⟩=#[.int .i64 (bn T 0:Nat),.int .i64 (bo T 1),.int .i64 (bo T 3),.int .i64 (bo T 5),.int .i64 (bo T 7),.int .i64 (bo T 9),.int .i64 (bo T 11),.int .i64 (bo T 13),.slice none 0 0,.slice none 0 0][j]?):=qX;clear qX;have hsz2:V.heap.size<X.heap.size:=by omega
 have Wb:X.heap.size<=V.heap.size+1:=by omega
 clear hsz1 hx hs hcl;go_loopw [7,8] (fun p i wr=>∃ (n:Nat) (v:Value),n<=nm/\p=.int .i64 (16+2*(n:Int))/\i=.int .i64 ((nm:Int)-n) /\
   wr.cell? (V.heap.size,8)=some v/\wr.ownsRow X.heap.size 3 1 v (eD T 16 n).length (aJ (eD T 16 n)) /\
   (∀ j,j≠8->wr.cell? ⟨V.heap.size,j,none⟩=X.cell? ⟨V.heap.size,j,none⟩)/\(∀ j,wr.frozen? ⟨V.heap.size,j,none⟩=false)/\Below V.heap.size V wr/\X.heap.size<=wr.heap.size)
  (fun _ i _=>(intOf i).toNat)
 case atStart=>exact⟨0,_,bl _,rfl,by simp,q8,World.ownsRow_nil _ _ _ _,fun _ _=>rfl,fX,hb1,aG _⟩
 case round =>
  obtain⟨n,v,hn,rfl,rfl,c8,hown,hcs,hfz,hb,hsw⟩:=hrel;by_cases hlt:n<nm
  ·have gJ:V.heap.size<wr.heap.size:=by omega
   have hcs':Hid (∀ j,j≠8->wr.cell? ⟨V.heap.size,j,none⟩=X.cell? ⟨V.heap.size,j,none⟩):=hcs;clear hcs;have NY:=hfz 8;have hnl:(eD T 16 n).length<=256:=by rw[uT];omega
   go_wp2_with fail;refine (mz (bs T) _ _ kC (by omega) (by omega)).mono ?_
   rintro e wr ⟨rfl,rfl⟩;rw[gS,show (16+2*(n:Int)).toNat=16+2*n by omega]
   go_wp2_with (at_builtin;refine H_ rfl _ _ rfl X.heap.size _ _ rfl (hown.alloc _) wr.heap.size 1 1 [bo T (16+2*n)] rfl rfl ?hnews ?h63 ?hbase ?_)
   case hnews=>intro j hj;match j,hj with
    | 0,_=>simp
   case h63=>omega
   case hbase=>simp;omega
   intro v' w1 hown' hgr;have fq:Below X.heap.size wr w1:=((Below.refl X.heap.size wr).alloc hsw _).grown hgr (by simp;omega) (fun k hk=>(hown.lt k hk).1)
   have KT:w1.cell? (V.heap.size,8)=some v:=(fq.cell (p:=⟨V.heap.size,8,none⟩) hsz2).trans c8;have Vw:w1.frozen? (V.heap.size,8)=false:=(fq.frozen (p:=⟨V.heap.size,8,none⟩) hsz2).trans NY;obtain⟨g',cap',hv'⟩:=Bg hown' (by simp)
   rw[hv'];go_wp2;go_roundw
   case rel =>
    refine⟨n+1,_,by omega,by simp;omega,by simp;omega,World.cell?_setCell_same' _ _ _ (by rw[KT];rfl), ?_, ?_, ?_, ?_, ?_⟩
    ·rw[qt, <- hv',bG]
     exact ownsRow_setCell_below (a:=⟨V.heap.size,8,none⟩) hown' hsz2 _
    ·intro j hj
     rw[Dw w1 _ _ (Ne.symm hj)];rw[<- hcs'.out j hj];exact fq.cell (p:=⟨V.heap.size,j,none⟩) hsz2
    ·intro j
     rw[World.frozen?_setCell]
     exact (fq.frozen (p:=⟨V.heap.size,j,none⟩) hsz2).trans (hfz j)
    ·exact (hb.trans (fq.mono (by omega))).setCell (by exact aG _) _
    ·simp;have:=fq.size;omega
   case measure=>simp[intOf];omega
  ·obtain rfl:n=nm:=by omega
   have hcs':Hid (∀ j,j≠8->wr.cell? ⟨V.heap.size,j,none⟩=X.cell? ⟨V.heap.size,j,none⟩):=hcs;clear hcs hlt hn;go_wp2_with fail;refine (tF (bs T) _ _ kC (by omega) (by omega)).mono ?_
   rintro e Y ⟨rfl,rfl⟩;rw[gS,show (16+2*(n:Int)).toNat=16+2*n by omega]
   go_wp2_with fail;have hne:=lC T (16+2*n);generalize bn T (16+2*n)=ne at *;have pg:Y.cell? (V.heap.size,9)=some (.slice none 0 0):=by rw[hcs'.out 9 (by omega)];exact zR.out 9
   go_loopw [7,10] (fun p i wr=>∃ (m:Nat) (v:Value),m<=ne/\p=.int .i64 (17+2*(n:Int)+10*(m:Int))/\i=.int .i64 ((ne:Int)-m) /\
     wr.cell? (V.heap.size,9)=some v/\wr.ownsRow Y.heap.size 42 5 v (kR T (17+2*n) m).length (aJ (bk (kR T (17+2*n) m))) /\
     (∀ j,j≠9->wr.cell? ⟨V.heap.size,j,none⟩=Y.cell? ⟨V.heap.size,j,none⟩)/\(∀ j,wr.frozen? ⟨V.heap.size,j,none⟩=false)/\Below V.heap.size V wr/\(∀ k,V.heap.size<k->k<Y.heap.size->wr.heap[k]?=Y.heap[k]?)/\Y.heap.size<=wr.heap.size)
    (fun _ i _=>(intOf i).toNat)
   case atStart=>exact⟨0,_,bl _,by simp;omega,by simp,pg,World.ownsRow_nil _ _ _ _,fun _ _=>rfl,hfz,hb,fun _ _ _=>rfl,aG _⟩
   case round =>
    obtain⟨m,v2,hmn,rfl,rfl,c9,hown2,hcs2,Ah,hb2,hk2,Oz⟩:=hrel;by_cases hlt:m<ne
    ·have Wa:V.heap.size<wr.heap.size:=by omega
     have sz:V.heap.size<Y.heap.size:=by omega
     have NC:Hid (∀ j,j≠9->wr.cell? ⟨V.heap.size,j,none⟩=Y.cell? ⟨V.heap.size,j,none⟩):=hcs2;have Od:Hid (∀ k,V.heap.size<k->k<Y.heap.size->wr.heap[k]?=Y.heap[k]?):=hk2;clear hcs2 hk2 pg c8;have NZ:=Ah 9;have hnl:(kR T (17+2*n) m).length<=256:=by rw[zm];omega
     go_wp2_with fail;refine (mz (bs T) _ _ kC (by omega) (by omega)).mono ?_
     rintro e wr ⟨rfl,rfl⟩;rw[gS,show (17+2*(n:Int)+10*(m:Int)).toNat=17+2*n+10*m by omega]
     go_wp2_with fail;refine (mz (bs T) _ _ kC (by omega) (by omega)).mono ?_
     rintro e wr ⟨rfl,rfl⟩;rw[gS,show (17+2*(n:Int)+10*(m:Int)+2).toNat=17+2*n+10*m+2 by omega]
     go_wp2_with fail;refine (mz (bs T) _ _ kC (by omega) (by omega)).mono ?_
     rintro e wr ⟨rfl,rfl⟩;rw[gS,show (17+2*(n:Int)+10*(m:Int)+4).toNat=17+2*n+10*m+4 by omega]
     go_wp2_with fail;refine (mz (bs T) _ _ kC (by omega) (by omega)).mono ?_
     rintro e wr ⟨rfl,rfl⟩;rw[gS,show (17+2*(n:Int)+10*(m:Int)+6).toNat=17+2*n+10*m+6 by omega]
     go_wp2_with fail;refine (mz (bs T) _ _ kC (by omega) (by omega)).mono ?_
     rintro e wr ⟨rfl,rfl⟩;rw[gS,show (17+2*(n:Int)+10*(m:Int)+8).toNat=17+2*n+10*m+8 by omega]
     go_wp2_with (at_builtin;refine UZ rfl _ _ rfl Y.heap.size _ _ rfl ((hown2.alloc _).alloc _) (wr.heap.size+1) 1 (pa T (17+2*n+10*m)) rfl ?hnews ?h63 ?hbase ?_)
     case hnews=>intro j hj;match j,hj with
      | 0,_=>simp[pa,aH.nums]
      | 1,_=>simp[pa,aH.nums]
      | 2,_=>simp[pa,aH.nums]
      | 3,_=>simp[pa,aH.nums]
      | 4,_=>simp[pa,aH.nums]
     case h63=>omega
     case hbase=>simp;omega
     intro v' w1 hown' hgr;have fq:Below Y.heap.size wr w1:=(((Below.refl Y.heap.size wr).alloc Oz _).alloc (by simp;omega) _).grown hgr (by simp;omega) (fun k hk=>(hown2.lt k hk).1)
     have c9':w1.cell? (V.heap.size,9)=some v2:=(fq.cell (p:=⟨V.heap.size,9,none⟩) sz).trans c9;have Vx:w1.frozen? (V.heap.size,9)=false:=(fq.frozen (p:=⟨V.heap.size,9,none⟩) sz).trans NZ;obtain⟨g',cap',hv'⟩:=Bg hown' (by simp)
     rw[hv'];go_wp2;go_roundw
     case rel =>
      refine⟨m+1,_,by omega,by simp;omega,by simp;omega,World.cell?_setCell_same' _ _ _ (by rw[c9'];rfl), ?_, ?_, ?_, ?_, ?_, ?_⟩
      ·rw[DN, <- hv',bG]
       exact ownsRow_setCell_below (a:=⟨V.heap.size,9,none⟩) hown' sz _
      ·intro j hj
       rw[Dw w1 _ _ (Ne.symm hj)];rw[<- NC.out j hj];exact fq.cell (p:=⟨V.heap.size,j,none⟩) sz
      ·intro j
       rw[World.frozen?_setCell]
       exact (fq.frozen (p:=⟨V.heap.size,j,none⟩) sz).trans (Ah j)
      ·exact (hb2.trans (fq.mono (by omega))).setCell (by exact aG _) _
      ·intro k hk1 hk3
       rw[Below.heap_setCell _ _ _ _ (by show k≠V.heap.size;omega),fq.block k hk3]
       exact Od.out k hk1 hk3
      ·simp;have:=fq.size;omega
     case measure=>simp[intOf];omega
    ·obtain rfl:m=ne:=by omega
     have sz:V.heap.size<Y.heap.size:=by omega
     have hown1:wr.ownsRow X.heap.size 3 1 v (eD T 16 n).length (aJ (eD T 16 n)):=aS hown fun k h1 h2=>hk2 k (by omega) h2
     have cc:∀ j,j<8->wr.cell? ⟨V.heap.size,j,none⟩=#[.int .i64 (bn T 0:Nat),.int .i64 (bo T 1),.int .i64 (bo T 3),.int .i64 (bo T 5),.int .i64 (bo T 7),.int .i64 (bo T 9),.int .i64 (bo T 11),.int .i64 (bo T 13),.slice none 0 0,.slice none 0 0][j]?:=fun j hj=>by
      rw[hcs2 j (by omega),hcs'.out j (by omega)];exact zR.out j
     have d0:wr.cell? (V.heap.size,0)=some (.int .i64 (bn T 0:Nat)):=cc 0 (by omega)
     have d1:wr.cell? (V.heap.size,1)=some (.int .i64 (bo T 1)):=cc 1 (by omega)
     have d2:wr.cell? (V.heap.size,2)=some (.int .i64 (bo T 3)):=cc 2 (by omega)
     have d3:wr.cell? (V.heap.size,3)=some (.int .i64 (bo T 5)):=cc 3 (by omega)
     have d4:wr.cell? (V.heap.size,4)=some (.int .i64 (bo T 7)):=cc 4 (by omega)
     have d5:wr.cell? (V.heap.size,5)=some (.int .i64 (bo T 9)):=cc 5 (by omega)
     have d6:wr.cell? (V.heap.size,6)=some (.int .i64 (bo T 11)):=cc 6 (by omega)
     have d7:wr.cell? (V.heap.size,7)=some (.int .i64 (bo T 13)):=cc 7 (by omega)
     have d8:wr.cell? (V.heap.size,8)=some v:=(hcs2 8 (by omega)).trans c8
     have hM:=bJ.cM hown1;have hL:=eM.cM hown2;obtain⟨am,cm,hv1, -⟩:=hM;obtain⟨al,cl,hv2, -⟩:=hL;have ui:Below w.heap.size w wr:=hbw.trans (hb2.mono hbw.size);have rr:(∀ j,wr.cell? ⟨w.heap.size,j,none⟩=#[.int .i64 0,.int .i64 0,.int .i64 0,.int .i64 0,.int .i64 0,.int .i64 0,.int .i64 0,.int .i64 0,.slice none 0 0,.slice none 0 0][j]?)/\∀ j,wr.frozen? ⟨w.heap.size,j,none⟩=false :=
      ⟨fun j=>(hb2.cell (p:=⟨w.heap.size,j,none⟩) zO).trans (q' j),fun j=>(hb2.frozen (p:=⟨w.heap.size,j,none⟩) zO).trans (pS j)⟩
     have mP:=bJ.cM hown1;have zJ:=eM.cM hown2;have HK:Hid (jb T=[bo T 1,bo T 3,bo T 5,bo T 7,bo T 9,bo T 11,bo T 13]):=rfl;have HKK:Hid (fa T=(bn T 0:Nat)):=rfl;have Jj:Hid (v=.slice am (eD T 16 n).length cm):=hv1;have Jk:Hid (v2=.slice al (kR T (17+2*n) m).length cl):=hv2;rw[hv1] at d8 mP;rw[hv2] at c9 zJ;have hwr:V.heap.size<wr.heap.size:=by omega
     have hwr2:w.heap.size<wr.heap.size:=by omega
     clear hcs2 hk2 pg c8 cc hfz Ah hv1 hv2 q' pS q8 hown zR hcs';obtain⟨r1,r2⟩:=rr;go_wp2_with fail;refine (GD _ _ _ _ _ _ _ _ _ _ (eD T 16 n) (kR T (17+2*n) m) _ mP zJ).mono ?_
     rintro e wE ⟨iA,rfl⟩;rw[<- HM.out, <- HE.out, <- HK.out, <- HKK.out];have tY:=mP.below iA;have M_:=zJ.below iA;have o1:=aS hown1 (fun k _ h=>iA.block k h);have o2:=aS hown2 (fun k _ h=>iA.block k h);rw[<- HM.out] at o1;rw[<- HE.out] at o2;have r1':∀ j,wE.cell? ⟨w.heap.size,j,none⟩=#[.int .i64 0,.int .i64 0,.int .i64 0,.int .i64 0,.int .i64 0,.int .i64 0,.int .i64 0,.int .i64 0,.slice none 0 0,.slice none 0 0][j]?:=fun j=>(iA.cell (p:=⟨w.heap.size,j,none⟩) hwr2).trans (r1 j);have r2':∀ j,wE.frozen? ⟨w.heap.size,j,none⟩=false:=fun j=>(iA.frozen (p:=⟨w.heap.size,j,none⟩) hwr2).trans (r2 j);have EE:Below w.heap.size w wE:=ui.trans (iA.mono ui.size);rw[<- HM.out] at tY;rw[<- HE.out] at M_;have e0:=cell_later iA d0;have e1:=cell_later iA d1;have e2:=cell_later iA d2;have e3:=cell_later iA d3;have e4:=cell_later iA d4;have e5:=cell_later iA d5;have e6:=cell_later iA d6;have e7:=cell_later iA d7;have e8:=cell_later iA d8;have e9:=cell_later iA c9;clear r1 r2 d0 d1 d2 d3 d4 d5 d6 d7 d8 c9;by_cases hE:eh (fa T) (jb T) (gu T) (fD T)=(L,0)
     ·have hE2:Hid (eh (fa T) (jb T) (gu T) (fD T)=(L,0)):=hE
      rw[hE];clear hE;have hee:((bs L).toList == (bs L).toList)=true:=by simp
      go_wp2_with fail;refine bodyPost_ret (v:=.tuple #[.agg #[.int .i64 (fa T),.int .i64 (bo T 1),.int .i64 (bo T 3),.int .i64 (bo T 5),.int .i64 (bo T 7),.int .i64 (bo T 9),.int .i64 (bo T 11),.int .i64 (bo T 13),v,v2],()]) (by simp[results,results139,go_sem,r1',Jj.out,Jk.out,HKK.out]) rfl ⟨?_,.inl ⟨hE2.out,v,v2, ?_, ?_,rfl⟩⟩
      ·iterate 10 refine Below.setCell ?_ (by exact aG _) _
       exact EE
      ·iterate 10 refine ownsRow_setCell_below ?_ (by exact Nat.lt_succ_self _) _
       exact Gf o1 (by omega)
      ·iterate 10 refine ownsRow_setCell_below ?_ (by exact Nat.lt_succ_self _) _
       exact Gf o2 (by omega)
     ·have hfin:∀ w',Ci T L w (.returned (.tuple #[.agg #[(),(),(),(),(),(),(),(),true,true],.int .i64 1])) w':=fun w'=>.inr ⟨hE,rfl⟩
      have hcase:¬ (eh (fa T) (jb T) (gu T) (fD T)).2=0\/((eh (fa T) (jb T) (gu T) (fD T)).2=0/\((bs (eh (fa T) (jb T) (gu T) (fD T)).1).toList == (bs L).toList)=false):=by
       generalize eh (fa T) (jb T) (gu T) (fD T)=r at *;obtain⟨r1,r2⟩:=r;by_cases h0:r2=0
       ·subst h0
        refine .inr ⟨rfl, ?_⟩
        rw[tO];exact ee fun h=>hE (by rw[show r1=L from h])
       ·exact .inl h0
      clear hE;generalize eh (fa T) (jb T) (gu T) (fD T)=r at hcase |-;obtain⟨x,y⟩:=r;dsimp only at hcase |-;rcases hcase with hc|⟨rfl,hc2⟩
      all_goals
       go_wp2_with fail;refine bodyPost_ret (v:=.tuple #[.agg #[(),(),(),(),(),(),(),(),true,true],.int .i64 1]) (by simp[results,results139,go_sem,r1']) rfl ⟨?_,hfin _⟩
       iterate 10 refine Below.setCell ?_ (by exact aG _) _
       exact EE
end Go.Proofs.YtgieeeeeiggoeaaGreat
