import Derived.Test.YtgieeeeeiggoeaaGreatD36
set_option maxRecDepth 100000
set_option maxHeartbeats 4000000
namespace Go.Proofs.YtgieeeeeiggoeaaGreat
open Go.RowKit Go.Shelf
open Tryz
theorem SP (n:Nat)(w:World)(h1:1<=n)(h5:n<=5) :
  Calls prog 81 #[.agg #[.int .i64 (n:Int)]] w fun e w'=>∃ y F,e=.returned (.tuple #[.pointer (some ⟨y,0,none⟩),()])/\cK w' F y (aq.first n)/\(∀ k,F k->w.heap.size<=k)/\ai w w':=by
 have hn1:¬ (n:Int)<1:=by omega
 have nJ:¬ (5:Int)<(n:Int):=by omega
 have mixed:prog.follows Departure.mixedOrders=true:=by kernel_rfl
 obtain⟨C,hC,hbC,lE⟩:=ch w #[.int .i64 (n:Int)] 75;obtain⟨Y,hY,bt,kx⟩:=ch C #[true,true,true,true,true] 120;have wD:C.heap.size=w.heap.size+1:=by rw[<- hC];simp
 have hYl:Y.heap.size=C.heap.size+1:=by rw[<- hY];simp
 have EG:ai w Y:=hbC.trans (bt.mono hbC.size);have ic:=ae kx;have sb:=ae lE;have cC:=au lE 0;have cY:=aF bt cC;have Jh:=ae (aP wD hYl);clear kx lE wD hYl;generalize Wf:C.heap.size=y at *;go_enter func81,ntmps81;go_wp2_with fail;go_loopw [5,6] (fun v i wr=>∃ k:Nat,k<=n/\i=.int .i64 k/\wr.ownsRow Y.heap.size 3 1 v k (aJ (dn k))/\ai Y wr) (fun _ i _=>n-(intOf i).toNat)
 case atStart=>exact⟨0,bl _,rfl,bE _ _ _ _,ax _ _⟩
 case round =>
  obtain⟨k,hk,rfl,hown,hb⟩:=hrel;obtain⟨av,cv,hv⟩:=aM hown;subst hv;have r3:=aF hb cY;by_cases hlt:k<n
  ·have hk1:(k:Int)<(n:Int):=by omega
   obtain⟨g',cap',W1,hrun,ho1,hg1,ek⟩:=oX (t:=29) AI underlying29 rfl (by decide) (wr.alloc (.cells #[.int .i64 (k:Int)] 3)) Y.heap.size (.slice av k cv) k (aJ (dn k)) [.int .i64 (k:Int)] wr.heap.size (hown.alloc _) (hnw _ _) rfl (by intro u hu;simp at hu;subst hu;rfl) (by omega) (by decide) (by simp;have:=hb.size;omega)
   have HR:=ae hrun;have hbW:ai Y W1:=hb.trans ((((Moved.refl wr (fun j=>(Value.slice av k cv).ownBlock=some j)).alloc _).grown hg1 (fun j _ e=>e)).jg (fun j e=>(hown.lt j e).1) hb.size);have HO:=ae (aP ho1 hbW);clear hrun ho1 hg1 hbW hown;go_wp2_with (at_builtin;refine kI rfl (.tmp 25) (.tmp 27) 29 rfl _ _ _ _ (by simp[Act.eval]) (by simp[Act.eval]) HR.out ?_)
   go_wp2_with fail;exact⟨⟨k+1,by omega,by go_num,by rw[Mr,pk];exact HO.out.1,HO.out.2⟩,by simp[intOf];omega⟩
  ·obtain rfl:k=n:=by omega
   have hfl:(dn k).length=k:=by simp[dn]
   have hall:bd wr (.slice av k cv) (dn k):=by
    unfold bd;rw[hfl];exact obs hown (bl _)
   have hne:dn k≠[]:=fun e=>by rw[e] at hfl;simp at hfl;omega
   have OQ:=EG.size;obtain⟨wD,hYl⟩:=Jh.out;have IM:Hid (ly w wr y k 0 0 (.slice av k cv) (fun _=>0) (fun _=>0) (.slice none 0 0) (.slice none 0 0)):=ae
    {blk:=(hb.block _ (by omega)).trans ic.out
     rr:=bE _ _ _ _
     ra:=bE _ _ _ _
     aD:=fun j hj=>absurd hj (Nat.not_lt_zero _)
     di:=fun j hj=>absurd hj (Nat.not_lt_zero _)
     all:=hall
     new:=⟨by omega,fun z e=>absurd e eQ,fun z e=>absurd e eQ,fun z e=>by have:=(hown.lt z e).1;omega⟩
     be:=EG.trans (hb.mono OQ)
     cfg:=(hb.block _ (by omega)).trans ((bt.block _ (by omega)).trans sb.out)
     k_:=fun i _ hi _ _=>absurd hi (Nat.not_lt_zero _)
     kZ:=fun i _ hi _ _=>absurd hi (Nat.not_lt_zero _) }
   clear hown hall wD hYl;go_wp2_with fail;go_loopw [7] (fun i wr2=>∃ j:Nat,j<=k/\i=.int .i64 j/\∃ br vr,ly w wr2 y k j 0 (.slice av k cv) br (fun _=>0) vr (.slice none 0 0)) (fun i _=>k-(intOf i).toNat)
   case atStart=>exact⟨0,bl _,rfl,_,_,IM.out⟩
   case round =>
    clear r3 hb;obtain⟨j,hj,rfl,br,vr,hN⟩:=hrel;have r3:=aj hN.cfg 0;obtain⟨ar,cr,dp⟩:=aM hN.rr;subst dp;have y0:=au hN.blk 0;have HN:=ae hN;by_cases hlt2:j<k
    ·have hj1:(j:Int)<(k:Int):=by omega
     have HI:Hid (∀ W,W=wr.drew->Calls prog 132 #[.slice av k cv] W fun e w'=>∃ a' c',e=.returned (.slice a' k c')/\∃ g' cap' W1 ss,(∀ ty,(Builtin.append_ #[115,115] ty #[.slice ar j cr,.slice (some ⟨w'.heap.size+1,0,none⟩) 1 1]).run prog ((w'.alloc (.cells #[.bool true,(),(),.slice a' k c',true,(),()] 199)).alloc (.cells #[w'.heap.size] 197))=.ok (.slice (some ⟨g',0,none⟩) (j+1) cap') W1)/\W1.cell? ⟨y,0,none⟩=some (.slice ar j cr)/\W1.frozen? ⟨y,0,none⟩=false/\w'.cell? ⟨y,0,none⟩=some (.slice ar j cr)/\(∀ o,(w'.alloc o).cell? ⟨y,0,none⟩=some (.slice ar j cr))/\(∀ o o2,((w'.alloc o).alloc o2).cell? ⟨y,0,none⟩=some (.slice ar j cr)) /\
       ly w (W1.setCell ⟨y,0,none⟩ (.slice (some ⟨g',0,none⟩) (j+1) cap')) y k (j+1) 0 (.slice av k cv) ss (fun _=>0) (.slice (some ⟨g',0,none⟩) (j+1) cap') (.slice none 0 0)):=ae fun W hW=>by
      subst hW;have ua:=HN.out.below (ax _ _).drew;have hla:(dn k).length=k:=hfl;have hcall:=Bx (.slice av k cv) (dn k) wr.drew ua.all hne (by omega)
      rw[hla] at hcall;refine hcall.mono ?_
      rintro e V ⟨a',c',rfl,hm,bF⟩;have t_:=ua.below bF;have hm0:bd V (.slice a' k c') (dn k):=by
       unfold bd;rw[hla];exact obs hm (bl _)
      have hbe:=HN.out.be.size;obtain⟨g',cap',W1,ss,q1,q2,q3,q4⟩:=t_.bq hm0 (fun z e=>by have:wr.heap.size<=z:=(hm.lt z e).1;omega) (by omega)
      have cV:=au t_.blk 0;exact⟨a',c',rfl,g',cap',W1,ss,q1,q2,q3,cV,fun o=>aF ((ax _ V).alloc (aG _) o) cV,fun o o2=>aF ((ax _ _).alloc (aG _) o2) (aF ((ax _ V).alloc (aG _) o) cV),q4⟩
     clear hN;go_wp2_with fail;go_region_law (first
       | (rw[if_pos (by simp[Region.wanted])];go_simp;go_at_call 132;refine (HI.out _ rfl).mono ?_;rintro e V ⟨a',c',rfl,g',cap',W1,ss,hrun,q2,q3,q5,q6,q7,q4⟩;have yx:=ae q4;clear q4)
       | (refine jq rfl (.tmp 39) (.tmp 44) 115 rfl _ _ _ _ (by simp[Act.eval]) (by simp[Act.eval]) hrun ?_))
     all_goals (
      go_wp2_with fail;go_roundw
      case rel=>exact⟨j+1,by omega,by go_num,_,_,yx.out⟩
      case measure=>simp[intOf];omega)
    ·obtain rfl:j=k:=by omega
     clear hlt2;go_wp2_with fail;go_loopw [8] (fun i wr2=>∃ m:Nat,m<=3/\i=.int .i64 m/\∃ ba va,ly w wr2 y j j m (.slice av j cv) br ba (.slice ar j cr) va) (fun i _=>3-(intOf i).toNat)
     case atStart=>exact⟨0,bl _,rfl,_,_,HN.out⟩
     case round =>
      clear r3 y0 HN hN;obtain⟨m,jB,rfl,ba,va,hN⟩:=hrel;obtain⟨aa,ca,hva⟩:=aM hN.ra;subst hva;have y0:=au hN.blk 1;have HN:=ae hN;by_cases hlt3:m<3
      ·have hj1:(m:Int)<3:=by omega
       have HI:Hid (∀ W,W=wr.drew->Calls prog 132 #[.slice av j cv] W fun e w'=>∃ a' c',e=.returned (.slice a' j c')/\∃ g' cap' W1 ba',(∀ ty,(Builtin.append_ #[116,116] ty #[.slice aa m ca,.slice (some ⟨w'.heap.size+1,0,none⟩) 1 1]).run prog ((w'.alloc (.cells #[.bool true,(),.slice a' j c',true] 203)).alloc (.cells #[w'.heap.size] 200))=.ok (.slice (some ⟨g',0,none⟩) (m+1) cap') W1)/\W1.cell? ⟨y,1,none⟩=some (.slice aa m ca)/\W1.frozen? ⟨y,1,none⟩=false/\w'.cell? ⟨y,1,none⟩=some (.slice aa m ca)/\(∀ o,(w'.alloc o).cell? ⟨y,1,none⟩=some (.slice aa m ca))/\(∀ o o2,((w'.alloc o).alloc o2).cell? ⟨y,1,none⟩=some (.slice aa m ca)) /\
         ly w (W1.setCell ⟨y,1,none⟩ (.slice (some ⟨g',0,none⟩) (m+1) cap')) y j j (m+1) (.slice av j cv) br ba' (.slice ar j cr) (.slice (some ⟨g',0,none⟩) (m+1) cap')):=ae fun W hW=>by
        subst hW;have ua:=HN.out.below (ax _ _).drew;have hla:(dn j).length=j:=hfl;have hcall:=Bx (.slice av j cv) (dn j) wr.drew ua.all hne (by omega)
        rw[hla] at hcall;refine hcall.mono ?_
        rintro e V ⟨a',c',rfl,hm,bF⟩;have t_:=ua.below bF;have hm0:bd V (.slice a' j c') (dn j):=by
         unfold bd;rw[hla];exact obs hm (bl _)
        have hbe:=HN.out.be.size;obtain⟨g',cap',W1,ba',q1,q2,q3,q4⟩:=t_.acc hm0 (fun z e=>by have:wr.heap.size<=z:=(hm.lt z e).1;omega) (by omega)
        have cV:=au t_.blk 1;exact⟨a',c',rfl,g',cap',W1,ba',q1,q2,q3,cV,fun o=>aF ((ax _ V).alloc (aG _) o) cV,fun o o2=>aF ((ax _ _).alloc (aG _) o2) (aF ((ax _ V).alloc (aG _) o) cV),q4⟩
       clear hN;go_wp2_with fail;go_region_law (first
         | (rw[if_pos (by simp[Region.wanted])];go_simp;go_at_call 132;refine (HI.out _ rfl).mono ?_;rintro e V ⟨a',c',rfl,g',cap',W1,ba',hrun,q2,q3,q5,q6,q7,q4⟩;have yx:=ae q4;clear q4)
         | (refine jq rfl (.tmp 56) (.tmp 61) 116 rfl _ _ _ _ (by simp[Act.eval]) (by simp[Act.eval]) hrun ?_))
       all_goals (
        go_wp2_with fail;go_roundw
        case rel=>exact⟨m+1,by omega,by go_num,_,_,yx.out⟩
        case measure=>simp[intOf];omega)
      ·obtain rfl:m=3:=by omega
       obtain⟨i0,hi,hz0,hz1,hz2⟩:=info_parts O7;have y2:=au hN.blk 2;have hyl:y<wr.heap.size:=(aQ hN.blk);have Wd:¬ y=wr.heap.size:=by omega
       have We:¬ wr.heap.size=y:=by omega
       clear hN y0;go_wp2_with (at_builtin;refine wpList_append_own _ rfl _ _ 117 rfl wr.heap.size 204 i0 _ 1 8 underlying117 hi hz0 hz1 hz2 rfl (by decide) (.slice none 0 0) 0 [] rfl (bE _ _ _ _) ⟨wr.heap.size+1+1,0,none⟩ 2 2 [.pointer (some wr.heap.size),.pointer (some ⟨wr.heap.size+1,0,none⟩)] rfl rfl ?_ (by intro u hu;simp at hu;rcases hu with rfl|rfl<;>rfl) (by unfold maxLen;omega) (by omega) (by simp;omega) ?_)
       ·intro i u hu
        have:=hnw ((wr.alloc (.cells #[.bool true,(),(),(),(),true,true,true,true,true] 206)).alloc (.cells #[.bool true,(),(),(),(),true,true,true,true,true] 206)) (.cells #[wr.heap.size,.pointer (some ⟨wr.heap.size+1,0,none⟩)] 204);rw[eJ,eJ] at this;exact World.news_of_block this i u hu
       ·intro v' w' ho hg _
        obtain⟨am,cm,dG⟩:=aM ho;subst dG;have hbW:ai wr w':=((((Moved.refl wr (fun _=>False)).alloc _).alloc _).alloc _ |>.grown hg (fun z _ e=>by simp[Value.ownBlock] at e)).jg (fun _ e=>e.elim) (aG _)
        have Cv:Hid (w'.heap[wr.heap.size]?=some (.cells (oI true 0) 206)/\w'.heap[wr.heap.size+1]?=some (.cells (oI true 0) 206)):=ae (by
         have key:∀ (A R:Obj) (U:World),(((wr.alloc A).alloc A).alloc R).grownBy U none->U.heap[wr.heap.size]?=some A/\U.heap[wr.heap.size+1]?=some A:=fun A R U hU=>by
          have b1:(wr.alloc A).heap[wr.heap.size]?=some A:=hnw _ _;have b2:((wr.alloc A).alloc A).heap[wr.heap.size]?=some A:=(((ax _ (wr.alloc A)).alloc (aG _) A).block _ (by simp)).trans b1
          have b3:((wr.alloc A).alloc A).heap[wr.heap.size+1]?=some A:=by
           have:=hnw (wr.alloc A) A;rw[eJ] at this;exact this
          have hb:=(ax _ ((wr.alloc A).alloc A)).alloc (aG _) R;exact⟨(hU.block _ (by simp;omega) (by simp)).trans ((hb.block _ (by simp;omega)).trans b2),(hU.block _ (by simp) (by simp)).trans ((hb.block _ (by simp)).trans b3)⟩
         exact key _ _ w' hg)
        have iJ:=HN.out.below hbW;have e2:=au iJ.blk 2;have f2:=aW iJ.blk 2;have hbl:(w'.setCell ⟨y,2,none⟩ (.slice am 2 cm)).heap[y]?=some (.cells #[.slice ar j cr,.slice aa 3 ca,.slice am 2 cm,true,true] 120):=bV _ _ _ _ _ _ iJ.blk;have hfin:cK (w'.setCell ⟨y,2,none⟩ (.slice am 2 cm)) (Fr w (w'.setCell ⟨y,2,none⟩ (.slice am 2 cm))) y (aq.first j):=by
         have bI:Moved w' (w'.setCell ⟨y,2,none⟩ (.slice am 2 cm)) (fun z=>z=y):=(Moved.refl w' (fun z=>z=y)).setCell ⟨y,2,none⟩ rfl _;have hkeep:∀ {base size n:Nat} {e:TypeId} {v:Value} {xs:List Value},w'.ownsRow base e size v n xs->e≠120->(w'.setCell ⟨y,2,none⟩ (.slice am 2 cm)).ownsRow base e size v n xs:=fun ho h1=>bI.owns ho fun z hz e=>aY iJ.blk ho h1 (e ▸ hz);have hblk2:∀ {b:Nat} {cs:Array Value} {t:TypeId},w'.heap[b]?=some (.cells cs t)->t≠120->(w'.setCell ⟨y,2,none⟩ (.slice am 2 cm)).heap[b]?=some (.cells cs t):=fun {b cs t} e h1=>by
          refine (bI.block b (aQ e) fun q => ?_).trans e
          rw[q,iJ.blk] at e;injection e with e
          injection e with e1 e2
          exact h1 e2.symm
         have own:∀ {base size n:Nat} {e:TypeId} {v:Value} {xs:List Value},w'.ownsRow base e size v n xs->(∀ z,v.ownBlock=some z->w.heap.size<=z)->∀ z,v.ownBlock=some z->Fr w (w'.setCell ⟨y,2,none⟩ (.slice am 2 cm)) z:=fun ho h1 z hz=>⟨h1 z hz,by
          have:=(dL.1 (bK ho hz).choose_spec.1).1;exact j5 this bI.size⟩
         have hrl:(aq.first j).aD.length=j:=by simp[aq.first]
         have hm0:w'.heap[wr.heap.size]?=some (.cells (oI true 0) 206):=Cv.out.1;have hm1:w'.heap[wr.heap.size+1]?=some (.cells (oI true 0) 206):=Cv.out.2;have hwr:w.heap.size<=wr.heap.size:=HN.out.be.size;have hwr2:wr.heap.size+1<w'.heap.size:=(aQ hm1);have hmo:w'.ownsRow 0 204 1 (.slice am 2 cm) 2 (ec (fun i=>wr.heap.size+i) 0 2):=obs ho (bl _);refine⟨br,ba,fun i=>wr.heap.size+i,.slice ar j cr,.slice aa 3 ca,.slice am 2 cm,.slice none 0 0,.slice none 0 0,fun _=>.slice none 0 0,fun _=>.slice none 0 0,⟨hbl, ?_,hkeep iJ.ra (by decide),hkeep hmo (by decide),fun i hi => ?_,fun i hi => ?_,fun i hi => ?_,bE _ _ _ _,bE _ _ _ _, ?_,fun z hz=>hz.2,⟨by simp[aq.first],by simp[aq.first]⟩, ?_,iJ.kZ,fun i j _ _ e=>by omega,fun _ _ k _ _ e=>absurd e eQ,fun _ _ k _ _ e=>absurd e eQ⟩⟩
         ·rw[hrl]
          exact hkeep iJ.rr (by decide)
         ·rw[hrl] at hi
          rw[DY (by omega) (by omega)]
          exact (iJ.aD i hi).later bI.size (fun ho e=>hkeep ho (by rcases e with e|e<;>(rw[e];decide))) (fun _ e=>hblk2 e (by decide))
         ·rw[DW (by unfold dC;omega)]
          exact (iJ.di i hi).later bI.size (fun ho e=>hkeep ho (by rcases e with e|e<;>(rw[e];decide))) (fun _ e=>hblk2 e (by decide))
         ·rw[wq (by unfold b8;omega)]
          refine ea.still (hblk2 (?_:w'.heap[wr.heap.size+i]?=some (.cells (oI true 0) 206)) (by decide)) ⟨by omega,by have:=bI.size;omega⟩
          have:i=0\/i=1:=by omega
          rcases this with rfl|rfl
          ·exact hm0
          ·exact hm1
         ·intro z hz
          rcases hz with e|e|e|e|e|e
          ·rw[e]
           exact⟨iJ.new.1,j5 (aQ iJ.blk) bI.size⟩
          ·exact own iJ.rr iJ.new.2.1 z e
          ·exact own iJ.ra iJ.new.2.2.1 z e
          ·exact absurd e eQ
          ·exact absurd e eQ
          ·exact own hmo (fun z e=>by have:=(ho.lt z e).1;omega) z e
         ·intro i j hi hj e
          rw[hrl] at hi hj;exact iJ.k_ i j hi hj e
        have hbe:ai w (w'.setCell ⟨y,2,none⟩ (.slice am 2 cm)):=iJ.be.trans (((Moved.refl w' (fun z=>z=y)).setCell ⟨y,2,none⟩ rfl _).jg (fun z e=>by rw[e];exact iJ.new.1) iJ.be.size)
        have HF:=ae (aP hfin hbe);clear hfin hbe hbl iJ hbW ho hg;go_wp2_with fail;go_ret2;exact⟨y,_,rfl,HF.out.1,fun z hz=>hz.1,HF.out.2⟩
def Gr (F:Nat->Prop)(w w':World)(k:Nat):Prop:=F k\/(w.heap.size<=k/\k<w'.heap.size)
theorem Gr.old {F:Nat->Prop}{w w':World}{k:Nat}(h:F k):Gr F w w' k:=.inl h
theorem bA.new {F:Nat->Prop}{w w':World}{base size n:Nat}{e:TypeId}{v:Value}{xs:List Value}(h:w'.ownsRow base e size v n xs)(hb:w.heap.size<=base):bA (Gr F w w') v:=fun k hk =>
 .inr ⟨bP hb (h.lt k hk).1,(dL.1 (bK h hk).choose_spec.1).1⟩
theorem Tc (c:aq)(i j:Nat)(hi:i<c.aD.length)(r:aR):(c.fJ i r).bq j=if j=i then r else c.bq j:=by
 unfold aq.fJ aq.bq;simp only [Int.toNat_natCast];rw[ew,ew,List.getElem?_set]
 by_cases e:i=j
 ·subst e
  simp[hi]
 ·rw[if_neg e,if_neg (fun q=>e q.symm)]
theorem JO (c:aq)(i j:Nat)(hi:i<c.di.length)(a:Acc):(c.iu (100+(i:Int)) a).acc (100+(j:Int))=if j=i then a else c.acc (100+(j:Int)):=by
 unfold aq.iu aq.acc;have e1:(100+(i:Int)-100).toNat=i:=by omega
 have e2:(100+(j:Int)-100).toNat=j:=by omega
 rw[e1,e2,ew,ew,List.getElem?_set]
 by_cases e:i=j
 ·subst e
  simp[hi]
 ·rw[if_neg e,if_neg (fun q=>e q.symm)]
theorem FN (c:aq)(i j:Nat)(hi:i<c.dH.length)(s:aN):(c.ej (200+(i:Int)) s).aX (200+(j:Int))=if j=i then s else c.aX (200+(j:Int)):=by
 unfold aq.ej aq.aX;have e1:(200+(i:Int)-200).toNat=i:=by omega
 have e2:(200+(j:Int)-200).toNat=j:=by omega
 rw[e1,e2,ew,ew,List.getElem?_set]
 by_cases e:i=j
 ·subst e
  simp[hi]
 ·rw[if_neg e,if_neg (fun q=>e q.symm)]
section
variable {w w':World} {F F':Nat->Prop} {y:Nat} {c:aq} {br ba bm:Nat->Nat} {vr va vm vb vt:Value} {vv vc:Nat->Value}
theorem dW.Tk (h:dW w F y c br ba bm vr va vm vb vt vv vc)(i:Nat)(hi:i<c.aD.length)(r:aR)(hM:Moved w w' (fun k=>k=br i))(hF:∀ k,F k->F' k)(hlt:∀ k,F' k->k<w'.heap.size)(hr:oT w' F' (br i) r) :
  dW w' F' y (c.fJ i r) br ba bm vr va vm vb vt vv vc:=by
 have hT:rN w (fun k=>k=br i) [199]:=fun k hk _=>by
  obtain⟨_,_,q,_⟩:=h.aD i hi;exact⟨_,_,hk ▸ q,dg.2 rfl⟩
 have hl:(c.fJ i r).aD.length=c.aD.length:=List.length_set;have row:∀ {base size n:Nat} {e:TypeId} {v:Value} {xs:List Value},w.ownsRow base e size v n xs->e≠199->w'.ownsRow base e size v n xs:=fun ho he=>hM.ve hT ho (fun q=>he (dg.1 q));have blk:∀ {b:Nat} {cs:Array Value} {t:TypeId},w.heap[b]?=some (.cells cs t)->t≠199->w'.heap[b]?=w.heap[b]?:=fun hb ht=>(hM.tJ hT hb (fun q=>ht (dg.1 q))).trans hb.symm;have lists:∀ {e:TypeId},e=3\/e=42->e≠199:=fun q=>by rcases q with q|q<;>(rw[q];decide)
 refine⟨(blk h.blk (by decide)).trans h.blk, ?_,row h.ra (by decide),row h.rm (by decide),fun j hj => ?_,fun j hj => ?_,fun j hj => ?_,row h.aE (by decide),row h.told (by decide),fun k hk=>hF k (h.ft k hk),hlt,h.sizes, ?_,h.kZ,h.qg,h.oG,h.oF⟩
 ·rw[hl]
  exact row h.rr (by decide)
 ·rw[hl] at hj
  rw[Tc c i j hi r];by_cases e:j=i
  ·subst e
   rw[if_pos rfl];exact hr
  ·rw[if_neg e]
   refine (h.aD j hj).keep hF ?_ (fun ho _ q=>row ho (lists q))
   obtain⟨_,_,q,_⟩:=h.aD j hj;exact hM.block _ (aQ q) (fun e2=>e (h.k_ j i hj hi e2))
 ·obtain⟨_,q,_,_,_,vs,q2,_⟩:=h.di j hj
  refine (h.di j hj).keep hF (blk q (by decide)) (fun ho _ e => ?_)
  rcases e with e|e|e
  ·exact row ho (lists (.inl e))
  ·exact row ho (lists (.inr e))
  ·subst e
   exact hM.owns ho fun k hk hS=>by
    obtain⟨_,_,q3,_⟩:=h.aD i hi;exact aY q3 q2 (by decide) (hS ▸ hk)
 ·obtain⟨_,_,_,_,q,_,_,_,ws,_,q2,_⟩:=h.dH j hj
  refine (h.dH j hj).keep hF (blk q (by decide)) (fun ho _ e => ?_)
  rcases e with e|e|e
  ·exact row ho (lists (.inl e))
  ·exact row ho (lists (.inr e))
  ·subst e
   exact hM.owns ho fun k hk hS=>by
    obtain⟨_,_,q3,_⟩:=h.aD i hi;exact aY q3 q2 (by decide) (hS ▸ hk)
 ·intro a b h1 h2
  rw[hl] at h1 h2;exact h.k_ a b h1 h2
theorem dW.CQ (h:dW w F y c br ba bm vr va vm vb vt vv vc)(i:Nat)(hi:i<3)(a:Acc)(v:Value)(hM:Moved w w' (fun k=>k=ba i\/(vv i).ownBlock=some k))(hF:∀ k,F k->F' k)(hlt:∀ k,F' k->k<w'.heap.size)(hr:jy w' F' (ba i) v a)(hv:∀ k,v.ownBlock=some k->(vv i).ownBlock=some k\/w.heap.size<=k) :
  dW w' F' y (c.iu (100+(i:Int)) a) br ba bm vr va vm vb vt (fun j=>if j=i then v else vv j) vc:=by
 obtain⟨_,qa,_,_,_,H0,qv,_⟩:=h.di i hi;have hT:rN w (fun k=>k=ba i\/(vv i).ownBlock=some k) [203,284]:=fun k hk _=>by
  rcases hk with e|e
  ·exact⟨_,_,e ▸ qa,fS ..⟩
  ·exact⟨_,_,(bK qv e).choose_spec.1,List.mem_cons_of_mem _ (fS ..)⟩
 have no:∀ {e:TypeId},e≠203->e≠284->e ∉ [203,284]:=fun h1 h2 q=>by
  rcases gK.1 q with q|q
  ·exact h1 q
  ·exact h2 (dg.1 q)
 have row:∀ {base size n:Nat} {e:TypeId} {v:Value} {xs:List Value},w.ownsRow base e size v n xs->e≠203->e≠284->w'.ownsRow base e size v n xs:=fun ho h1 h2=>hM.ve hT ho (no h1 h2);have blk:∀ {b:Nat} {cs:Array Value} {t:TypeId},w.heap[b]?=some (.cells cs t)->t≠203->t≠284->w'.heap[b]?=w.heap[b]?:=fun hb h1 h2=>(hM.tJ hT hb (no h1 h2)).trans hb.symm;have lists:∀ {e:TypeId},e=3\/e=42->e≠203/\e≠284:=fun q=>by rcases q with q|q<;>(rw[q];decide)
 refine⟨(blk h.blk (by decide) (by decide)).trans h.blk,row h.rr (by decide) (by decide),row h.ra (by decide) (by decide),row h.rm (by decide) (by decide),fun j hj => ?_,fun j hj => ?_,fun j hj => ?_,row h.aE (by decide) (by decide),row h.told (by decide) (by decide),fun k hk=>hF k (h.ft k hk),hlt,⟨?_,h.sizes.2⟩,h.k_,h.kZ,h.qg, ?_,h.oF⟩
 ·obtain⟨_,_,q,_⟩:=h.aD j hj
  exact (h.aD j hj).keep hF (blk q (by decide) (by decide)) (fun ho _ q=>row ho (lists q).1 (lists q).2)
 ·rw[JO c i j (by rw[h.sizes.1];exact hi) a]
  by_cases e:j=i
  ·subst e
   rw[if_pos rfl];simp only [if_true];exact hr
  ·rw[if_neg e]
   simp only [if_neg e];obtain⟨_,q,_,_,_,vs,q2,_⟩:=h.di j hj;have hb:w'.heap[ba j]?=w.heap[ba j]?:=hM.block _ (aQ q) (fun e2=>by
    rcases e2 with e2|e2
    ·exact e (h.kZ j i hj hi e2)
    ·exact aY q qv (by decide) e2)
   refine (h.di j hj).keep hF hb (fun ho _ q4 => ?_)
   rcases q4 with q4|q4|q4
   ·exact row ho (lists (.inl q4)).1 (lists (.inl q4)).2
   ·exact row ho (lists (.inr q4)).1 (lists (.inr q4)).2
   ·subst q4
    exact hM.owns ho fun k hk hS=>by
     rcases hS with e2|e2
     ·exact aY qa q2 (by decide) (e2 ▸ hk)
     ·exact e (h.oG j i k hj hi hk e2)
 ·obtain⟨_,_,_,_,q,_,_,_,ws,_,q2,_⟩:=h.dH j hj
  refine (h.dH j hj).keep hF (blk q (by decide) (by decide)) (fun ho _ e => ?_)
  rcases e with e|e|e
  ·exact row ho (lists (.inl e)).1 (lists (.inl e)).2
  ·exact row ho (lists (.inr e)).1 (lists (.inr e)).2
  ·subst e
   exact hM.owns ho fun k hk hS=>by
    rcases hS with e2|e2
    ·exact aY qa q2 (by decide) (e2 ▸ hk)
    ·exact bM q2 qv (by decide) k hk e2
 ·rw[<- h.sizes.1]
  exact List.length_set
 ·intro a b k h1 h2 h3 h4
  have old:∀ j,j<3->(vv j).ownBlock=some k->k<w.heap.size:=fun j hj e=>by
   obtain⟨_,_,_,_,_,_,q2,_⟩:=h.di j hj;exact (dL.1 (bK q2 e).choose_spec.1).1
  by_cases e1:a=i
  ·by_cases e2:b=i
   ·omega
   ·simp only [if_pos e1,if_neg e2] at h3 h4
    rcases hv k h3 with q|q
    ·rw[e1]
     exact h.oG i b k hi h2 q h4
    ·have:=old b h2 h4
     omega
  ·by_cases e2:b=i
   ·simp only [if_neg e1,if_pos e2] at h3 h4
    rcases hv k h4 with q|q
    ·rw[e2]
     exact h.oG a i k h1 hi h3 q
    ·have:=old a h1 h3
     omega
   ·simp only [if_neg e1,if_neg e2] at h3 h4
    exact h.oG a b k h1 h2 h3 h4
theorem dW.QM (h:dW w F y c br ba bm vr va vm vb vt vv vc)(i:Nat)(hi:i<2)(s:aN)(v:Value)(hM:Moved w w' (fun k=>k=bm i\/(vc i).ownBlock=some k))(hF:∀ k,F k->F' k)(hlt:∀ k,F' k->k<w'.heap.size)(hr:ea w' F' (bm i) v s)(hv:∀ k,v.ownBlock=some k->(vc i).ownBlock=some k\/w.heap.size<=k) :
  dW w' F' y (c.ej (200+(i:Int)) s) br ba bm vr va vm vb vt vv (fun j=>if j=i then v else vc j):=by
 obtain⟨_,_,_,_,qa,_,_,_,Ww,_,qv,_⟩:=h.dH i hi;have hT:rN w (fun k=>k=bm i\/(vc i).ownBlock=some k) [206,134]:=fun k hk _=>by
  rcases hk with e|e
  ·exact⟨_,_,e ▸ qa,fS ..⟩
  ·exact⟨_,_,(bK qv e).choose_spec.1,List.mem_cons_of_mem _ (fS ..)⟩
 have no:∀ {e:TypeId},e≠206->e≠134->e ∉ [206,134]:=fun h1 h2 q=>by
  rcases gK.1 q with q|q
  ·exact h1 q
  ·exact h2 (dg.1 q)
 have row:∀ {base size n:Nat} {e:TypeId} {v:Value} {xs:List Value},w.ownsRow base e size v n xs->e≠206->e≠134->w'.ownsRow base e size v n xs:=fun ho h1 h2=>hM.ve hT ho (no h1 h2);have blk:∀ {b:Nat} {cs:Array Value} {t:TypeId},w.heap[b]?=some (.cells cs t)->t≠206->t≠134->w'.heap[b]?=w.heap[b]?:=fun hb h1 h2=>(hM.tJ hT hb (no h1 h2)).trans hb.symm;have lists:∀ {e:TypeId},e=3\/e=42->e≠206/\e≠134:=fun q=>by rcases q with q|q<;>(rw[q];decide)
 refine⟨(blk h.blk (by decide) (by decide)).trans h.blk,row h.rr (by decide) (by decide),row h.ra (by decide) (by decide),row h.rm (by decide) (by decide),fun j hj => ?_,fun j hj => ?_,fun j hj => ?_,row h.aE (by decide) (by decide),row h.told (by decide) (by decide),fun k hk=>hF k (h.ft k hk),hlt,⟨h.sizes.1, ?_⟩,h.k_,h.kZ,h.qg,h.oG, ?_⟩
 ·obtain⟨_,_,q,_⟩:=h.aD j hj
  exact (h.aD j hj).keep hF (blk q (by decide) (by decide)) (fun ho _ q=>row ho (lists q).1 (lists q).2)
 ·obtain⟨_,q,_,_,_,vs,q2,_⟩:=h.di j hj
  refine (h.di j hj).keep hF (blk q (by decide) (by decide)) (fun ho _ e => ?_)
  rcases e with e|e|e
  ·exact row ho (lists (.inl e)).1 (lists (.inl e)).2
  ·exact row ho (lists (.inr e)).1 (lists (.inr e)).2
  ·subst e
   exact hM.owns ho fun k hk hS=>by
    rcases hS with e2|e2
    ·exact aY qa q2 (by decide) (e2 ▸ hk)
    ·exact bM q2 qv (by decide) k hk e2
 ·rw[FN c i j (by rw[h.sizes.2];exact hi) s]
  by_cases e:j=i
  ·subst e
   rw[if_pos rfl];simp only [if_true];exact hr
  ·rw[if_neg e]
   simp only [if_neg e];obtain⟨_,_,_,_,q,_,_,_,ws,_,q2,_⟩:=h.dH j hj;have hb:w'.heap[bm j]?=w.heap[bm j]?:=hM.block _ (aQ q) (fun e2=>by
    rcases e2 with e2|e2
    ·exact e (h.qg j i hj hi e2)
    ·exact aY q qv (by decide) e2)
   refine (h.dH j hj).keep hF hb (fun ho _ q4 => ?_)
   rcases q4 with q4|q4|q4
   ·exact row ho (lists (.inl q4)).1 (lists (.inl q4)).2
   ·exact row ho (lists (.inr q4)).1 (lists (.inr q4)).2
   ·subst q4
    exact hM.owns ho fun k hk hS=>by
     rcases hS with e2|e2
     ·exact aY qa q2 (by decide) (e2 ▸ hk)
     ·exact e (h.oF j i k hj hi hk e2)
 ·rw[<- h.sizes.2]
  exact List.length_set
 ·intro a b k h1 h2 h3 h4
  have old:∀ j,j<2->(vc j).ownBlock=some k->k<w.heap.size:=fun j hj e=>by
   obtain⟨_,_,_,_,_,_,_,_,_,_,q2,_⟩:=h.dH j hj;exact (dL.1 (bK q2 e).choose_spec.1).1
  by_cases e1:a=i
  ·by_cases e2:b=i
   ·omega
   ·simp only [if_pos e1,if_neg e2] at h3 h4
    rcases hv k h3 with q|q
    ·rw[e1]
     exact h.oF i b k hi h2 q h4
    ·have:=old b h2 h4
     omega
  ·by_cases e2:b=i
   ·simp only [if_neg e1,if_pos e2] at h3 h4
    rcases hv k h4 with q|q
    ·rw[e2]
     exact h.oF a i k h1 hi h3 q
    ·have:=old a h1 h3
     omega
   ·simp only [if_neg e1,if_neg e2] at h3 h4
    exact h.oF a b k h1 h2 h3 h4
theorem dW.Be (h:dW w F y c br ba bm vr va vm vb vt vv vc)(yW:List (List UInt8 × Bool))(told':List fY)(iT nZ:Value)(hM:Moved w w' (fun k=>k=y\/vb.ownBlock=some k\/vt.ownBlock=some k))(hF:∀ k,F k->F' k)(hlt:∀ k,F' k->k<w'.heap.size)
  (hy:w'.heap[y]?=some (.cells #[vr,va,vm,iT,nZ] 120)) (hb:w'.ownsRow 0 214 2 iT yW.length (de yW)) (ht:w'.ownsRow 0 113 3 nZ told'.length (aJ (dj told'))) (hb2:bA F' iT) (ht2:bA F' nZ) :
  dW w' F' y { c with aE:=yW,told:=told' } br ba bm vr va vm iT nZ vv vc:=by
 have hT:rN w (fun k=>k=y\/vb.ownBlock=some k\/vt.ownBlock=some k) [120,214,113]:=fun k hk _=>by
  rcases hk with e|e|e
  ·exact⟨_,_,e ▸ h.blk,by simp⟩
  ·exact⟨_,_,(bK h.aE e).choose_spec.1,by simp⟩
  ·exact⟨_,_,(bK h.told e).choose_spec.1,by simp⟩
 have row:∀ {base size n:Nat} {e:TypeId} {v:Value} {xs:List Value},w.ownsRow base e size v n xs->e ∉ [120,214,113]->w'.ownsRow base e size v n xs:=fun ho he=>hM.ve hT ho he;have blk:∀ {b:Nat} {cs:Array Value} {t:TypeId},w.heap[b]?=some (.cells cs t)->t ∉ [120,214,113]->w'.heap[b]?=w.heap[b]?:=fun hb ht=>(hM.tJ hT hb ht).trans hb.symm;have lists:∀ {e:TypeId},e=3\/e=42->e ∉ [120,214,113]:=fun q=>by rcases q with q|q<;>(rw[q];decide)
 refine⟨hy,row h.rr (by decide),row h.ra (by decide),row h.rm (by decide),fun j hj => ?_,fun j hj => ?_,fun j hj => ?_,hb,ht,fun k hk => ?_,hlt,h.sizes,h.k_,h.kZ,h.qg,h.oG,h.oF⟩
 ·obtain⟨_,_,q,_⟩:=h.aD j hj
  exact (h.aD j hj).keep hF (blk q (by decide)) (fun ho _ q=>row ho (lists q))
 ·obtain⟨_,q,_,_,_,vs,q2,_⟩:=h.di j hj
  refine (h.di j hj).keep hF (blk q (by decide)) (fun ho _ e => ?_)
  rcases e with e|e|e
  ·exact row ho (lists (.inl e))
  ·exact row ho (lists (.inr e))
  ·subst e
   exact hM.owns ho fun k hk hS=>by
    rcases hS with e2|e2|e2
    ·exact aY h.blk q2 (by decide) (e2 ▸ hk)
    ·exact bM q2 h.aE (by decide) k hk e2
    ·exact bM q2 h.told (by decide) k hk e2
 ·obtain⟨_,_,_,_,q,_,_,_,ws,_,q2,_⟩:=h.dH j hj
  refine (h.dH j hj).keep hF (blk q (by decide)) (fun ho _ e => ?_)
  rcases e with e|e|e
  ·exact row ho (lists (.inl e))
  ·exact row ho (lists (.inr e))
  ·subst e
   exact hM.owns ho fun k hk hS=>by
    rcases hS with e2|e2|e2
    ·exact aY h.blk q2 (by decide) (e2 ▸ hk)
    ·exact bM q2 h.aE (by decide) k hk e2
    ·exact bM q2 h.told (by decide) k hk e2
 ·rcases hk with e|e|e|e|e|e
  ·exact hF k (h.ft k (.inl e))
  ·exact hF k (h.ft k (.inr (.inl e)))
  ·exact hF k (h.ft k (.inr (.inr (.inl e))))
  ·exact hb2 k e
  ·exact ht2 k e
  ·exact hF k (h.ft k (.inr (.inr (.inr (.inr (.inr e))))))
theorem dW.wider (h:dW w F y c br ba bm vr va vm vb vt vv vc)(hF:∀ k,F k->F' k)(hlt:∀ k,F' k->k<w.heap.size):dW w F' y c br ba bm vr va vm vb vt vv vc :=
 {h with
  aD:=fun i hi=>(h.aD i hi).keep hF rfl (fun ho _ _=>ho)
  di:=fun i hi=>(h.di i hi).keep hF rfl (fun ho _ _=>ho)
  dH:=fun i hi=>(h.dH i hi).keep hF rfl (fun ho _ _=>ho)
  ft:=fun k hk=>hF k (h.ft k hk)
  lt:=hlt }
end
theorem cK.wider {w:World}{F F':Nat->Prop}{y:Nat}{c:aq}(h:cK w F y c)(hF:∀ k,F k->F' k)(hlt:∀ k,F' k->k<w.heap.size):cK w F' y c:=by
 obtain⟨br,ba,bm,vr,va,vm,vb,vt,vv,vc,h⟩:=h;exact⟨br,ba,bm,vr,va,vm,vb,vt,vv,vc,h.wider hF hlt⟩
def bH (w:World)(F:Nat->Prop)(y:Nat)(c':aq)(w':World):Prop:=cK w' (Gr F w w') y c'/\Moved w w' F
theorem cK.below {w w':World}{F:Nat->Prop}{y:Nat}{c:aq}(h:cK w F y c)(hb:ai w w'):cK w' F y c:=h.keep fun k hk=>hb.block k (h.lt' hk)
theorem Gr.lt {F:Nat->Prop}{w w':World}(hF:∀ k,F k->k<w.heap.size)(hs:w.heap.size<=w'.heap.size):∀ k,Gr F w w' k->k<w'.heap.size:=fun k hk=>by
 rcases hk with e|e
 ·have:=hF k e
  omega
 ·exact e.2
theorem bH.still {w w':World}{F:Nat->Prop}{y:Nat}{c:aq}(h:cK w F y c)(hb:ai w w'):bH w F y c w' :=
 ⟨(h.below hb).wider (fun _ e=>.inl e) (Gr.lt (fun _ e=>h.lt' e) hb.size),(Moved.refl w F).below hb⟩
theorem bH.trans {w w1 w2:World}{F:Nat->Prop}{y:Nat}{c2:aq}(hF:∀ k,F k->k<w.heap.size)(hM:Moved w w1 F)(h2:bH w1 (Gr F w w1) y c2 w2):bH w F y c2 w2:=by
 have s1:=hM.size;have s2:=h2.2.size;refine⟨h2.1.wider (fun k e => ?_) (Gr.lt hF (by omega)),hM.trans h2.2 (fun k hk e => ?_)⟩
 ·rcases e with (e|e)|e
  ·exact .inl e
  ·exact .inr (by omega)
  ·exact .inr (by omega)
 ·rcases e with e|e
  ·exact e
  ·omega
theorem bH.before {w w1 w2:World}{F:Nat->Prop}{y:Nat}{c1 c2:aq}(h:cK w F y c1)(hb:ai w w1)(h2:bH w1 F y c2 w2):bH w F y c2 w2:=by
 have s1:=hb.size;have s2:=h2.2.size;refine⟨h2.1.wider (fun k e => ?_) (Gr.lt (fun _ e=>h.lt' e) (by omega)),((Moved.refl w F).below hb).trans h2.2 (fun _ _ e=>e)⟩
 rcases e with e|e
 ·exact .inl e
 ·exact .inr (by omega)
end Go.Proofs.YtgieeeeeiggoeaaGreat
namespace Go.Proofs.YtgieeeeeiggoeaaGreat
open Go.RowKit Go.Shelf
open Tryz
section
variable {w:World} {F:Nat->Prop} {y:Nat} {c:aq} {br ba bm:Nat->Nat} {vr va vm vb vt:Value} {vv vc:Nat->Value}
theorem dW.v_ (h:dW w F y c br ba bm vr va vm vb vt vv vc){i:Nat}(hi:i<c.aD.length) :
  ∃ g cap,vr=.slice (some ⟨g,0,none⟩) c.aD.length cap/\g<w.heap.size/\w.cell? ⟨g,i,none⟩=some (.pointer (some ⟨br i,0,none⟩)):=by
 obtain⟨g,cap,hv, -,hl⟩:=h.rr.form (by omega)
 have hc:=h.rr;rw[hv] at hc;refine⟨g,cap,hv,hl, ?_⟩
 have:=ev hc i (by omega)
 rw[qu br 0 c.aD.length i hi,fh] at this;exact this
theorem dW.yV (h:dW w F y c br ba bm vr va vm vb vt vv vc){i:Nat}(hi:i<3) :
  ∃ g cap,va=.slice (some ⟨g,0,none⟩) 3 cap/\g<w.heap.size/\w.cell? ⟨g,i,none⟩=some (.pointer (some ⟨ba i,0,none⟩)):=by
 obtain⟨g,cap,hv, -,hl⟩:=h.ra.form (by omega)
 have hc:=h.ra;rw[hv] at hc;refine⟨g,cap,hv,hl, ?_⟩
 have:=ev hc i (by omega)
 rw[qu ba 0 3 i hi,fh] at this;exact this
theorem dW.tE (h:dW w F y c br ba bm vr va vm vb vt vv vc){i:Nat}(hi:i<2) :
  ∃ g cap,vm=.slice (some ⟨g,0,none⟩) 2 cap/\g<w.heap.size/\w.cell? ⟨g,i,none⟩=some (.pointer (some ⟨bm i,0,none⟩)):=by
 obtain⟨g,cap,hv, -,hl⟩:=h.rm.form (by omega)
 have hc:=h.rm;rw[hv] at hc;refine⟨g,cap,hv,hl, ?_⟩
 have:=ev hc i (by omega)
 rw[qu bm 0 2 i hi,fh] at this;exact this
end
inductive Who (c:aq)(d:Int):Prop
 | bq (i:Nat) (hi:i<c.aD.length) (hd:d=(i:Int)) (hk:cE c.aD.length d=(1,(i:Int))) (hu:c.cO d=some (c.bq i).up)
 | acc (i:Nat) (hi:i<3) (hd:d=100+(i:Int)) (hk:cE c.aD.length d=(2,(i:Int))) (hu:c.cO d=some (c.acc (100+(i:Int))).up)
 | aX (i:Nat) (hi:i<2) (hd:d=200+(i:Int)) (hk:cE c.aD.length d=(3,(i:Int))) (hu:c.cO d=some (c.aX (200+(i:Int))).up)
 | no (hk:cE c.aD.length d=(0,0)) (hu:c.cO d=none)
theorem who (c:aq)(d:Int)(_hn:c.aD.length<=5):Who c d:=by
 by_cases h1:c.cN d
 ·have h1a:=h1.1
  have h1b:=h1.2;obtain⟨i,rfl⟩:∃ i:Nat,d=(i:Int):=⟨d.toNat,by omega⟩
  exact .bq i (by omega) rfl (by unfold cE;rw[if_pos ⟨by omega,by omega⟩]) (by unfold aq.cO;rw[if_pos h1])
 ·by_cases h2:dC d
  ·have VF:=h2.1
   have VG:=h2.2;obtain⟨i,rfl⟩:∃ i:Nat,d=100+(i:Int):=⟨(d-100).toNat,by omega⟩
   exact .acc i (by omega) rfl (by unfold cE;rw[if_neg (fun e=>h1 ⟨e.1,e.2⟩),if_pos ⟨by omega,by omega⟩];simp;omega) (by unfold aq.cO;rw[if_neg h1,if_pos h2])
  ·by_cases h3:b8 d
   ·have VH:=h3.1
    have VI:=h3.2;obtain⟨i,rfl⟩:∃ i:Nat,d=200+(i:Int):=⟨(d-200).toNat,by omega⟩
    exact .aX i (by omega) rfl (by unfold cE;rw[if_neg (fun e=>h1 ⟨e.1,e.2⟩),if_neg (fun e=>h2 ⟨e.1,e.2⟩),if_pos (by omega)];simp;omega) (by unfold aq.cO;rw[if_neg h1,if_neg h2,if_pos h3])
   ·exact .no (by unfold cE;rw[if_neg (fun e=>h1 ⟨e.1,e.2⟩),if_neg (fun e=>h2 ⟨e.1,e.2⟩),if_neg (fun e=>h3 (by unfold b8;omega))]) (by unfold aq.cO;rw[if_neg h1,if_neg h2,if_neg h3])
theorem sW {w:World}{F:Nat->Prop}{y:Nat}{c:aq}(d:Int)(h:cK w F y c)(hn:c.aD.length<=5)(hi : -9223372036854775808<=d/\d<=9223372036854775807) :
  Calls prog 136 #[y,.int .i64 d] w fun e w'=>e=.returned (.tuple #[.bool ((c.cO d).getD false),.bool (c.cO d).isSome])/\∃ q,w'=w.drewN q:=by
 obtain⟨br,ba,bm,vr,va,vm,vb,vt,vv,vc,h⟩:=h;obtain⟨ar,cr,dp⟩:=aM h.rr;subst dp;have c0:=au h.blk 0;have c1:=au h.blk 1;have c2:=au h.blk 2;have HK:=ae (mB y c.aD.length _ cr d w c0 hn hi);rcases who c d hn with ⟨i,hil,rfl,hk,hu⟩|⟨i,hil,rfl,hk,hu⟩|⟨i,hil,rfl,hk,hu⟩|⟨hk,hu⟩
 ·rw[hk] at HK
  rw[hu];obtain⟨g,cap,hv,hgl,hcell⟩:=h.v_ hil;cases hv;obtain⟨_,_,hb,_⟩:=h.aD i hil;have r0:=au hb 0;have hi1:(i:Int)<(c.aD.length:Int):=by omega
  have hi0:(0:Int)<=(i:Int):=by omega
  clear h hb hk hu;generalize (c.bq i).up=u at *;go_enter func136,ntmps136;go_wp2_with fail;refine HK.out.mono ?_
  rintro e W ⟨rfl,rfl⟩;go_wp2_with fail;go_ret2;exact⟨rfl,0,rfl⟩
 ·rw[hk] at HK
  rw[hu];obtain⟨g,cap,hv,hgl,hcell⟩:=h.yV hil;subst hv;obtain⟨_,hb,_⟩:=h.di i hil;have r0:=au hb 0;have hi1:(i:Int)<3:=by omega
  have hi0:(0:Int)<=(i:Int):=by omega
  clear h hb hk hu;generalize (c.acc (100+(i:Int))).up=u at *;go_enter func136,ntmps136;go_wp2_with fail;refine HK.out.mono ?_
  rintro e W ⟨rfl,rfl⟩;go_wp2_with fail;go_ret2;exact⟨rfl,0,rfl⟩
 ·rw[hk] at HK
  rw[hu];obtain⟨g,cap,hv,hgl,hcell⟩:=h.tE hil;subst hv;obtain⟨_,_,_,_,hb,_⟩:=h.dH i hil;have r0:=au hb 0;have hi1:(i:Int)<2:=by omega
  have hi0:(0:Int)<=(i:Int):=by omega
  clear h hb hk hu;generalize (c.aX (200+(i:Int))).up=u at *;go_enter func136,ntmps136;go_wp2_with fail;refine HK.out.mono ?_
  rintro e W ⟨rfl,rfl⟩;go_wp2_with fail;go_ret2;exact⟨rfl,0,rfl⟩
 ·rw[hk] at HK
  rw[hu];clear h hk hu;go_enter func136,ntmps136;go_wp2_with fail;refine HK.out.mono ?_
  rintro e W ⟨rfl,rfl⟩;go_wp2_with fail;go_ret2;exact⟨rfl,0,rfl⟩
end Go.Proofs.YtgieeeeeiggoeaaGreat
namespace Go.Proofs.YtgieeeeeiggoeaaGreat
open Go.RowKit Go.Shelf
open Tryz
variable {cs:Array Value}{c c1 c2:aq}{ms:List aK}{vs:List iG}{b base g j y:Nat}{F:Nat->Prop}{r:aR}{T:TypeId}{a0 a1 a2 a3 a4 v vl vm:Value}{t u:iG}{V W w w' w1 w2:World}
theorem Fm : (prog.info? 214).map (fun i=>(i.zero,i.size,i.bytes))=some (some (.agg #[.string ⟨#[]⟩,.bool false]),2,24):=by kernel_rfl
theorem zt (l m:List (List UInt8 × Bool)):de (l++m)=de l++de m:=by unfold de;rw[List.flatMap_append]
theorem D4 (l:List (List UInt8 × Bool)):(de l).length=l.length*2:=by
 induction l with
 | nil=>rfl
 | cons a t ih =>
  have e:de (a :: t)=[Value.string (bs a.1),.bool a.2]++de t:=by simp[de]
  rw[e,bG,ih,eu];simp;omega
theorem MC (l:List (List UInt8 × Bool)):∀ u∈de l,u.oneCell'=true:=by
 intro u hu;unfold de at hu;rw[List.mem_flatMap] at hu;obtain⟨f,_,hf⟩:=hu;simp at hf;rcases hf with rfl|rfl<;>rfl
theorem zu (l:List (List UInt8 × Bool))(i:Nat)(f:List UInt8 × Bool)(hf:l[i]?=some f):(de l)[i*2]?=some (.string (bs f.1))/\(de l)[i*2+1]?=some (.bool f.2):=by
 induction l generalizing i with
 | nil=>simp at hf
 | cons a t ih =>
  have e:de (a :: t)=[Value.string (bs a.1),.bool a.2]++de t:=by simp[de]
  rw[e];cases i with
  | zero =>
   simp at hf;subst hf;exact⟨rfl,rfl⟩
  | succ i =>
   rw[kH (by simp;omega),kH (by simp;omega),show (i+1)*2 - [Value.string (bs a.1),Value.bool a.2].length=i*2 by simp;omega,show (i+1)*2+1 - [Value.string (bs a.1),Value.bool a.2].length=i*2+1 by simp;omega]
   exact ih i (by simpa using hf)
theorem D5 (l:List (List UInt8 × Bool))(i:Nat):de (l.take i)=(de l).take (i*2):=by
 induction l generalizing i with
 | nil=>simp[de]
 | cons a t ih =>
  have e:de (a :: t)=[Value.string (bs a.1),.bool a.2]++de t:=by simp[de]
  cases i with
  | zero=>simp[de]
  | succ i =>
   have e2:de ((a :: t).take (i+1))=[Value.string (bs a.1),.bool a.2]++de (t.take i):=by simp[de]
   rw[e,e2,ih,show (i+1)*2=i*2+1+1 by omega]
   rfl
theorem MB (l:List (List UInt8 × Bool))(i:Nat):de (l.drop i)=(de l).drop (i*2):=by
 have h1:de l=de (l.take i)++de (l.drop i):=by rw[<- zt,List.take_append_drop]
 have h2:=List.take_append_drop (i*2) (de l);rw[D5] at h1;exact (List.append_cancel_left (h2.trans h1)).symm
theorem GV (v:Value)(h:W.heap[g]?=some (.cells #[a0,a1,a2,a3,a4] T)):(W.setCell ⟨g,3,none⟩ v).heap[g]?=some (.cells #[a0,a1,a2,v,a4] T):=bV _ _ _ _ _ _ h
theorem Tz (v:Value)(h:W.heap[g]?=some (.cells #[a0,a1,a2,a3,a4] T)):(W.setCell ⟨g,4,none⟩ v).heap[g]?=some (.cells #[a0,a1,a2,a3,v] T):=bV _ _ _ _ _ _ h
theorem a_.off {wr:World}{vb vt:Value}(h:a_ w base v ms)(hM:Moved w wr (fun k=>k=y\/vb.ownBlock=some k\/vt.ownBlock=some k)){n1 n2:Nat}{x1 x2:List Value}(hy:w.heap[y]?=some (.cells cs 120))(hb:w.ownsRow 0 214 2 vb n1 x1)(ht:w.ownsRow 0 113 3 vt n2 x2):a_ wr base v ms:=by
 have hrow:∀ {base size n:Nat} {e:TypeId} {v:Value} {xs:List Value},w.ownsRow base e size v n xs->e≠214->e≠120->e≠113->wr.ownsRow base e size v n xs:=by
  intro base size n e v xs hv h1 h2 h3;refine hM.owns hv fun k hk hS => ?_
  rcases hS with e1|e1|e1
  ·exact aY hy hv h2 (e1 ▸ hk)
  ·exact bM hv hb h1 k hk e1
  ·exact bM hv ht h3 k hk e1
 obtain⟨ws,h1,h2,h3⟩:=h;exact⟨ws,h1,hrow h2 (by decide) (by decide) (by decide),fun t ht=>⟨hrow (h3 t ht).1 (by decide) (by decide) (by decide),hrow (h3 t ht).2 (by decide) (by decide) (by decide)⟩⟩
def eO (w:World)(F:Nat->Prop)(y:Nat)(c':aq)(w':World):Prop :=
 cK w' (Gr F w w') y c'/\Moved w w' F/\∀ base v ms,a_ w base v ms->a_ w' base v ms
theorem eO.still (h:cK w F y c)(hb:ai w w'):eO w F y c w' :=
 ⟨(bH.still h hb).1,(bH.still h hb).2,fun _ _ _ hm=>hm.below hb⟩
theorem eO.after (h:eO w F y c w'):bH w F y c w':=⟨h.1,h.2.1⟩
theorem eO.trans (hF:∀ k,F k->k<w.heap.size)(h1:eO w F y c1 w1)(h2:eO w1 (Gr F w w1) y c2 w2):eO w F y c2 w2 :=
 ⟨(bH.trans hF h1.2.1 h2.after).1,(bH.trans hF h1.2.1 h2.after).2,fun b v ms hm=>h2.2.2 b v ms (h1.2.2 b v ms hm)⟩
theorem eO.before (h:cK w F y c1)(hb:ai w w1)(h2:eO w1 F y c2 w2):eO w F y c2 w2 :=
 ⟨(bH.before h hb h2.after).1,(bH.before h hb h2.after).2,fun b v ms hm=>h2.2.2 b v ms (hm.below hb)⟩
theorem GH (f:List UInt8 × Bool)(h:cK w F y c)(hl:c.aE.length<=200) :
  Calls prog 142 #[y,.agg #[.string (bs f.1),.bool f.2]] w fun e w'=>(∃ v,e=.returned v)/\eO w F y { c with aE:=jE c.aE f } w':=by
 have HA:=ae h;obtain⟨br,ba,bm,vr,va,vm,vb,vt,vv,vc,h⟩:=h;obtain⟨ab,cb,rfl⟩:=aM h.aE;have c3:=au h.blk 3;have hyl:y<w.heap.size:=(aQ h.blk);have HP:Hid (jE c.aE f=if c.aE.length<200 then c.aE++[f] else c.aE):=ae rfl
 by_cases hlt:c.aE.length<200
 ·have HV:Hid (jE c.aE f=c.aE++[f]):=ae (by rw[HP.out,if_pos hlt])
  have hlt':(c.aE.length:Int)<200:=by omega
  obtain⟨B0,hB0,iz,jA⟩:=ch w #[.string (bs f.1),.bool f.2] 214;have k0:=au jA 0;have k1:=au jA 1;have hs0:B0.heap.size=w.heap.size+1:=by rw[<- hB0];simp
  obtain⟨X,hX⟩:∃ X,X=(B0.alloc (.cells #[.string (bs f.1),.bool f.2] 214)).drew:=⟨_,rfl⟩;have hbX:ai w X:=by rw[hX];exact iz.trans ((((ax _ B0).alloc (aG _) _).drew).mono iz.size)
  have qW:=h.keep (w':=X) fun k hk=>hbX.block k (h.lt k hk);have gJ:X.heap.size=w.heap.size+2:=by rw[hX];simp[hs0]
  have KQ:=aF iz c3;have z3:∀ o,(B0.alloc o).cell? (y,3)=some (.slice ab c.aE.length cb):=fun o=>aF ((ax _ B0).alloc (aG _) o) KQ;obtain⟨g',cap',W1,hrun,ho1,hg1,ek⟩:=oX (t:=118) Fm underlying118 rfl (by decide) X 0 (.slice ab c.aE.length cb) c.aE.length (de c.aE) [.string (bs f.1),.bool f.2] B0.heap.size qW.aE (by rw[hX];exact hnw _ _) rfl (by intro u hu;simp at hu;rcases hu with rfl|rfl<;>rfl) (by omega) (by decide) (bl _)
  have nb:(Value.slice ab c.aE.length cb).ownBlock≠some y:=aY h.blk h.aE (by decide)
  have fO:W1.heap[y]?=some (.cells #[vr,va,vm,.slice ab c.aE.length cb,vt] 120):=(hg1.block y (by omega) (fun e=>nb e.symm)).trans qW.blk
  have d3:=aj fO 3;have e3:=aW fO 3;have M1:Moved w W1 (fun k=>k=y\/(Value.slice ab c.aE.length cb).ownBlock=some k\/vt.ownBlock=some k):=((Moved.refl w _).below hbX).grown hg1 (fun k _ e=>.inr (.inl e));have HR:=ae hrun;rw[hX] at HR;have HF:Hid (eO w F y { c with aE:=c.aE++[f] } (W1.setCell ⟨y,3,none⟩ (.slice (some g') (c.aE.length+1) cap'))):=ae (by
   have M2:=M1.setCell ⟨y,3,none⟩ (.inl rfl) (.slice (some g') (c.aE.length+1) cap');have hr:=bu (a:=⟨y,3,none⟩) ho1 (aY fO ho1 (by decide)) (.slice (some g') (c.aE.length+1) cap')
   have hS:∀ k,k=y\/(Value.slice ab c.aE.length cb).ownBlock=some k\/vt.ownBlock=some k->F k:=fun k hk=>h.ft k (by
    rcases hk with e|e|e
    ·exact .inl e
    ·exact .inr (.inr (.inr (.inl e)))
    ·exact .inr (.inr (.inr (.inr (.inl e)))))
   have hs2:=M2.size;have hro:(W1.setCell ⟨y,3,none⟩ (.slice (some g') (c.aE.length+1) cap')).ownsRow 0 113 3 vt c.told.length (aJ (dj c.told)):=by
    refine bu (a:=⟨y,3,none⟩) (cG qW.told fun k e=>hg1.block k (dL.1 (bK qW.told e).choose_spec.1).1 (fun q=>bM qW.told qW.aE (by decide) k e q.symm)) ?_ _
    exact aY h.blk h.told (by decide)
   refine⟨⟨br,ba,bm,vr,va,vm,_,vt,vv,vc,h.Be (c.aE++[f]) c.told (.slice (some g') (c.aE.length+1) cap') vt M2 (fun k e=>.inl e) (Gr.lt h.lt hs2) (GV _ fO) ?_ hro ?_ ?_⟩,M2.wider hS,fun _ _ _ hm=>hm.off M2 h.blk h.aE h.told⟩
   ·rw[bG,zt]
    exact hr
   ·intro k hk
    have:g'=k:=by simpa [Value.ownBlock] using hk
    subst this;rcases ek with q|q
    ·exact .inl (h.ft _ (.inr (.inr (.inr (.inl q)))))
    ·refine .inr ⟨by omega, ?_⟩
     exact (dL.1 (bK hr (by rfl)).choose_spec.1).1
   ·exact fun k hk=>.inl (h.ft k (.inr (.inr (.inr (.inr (.inl hk)))))))
  have mixed:prog.follows Departure.mixedOrders=true:=by kernel_rfl
  clear hrun ho1 hg1 ek qW M1 h fO hX hbX gJ hs0 jA;go_enter func142,ntmps142;go_upto_region 2 with fail
  go_region_law (first|(refine jq rfl (.tmp 14) (.tmp 16) 118 rfl _ _ _ _ (by simp[Act.eval]) (by simp[Act.eval]) HR.out ?_))
  all_goals (
   go_wp2_with fail;go_end0;refine⟨⟨_,rfl⟩, ?_⟩
   rw[HV.out];exact HF.out)
 ·have HV:Hid (jE c.aE f=c.aE):=ae (by rw[HP.out,if_neg hlt])
  have hlt':¬ (c.aE.length:Int)<200:=by omega
  clear h;go_enter func142,ntmps142;go_wp2_with fail;go_end0;refine⟨⟨_,rfl⟩, ?_⟩
  rw[HV.out];exact eO.still HA.out ((ax _ _).alloc (aG _) _)
theorem xG (base:Nat)(v:Value)(ms:List aK)(h:cK w F y c)(hl:c.aE.length<=200)(hv:a_ w base v ms)(hok:∀ m∈ms,m.ok=true)(hmn:ms.length<=100000) :
  Calls prog 135 #[y,v] w fun e w'=>(∃ v,e=.returned v)/\eO w F y (c.send ms) w':=by
 obtain⟨am,cm,rfl⟩:=hv.shape;have HI:=ae h;have HM:=ae hv;have HP:Hid (∀ W F1 l1 f,cK W F1 y { c with aE:=l1 }->l1.length<=200->Calls prog 142 #[y,.agg #[.string (bs f),.bool false]] W fun e w'=>(∃ v,e=.returned v)/\eO W F1 y { c with aE:=jE l1 (f,false) } w'):=ae fun W F1 l1 f h1 h2=>GH (c:={ c with aE:=l1 }) (f,false) h1 h2
 have se:=ae hok;have jP:Hid (∀ k,F k->k<w.heap.size):=ae fun k e=>h.lt' e;clear h hv hok;go_enter func135,ntmps135;go_wp2_with fail;go_loopw [4] (fun i wr=>∃ k:Nat,k<=ms.length/\i=.int .i64 k/\eO w F y { c with aE:=iS c.aE (ms.take k) } wr) (fun i _=>ms.length-(intOf i).toNat)
 case atStart=>exact⟨0,bl _,rfl,by rw[List.take_zero,Gu c.aE hl];exact eO.still HI.out (ax _ _)⟩
 case round =>
  obtain⟨k,hk,rfl,hB⟩:=hrel;have HB:=ae hB;clear hB;by_cases hlt:k<ms.length
  ·have hk1:(k:Int)<(ms.length:Int):=by omega
   have hk0:(0:Int)<=(k:Int):=by omega
   obtain⟨g,cap,m,a1,d1,a2,d2,hsl,hmk,i1,i2,hcell⟩:=(HB.out.2.2 _ _ _ HM.out).at k hlt;cases hsl;have HT:=ae (aP (FW ms k m hmk) (se.out m (dU hmk)));have lW:Hid (∀ W,ai wr W->Calls prog 166 #[.agg #[m.kind,m.src,m.dst,m.ah,m.ak,m.aO,m.pos,m.value,.slice a1 m.af.length d1,.slice a2 m.log.length d2]] W fun e w'=>ai W w'/\e=.returned (.tuple #[.string (bs m.frame),()])):=ae fun W hb=>by
    have:=GD m.kind m.src m.dst m.ah m.ak m.aO m.pos m.value (.slice a1 m.af.length d1) (.slice a2 m.log.length d2) m.af m.log W (bJ.cM (aS i1 fun k _ hk=>hb.block k hk)) (eM.cM (aS i2 fun k _ hk=>hb.block k hk));rw[show eh m.kind [m.src,m.dst,m.ah,m.ak,m.aO,m.pos,m.value] m.af m.log=(m.frame,0) from qN HT.out.2] at this;exact this
   have q0:=hcell 0 (by omega)
   have q1:=hcell 1 (by omega)
   have q2:=hcell 2 (by omega)
   have q3:=hcell 3 (by omega)
   have q4:=hcell 4 (by omega)
   have q5:=hcell 5 (by omega)
   have q6:=hcell 6 (by omega)
   have q7:=hcell 7 (by omega)
   have q8:=hcell 8 (by omega)
   have q9:=hcell 9 (by omega)
   simp only [cd,List.getElem?_cons_zero,List.getElem?_cons_succ,Nat.add_zero] at q0 q1 q2 q3 q4 q5 q6 q7 q8 q9
   clear hcell i1 i2 hmk;go_wp2_with fail;refine (lW.out _ (ax _ _)).mono ?_
   rintro e Y ⟨bt,rfl⟩;clear q0 q1 q2 q3 q4 q5 q6 q7 q8 q9;have HR:=ae (HB.out.1.below bt);go_wp2_with fail;refine (HP.out _ _ _ m.frame HR.out (Gt _ _)).mono ?_
   rintro e Z ⟨⟨v9,rfl⟩,hto⟩;have fj:=ae hto;clear hto;go_wp2_with fail;go_roundw
   case rel =>
    refine⟨k+1,by omega,by go_num, ?_⟩
    rw[HT.out.1, <- Gv];exact eO.trans jP.out HB.out (eO.before HB.out.1 bt fj.out)
   case measure=>simp[intOf];omega
  ·obtain rfl:k=ms.length:=by omega
   go_wp2_with fail;go_end0;refine⟨⟨_,rfl⟩, ?_⟩
   have:=HB.out;rw[je] at this;exact this
structure RR (w:World)(b:Nat)(r:aR)(vm vl:Value):Prop where
 blk:w.heap[b]?=some (.cells #[.bool r.up,r.ah,r.lock,vm,vl,.int .i64 (r.base:Int),.int .i64 (r.aU:Int)] 199)
 hm:bd w vm r.af
 hl:bw w vl r.log
theorem RR.ka (h:RR w b r vm vl):ot w b r vm vl where
 c0:=aj h.blk 0
 c1:=aj h.blk 1
 c2:=aj h.blk 2
 c3:=aj h.blk 3
 c4:=aj h.blk 4
 c5:=aj h.blk 5
 c6:=aj h.blk 6
 af:=bJ.cM h.hm
 log:=eM.cM h.hl
theorem RR.below (h:RR w b r vm vl)(hb:ai w w'):RR w' b r vm vl :=
 ⟨(hb.block _ (aQ h.blk)).trans h.blk,aS h.hm fun k _ hk=>hb.block k hk,aS h.hl fun k _ hk=>hb.block k hk⟩
def dJ (w:World)(b:Nat)(vm vl:Value)(e:Ending)(w':World)(p:aR × List aK):Prop :=
 ∃ v bN bD,e=.returned v/\RR w' b p.1 bN bD/\a_ w' w.heap.size v p.2/\Moved w w' (fun k=>k=b)/\bO w vm bN/\bO w vl bD
theorem dJ.still (h:RR w b r vm vl)(hb:ai w w'):dJ w b vm vl (.returned true) w' (r,[]) :=
 ⟨_,vm,vl,rfl,h.below hb,a_.nil _ _,(Moved.refl w _).below hb,bO.refl _ _,bO.refl _ _⟩
theorem L7 (l:List aH)(x:aH):aJ (bk (l++[x]))=aJ (bk l)++[.int .i64 x.client,.int .i64 x.seq,.int .i64 x.kind,.int .i64 x.key,.int .i64 x.value]:=by
 unfold bk aJ;rw[List.flatMap_append,gw];rfl
theorem RR.add {a':Option Addr}{c':Nat}{x:aH}(h:RR V b r vm vl)(ho:V.ownsRow base 42 5 (.slice a' r.log.length c') r.log.length (aJ (bk r.log)))(hg:V.heap[g]?=some (.cells #[x.client,x.seq,x.kind,x.key,x.value] 42))(hb:base<=V.heap.size)(hl:r.log.length<=1000) :
  ∃ g' cap' W1,(∀ ty,(Builtin.append_ #[44,44] ty #[.slice a' r.log.length c',.slice (some g) 1 1]).run prog V=.ok (.slice (some ⟨g',0,none⟩) (r.log.length+1) cap') W1)/\W1.cell? (b,4)=some vl/\W1.frozen? (b,4)=false /\
   (base<=g'/\Below base V W1)/\(∀ k,(Value.slice a' r.log.length c').ownBlock=some k->base<=k)/\((b<base->bA (fun k=>k<base) vm->RR (W1.setCell ⟨b,4,none⟩ (.slice (some ⟨g',0,none⟩) (r.log.length+1) cap')) b { r with log:=r.log++[x] } vm (.slice (some ⟨g',0,none⟩) (r.log.length+1) cap'))):=by
 obtain⟨g',cap',W1,hrun,ho1,hg1,ek⟩:=oX (t:=44) Fk underlying44 rfl (by decide) V base (.slice a' r.log.length c') r.log.length (aJ (bk r.log)) [.int .i64 x.client,.int .i64 x.seq,.int .i64 x.kind,.int .i64 x.key,.int .i64 x.value] g ho hg rfl (by intro u hu;simp at hu;rcases hu with rfl|rfl|rfl|rfl|rfl<;>rfl) (by omega) (by decide) hb
 have hbl:=(aQ h.blk);have nb:(Value.slice a' r.log.length c').ownBlock≠some b:=aY h.blk ho (by decide)
 have hbW:=(hg1.block b hbl (fun e=>nb e.symm)).trans h.blk;have hB:Below base V W1:=((Moved.refl V (fun k=>(Value.slice a' r.log.length c').ownBlock=some k)).grown hg1 (fun k _ e=>e)).jg (fun k e=>(ho.lt k e).1) hb;refine⟨g',cap',W1,hrun,aj hbW 4,aW hbW 4,⟨?_,hB⟩,fun k e=>(ho.lt k e).1,fun hbb hF=>⟨bV _ _ _ _ _ _ hbW, ?_, ?_⟩⟩
 ·exact (ho1.lt g' (by rfl)).1
 ·refine bu (a:=⟨b,4,none⟩) (cG h.hm fun k e=>hB.block k (hF k e)) (aY h.blk h.hm (by decide)) _
 ·have hr:=bu (a:=⟨b,4,none⟩) ho1 (aY hbW ho1 (by decide)) (.slice (some ⟨g',0,none⟩) (r.log.length+1) cap')
  unfold bw;rw[bG,L7];exact obs hr (bl _)
theorem RR.aU (h:RR V b r vm vl)(k:Nat):RR (V.setCell ⟨b,6,none⟩ (.int .i64 (k:Int))) b { r with aU:=k } vm vl :=
 ⟨bV _ _ _ _ _ _ h.blk,bu (a:=⟨b,6,none⟩) h.hm (aY h.blk h.hm (by decide)) _,bu (a:=⟨b,6,none⟩) h.hl (aY h.blk h.hl (by decide)) _⟩
theorem a_.KB (h:a_ V base v ms)(hb:V.heap[b]?=some (.cells cs 199))(j:Nat)(u:Value):a_ (V.setCell ⟨b,j,none⟩ u) base v ms:=by
 obtain⟨ws,h1,h2,h3⟩:=h;exact⟨ws,h1,bu (a:=⟨b,j,none⟩) h2 (aY hb h2 (by decide)) _,fun t ht=>⟨bu (a:=⟨b,j,none⟩) (h3 t ht).1 (aY hb (h3 t ht).1 (by decide)) _,bu (a:=⟨b,j,none⟩) (h3 t ht).2 (aY hb (h3 t ht).2 (by decide)) _⟩⟩
theorem RR.Gb {W3:World}(h:RR W b r vm vl)(hv:a_ W base v ms)(hM:Moved W W3 (fun k=>v.ownBlock=some k)):RR W3 b r vm vl:=by
 obtain⟨ws,h1,h2,h3⟩:=hv;exact⟨(hM.block b (aQ h.blk) (aY h.blk h2 (by decide))).trans h.blk,hM.owns h.hm fun k hk hS=>bM h.hm h2 (by decide) k hk hS,hM.owns h.hl fun k hk hS=>bM h.hl h2 (by decide) k hk hS⟩
def oU (vs:List iG)(f:Int->fK):Prop :=
 (vs.map Prod.fst).Nodup/\(∀ t∈vs,f t.1=t.2.1)/\∀ e,(∀ t∈vs,t.1≠e)->f e=fK.none
theorem oU.one {f:Int->fK}(h:oU vs f){i:Nat}{s:iG}(hi:vs[i]?=some s)(hj:vs[j]?=some t)(he:s.1=t.1):i=j:=by
 have h1:(vs.map Prod.fst)[i]?=some t.1:=by rw[fe,hi,Option.map_some,he]
 have h2:(vs.map Prod.fst)[j]?=some t.1:=by rw[fe,hj,Option.map_some]
 have hl1:i<(vs.map Prod.fst).length:=(dI.1 h1).1;exact (List.getElem?_inj hl1 h.1).1 (h1.trans h2.symm)
theorem oU.snoc {f:Int->fK}(h:oU vs f)(hn:∀ t∈vs,t.1≠u.1):oU (vs++[u]) (upd f u.1 u.2.1):=by
 refine⟨?_,fun t ht => ?_,fun e he => ?_⟩
 ·rw[gw,List.nodup_append]
  refine⟨h.1,by simp,fun a ha b hb => ?_⟩
  obtain⟨t,ht,rfl⟩:=List.mem_map.1 ha;rw[List.map_singleton,dg] at hb;rw[hb];exact hn t ht
 ·rcases fE.1 ht with q|q
  ·unfold upd
   rw[if_neg (hn t q)];exact h.2.1 t q
  ·rw[dg.1 q]
   unfold upd;rw[if_pos rfl]
 ·unfold upd
  rw[if_neg (fun q=>he u (List.mem_append_right _ (dg.2 rfl)) q.symm)];exact h.2.2 e fun t ht=>he t (List.mem_append_left _ ht)
theorem oU.set {f:Int->fK}(h:oU vs f)(hj:vs[j]?=some t)(hu:u.1=t.1):oU (vs.set j u) (upd f u.1 u.2.1):=by
 have hm:(vs.set j u).map Prod.fst=vs.map Prod.fst:=by
  rw[List.map_set,hu];refine List.ext_getElem? fun i => ?_
  rw[List.getElem?_set]
  split
  ·rename_i q
   subst q;rw[fe,hj];simp[(List.getElem?_eq_some_iff.1 hj).1]
  ·rfl
 refine⟨by rw[hm];exact h.1,fun s hs => ?_,fun e he => ?_⟩
 ·obtain⟨i,hi⟩:=List.getElem?_of_mem hs
  rw[List.getElem?_set] at hi
  split at hi
  ·rename_i q
   rw[if_pos (dI.1 hj).1] at hi;injection hi with hi
   subst hi;unfold upd;rw[if_pos rfl]
  ·rename_i q
   unfold upd;rw[if_neg (fun z=>q (h.one hj hi (by rw[<- hu,z])))]
   exact h.2.1 s (dU hi)
 ·have hne:∀ s∈vs,s.1≠e:=fun s hs q=>by
   have:e∈(vs.set j u).map Prod.fst:=by rw[hm];exact List.mem_map.2 ⟨s,hs,q⟩
   obtain⟨z,hz,OR⟩:=List.mem_map.1 this;exact he z hz OR
  unfold upd;rw[if_neg (fun q=>hne t (dU hj) (by rw[<- hu,q]))]
  exact h.2.2 e hne
end Go.Proofs.YtgieeeeeiggoeaaGreat
