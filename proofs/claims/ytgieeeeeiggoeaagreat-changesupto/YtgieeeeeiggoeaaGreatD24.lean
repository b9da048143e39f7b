import Derived.Test.YtgieeeeeiggoeaaGreatD21
set_option maxRecDepth 100000
set_option maxHeartbeats 2000000
namespace Go.Proofs.YtgieeeeeiggoeaaGreat
open Go.RowKit Go.Shelf
open Tryz
variable {own:Int}{b:Nat}{F:Nat->Prop}{w w':World}
def Acc.px (a:Acc)(own:Int)(m:aK):Acc × List aK :=
 if m.ak<(a.aZ m.ah).promise then (a,[])
 else ({ a with aZ:=upd a.aZ m.ah ⟨m.ak,m.ak,m.af,m.log⟩ },[{ kind:=12,src:=own,dst:=m.src,ah:=m.ah,ak:=m.ak }])
theorem T8 (F:Nat->Prop)(b:Nat)(own:Int)(a:Acc)(m:aK)(mm ml:Value)(w:World)(h:kJ w F b own a)(hmm:bd w mm m.af)(hml:bw w ml m.log)(eC:m.af.length<=5)(ja:m.log.length<=24) :
  Calls prog 254 #[b,bL m mm ml] w fun e w'=>gx w w' F b own e (a.px own m):=by
 have HA:=ae h;obtain⟨vm,g,l,h⟩:=h;have hbl:b<w.heap.size:=h.lt b h.fb;have HI:=ae h;obtain⟨am,cm,rfl⟩:=aM hmm;obtain⟨al,cl,rfl⟩:=aM hml;have HP:Hid (∀ W,ai w W->Calls prog 257 #[b,.agg #[m.kind,m.src,m.dst,m.ah,m.ak,m.aO,m.pos,m.value,.slice am m.af.length cm,.slice al m.log.length cl]] W _):=ae fun W hb=>Gn F b own a vm g l m (.slice am m.af.length cm) (.slice al m.log.length cl) W (h.below hb);have lu:Hid (∀ W,ai w W->Calls prog 69 #[.slice am m.af.length cm] W fun e w'=>∃ x c,e=.returned (.slice x m.af.length c)/\w'.ownsRow W.heap.size 3 1 (.slice x m.af.length c) m.af.length (aJ m.af)/\ai W w'):=ae fun W hb=>ma _ _ W (aS hmm fun k _ hk=>hb.block k hk) (by omega)
 have kl:Hid (∀ W,ai w W->Calls prog 147 #[.slice al m.log.length cl] W fun e w'=>∃ x c,e=.returned (.slice x m.log.length c)/\w'.ownsRow W.heap.size 42 5 (.slice x m.log.length c) m.log.length (aJ (bk m.log))/\ai W w'):=ae fun W hb=>pO _ _ W (aS hml fun k _ hk=>hb.block k hk) (by omega)
 clear h hmm hml;by_cases hlt:m.ak<(a.aZ m.ah).promise
 ·have HT:Hid (a.px own m=(a,[])):=ae (by unfold Acc.px;rw[if_pos hlt])
  simp only [if_pos hlt,eR hlt,Bool.not_true] at HP;unfold bL;go_enter func254,ntmps254;go_wp2_with fail;obtain⟨X,hX,hbX,hM⟩:=dk w m (.slice am m.af.length cm) (.slice al m.log.length cl);rw[hX];clear hX;have gM:=fun j=>aj hM j;clear hM;go_wp2_with fail;refine (HP.out _ hbX).mono ?_
  rintro e Y ⟨bN,bD,rfl,h1,h2,h3,h4,bt⟩;have hY:ai w Y:=hbX.trans (bt.mono hbX.size);obtain⟨a1,d1,rfl⟩:=aM h1;obtain⟨a2,d2,rfl⟩:=aM h2;clear h1 h2 h3 h4 gM;go_wp2_with fail;go_ret;rw[HT.out];exact gx.still HA.out (hY.alloc hY.size _) (a_.nil _ _)
 ·have HT:Hid (a.px own m=({ a with aZ:=upd a.aZ m.ah ⟨m.ak,m.ak,m.af,m.log⟩ },[{ kind:=12,src:=own,dst:=m.src,ah:=m.ah,ak:=m.ak }])):=ae (by unfold Acc.px;rw[if_neg hlt])
  simp only [if_neg hlt,ee hlt,Bool.not_false] at HP;unfold bL;go_enter func254,ntmps254;go_wp2_with fail;obtain⟨X,hX,hbX,hM⟩:=dk w m (.slice am m.af.length cm) (.slice al m.log.length cl);rw[hX];clear hX;have gM:=fun j=>aj hM j;have HM:=ae hM;clear hM;go_wp2_with fail;refine (HP.out _ hbX).mono ?_
  rintro e Y ⟨bN,bD,rfl,h1,h2,h3,h4,bt⟩;have hY:ai w Y:=hbX.trans (bt.mono hbX.size);have ic:=ae ((bt.block _ (aQ HM.out)).trans HM.out);obtain⟨a1,d1,rfl⟩:=aM h1;obtain⟨a2,d2,rfl⟩:=aM h2;clear h1 h2 h3 h4 gM HM;have gY:=fun j=>aj ic.out j;have hne:w.heap.size<Y.heap.size:=(aQ ic.out);have hne1:¬ w.heap.size=Y.heap.size:=by omega
  have hne2:¬ Y.heap.size=w.heap.size:=by omega
  go_wp2_with fail;obtain⟨V,hV,bF,hN⟩:=ch Y #[m.ak,m.ak,.slice a1 (a.aZ m.ah).af.length d1,.slice a2 (a.aZ m.ah).log.length d2] 310;rw[hV];clear hV gY;have qF:=ae ((bF.block _ hne).trans ic.out);have oE:ai w V:=hY.trans (bF.mono hY.size);have HN:=ae hN;have Ng:Y.heap.size<V.heap.size:=(aQ hN);clear hN bF;refine (lu.out _ oE).mono ?_
  rintro e A ⟨x1,c1,rfl,o1,hl1⟩;have O1:=ae o1;have yt:=ae ((hl1.block _ (aQ qF.out)).trans qF.out);have vJ:=ae ((hl1.block _ (aQ HN.out)).trans HN.out);have OO:ai w A:=oE.trans (hl1.mono oE.size);clear o1 qF HN;have gA:=fun j=>aj yt.out j;have nA:=fun j=>aj vJ.out j;have fA:=fun j=>aW vJ.out j;go_wp2_with fail;clear gA nA fA;have Ep:Y.heap.size<V.heap.size:=Ng;have bz:ai w (A.setCell ⟨Y.heap.size,2,none⟩ (.slice x1 m.af.length c1)):=OO.setCell (by exact hY.size) _
  have bf:(A.setCell ⟨Y.heap.size,2,none⟩ (.slice x1 m.af.length c1)).heap[w.heap.size]?=some (.cells #[m.kind,m.src,m.dst,m.ah,m.ak,m.aO,m.pos,m.value,.slice am m.af.length cm,.slice al m.log.length cl] 134):=(cJ _ _ _ _ hne1).trans yt.out;have wI:(A.setCell ⟨Y.heap.size,2,none⟩ (.slice x1 m.af.length c1)).heap[Y.heap.size]?=some (.cells #[m.ak,m.ak,.slice x1 m.af.length c1,.slice a2 (a.aZ m.ah).log.length d2] 310):=s9 _ vJ.out;have oB:(A.setCell ⟨Y.heap.size,2,none⟩ (.slice x1 m.af.length c1)).ownsRow V.heap.size 3 1 (.slice x1 m.af.length c1) m.af.length (aJ m.af):=bC O1.out (by exact Ep) _
  generalize A.setCell ⟨Y.heap.size,2,none⟩ (.slice x1 m.af.length c1)=B at *;refine (kl.out _ bz).mono ?_
  rintro e C ⟨x2,c2,rfl,o2,hl2⟩;have O2:=ae (aP (aS oB fun k _ hk=>hl2.block k hk) o2);have sb:=ae ((hl2.block _ (aQ bf)).trans bf);have vK:=ae ((hl2.block _ (aQ wI)).trans wI);have eb:Y.heap.size<B.heap.size:=(aQ wI);have OP:ai w C:=bz.trans (hl2.mono bz.size);clear o2 oB bf wI O1 yt vJ;have gC:=fun j=>aj sb.out j;have nC:=fun j=>aj vK.out j;have fC:=fun j=>aW vK.out j;go_wp2_with fail;clear gC nC fC;have uJ:ai w (C.setCell ⟨Y.heap.size,3,none⟩ (.slice x2 m.log.length c2)):=OP.setCell (by exact hY.size) _
  have yu:Hid ((C.setCell ⟨Y.heap.size,3,none⟩ (.slice x2 m.log.length c2)).heap[w.heap.size]?=some (.cells #[m.kind,m.src,m.dst,m.ah,m.ak,m.aO,m.pos,m.value,.slice am m.af.length cm,.slice al m.log.length cl] 134)):=ae ((cJ _ _ _ _ hne1).trans sb.out);have IN:Hid ((C.setCell ⟨Y.heap.size,3,none⟩ (.slice x2 m.log.length c2)).heap[Y.heap.size]?=some (.cells #[m.ak,m.ak,.slice x1 m.af.length c1,.slice x2 m.log.length c2] 310)):=ae (vh _ vK.out);have OD:Hid ((C.setCell ⟨Y.heap.size,3,none⟩ (.slice x2 m.log.length c2)).ownsRow V.heap.size 3 1 (.slice x1 m.af.length c1) m.af.length (aJ m.af)/\(C.setCell ⟨Y.heap.size,3,none⟩ (.slice x2 m.log.length c2)).ownsRow B.heap.size 42 5 (.slice x2 m.log.length c2) m.log.length (aJ (bk m.log))):=ae ⟨bC O2.out.1 (by exact Ep) _,bC O2.out.2 (by exact eb) _⟩
  generalize C.setCell ⟨Y.heap.size,3,none⟩ (.slice x2 m.log.length c2)=D at *;have ID:=ae (HI.out.below uJ);have gD:=fun j=>aj yu.out j;have nD:=fun j=>aj IN.out j;have cD:=aj ID.out.blk 3;obtain⟨W5,hP,m5,M5⟩:=GR D.drew g l m.ah (.agg #[m.ak,m.ak,.slice x1 m.af.length c1,.slice x2 m.log.length c2]) ID.out.map;have lx:=ae (aP m5 M5);clear m5 M5 O2 sb vK;go_region;clear gD nD cD hP;have hgl:g<w.heap.size:=HI.out.lt g HI.out.fg;have hk5:∀ k,k<w.heap.size->k≠g->W5.heap[k]?=w.heap[k]?:=fun k hk hne=>(lx.out.2.block k (j5 hk uJ.size) hne).trans (uJ.block k hk);have hs5:w.heap.size<=W5.heap.size:=bP uJ.size lx.out.2.size;have sy:W5.heap[w.heap.size]?=some (.cells #[m.kind,m.src,m.dst,m.ah,m.ak,m.aO,m.pos,m.value,.slice am m.af.length cm,.slice al m.log.length cl] 134):=(lx.out.2.block _ (aQ yu.out) (by omega)).trans yu.out
  have zO:w.heap.size<=V.heap.size:=oE.size;have hBw:w.heap.size<=B.heap.size:=bz.size;have r1:W5.ownsRow V.heap.size 3 1 (.slice x1 m.af.length c1) m.af.length (aJ m.af):=cG OD.out.1 fun k e=>lx.out.2.block k (dL.1 (bK OD.out.1 e).choose_spec.1).1 (fun e2=>by obtain⟨_,_,h3⟩:=bK OD.out.1 e;have:=h3;omega)
  have r2:W5.ownsRow B.heap.size 42 5 (.slice x2 m.log.length c2) m.log.length (aJ (bk m.log)):=cG OD.out.2 fun k e=>lx.out.2.block k (dL.1 (bK OD.out.2 e).choose_spec.1).1 (fun e2=>by obtain⟨_,_,h3⟩:=bK OD.out.2 e;have:=h3;omega)
  have I5:=ae (HI.out.put (w':=W5) m.ah ⟨m.ak,m.ak,m.af,m.log⟩ _ _ lx.out.1 hk5 hs5 (obs r1 (bl _)) (obs r2 (bl _)) (fun k e=>by obtain⟨_,_,h3⟩:=bK r1 e;exact .inr (by omega)) (fun k e=>by obtain⟨_,_,h3⟩:=bK r2 e;exact .inr (by omega)))
  have rZ:Hid (Calls prog 256 #[b,.agg #[m.kind,m.src,m.dst,m.ah,m.ak,m.aO,m.pos,m.value,.slice am m.af.length cm,.slice al m.log.length cl],.agg #[.int .i64 12,(),(),m.ah,m.ak,(),(),(),true,true]] W5 fun e w'=>∃ v,e=.returned v/\a_ w' w.heap.size v [{ kind:=12,src:=own,dst:=m.src,ah:=m.ah,ak:=m.ak }]/\ai W5 w'):=ae ((vV _ b own _ _ g _ m _ _ { kind:=12,src:=0,dst:=0,ah:=m.ah,ak:=m.ak } (.slice none 0 0) (.slice none 0 0) W5 I5.out (bE _ _ _ _) (bE _ _ _ _)).mono (by
   rintro e w' ⟨v,rfl,h1,h2⟩;exact⟨v,rfl,h1.base hs5,h2⟩))
  have g5:=fun j=>aj sy j;have H5:=ae (aP hk5 (aP hs5 (aP lx.out.2 uJ)));clear r1 r2 sy hk5;go_wp2_with fail;refine rZ.out.mono ?_
  rintro e Z ⟨v,rfl,hv,cq⟩;have HV:=ae hv;clear hv g5;go_wp2_with fail;go_ret;rw[HT.out];refine⟨v,_,rfl,⟨_,_,_,I5.out.below cq⟩,⟨?_, ?_, ?_, ?_, ?_⟩, ?_,HV.out⟩
  ·exact cq.os.trans (H5.out.2.2.1.os.trans H5.out.2.2.2.os)
  ·exact cq.tape.trans (H5.out.2.2.1.tape.trans H5.out.2.2.2.tape)
  ·exact cq.output.trans (H5.out.2.2.1.output.trans H5.out.2.2.2.output)
  ·exact bP H5.out.2.1 cq.size
  ·exact fun k hk hF=>(cq.block k (j5 hk H5.out.2.1)).trans (H5.out.1 k hk (fun e=>hF (e ▸ HI.out.fg)))
  ·rintro k (h1|h1)
   ·exact .inl h1
   ·exact .inr h1.1
theorem JS (a:Acc)(own:Int)(m:aK)(hd:m.dst=own):a.take m=if m.kind=5 then (a,[{ kind:=6,src:=own,dst:=m.src,ah:=a.ah,ak:=m.ak,af:=a.af }]) else if m.kind=9 then a.py own m else if m.kind=11 then a.px own m else if m.kind=15 then a.pz own m else (a,[]):=by
 subst hd;rfl
theorem gx.before {W:World}{e:Ending}{p:Acc × List aK}(hb:ai w W)(h:gx W w' F b own e p):gx w w' F b own e p:=by
 obtain⟨v,F',rfl,h1,h2,h3,h4⟩:=h;refine⟨v,F',rfl,h1,⟨h2.os.trans hb.os,h2.tape.trans hb.tape,h2.output.trans hb.output,bP hb.size h2.size,fun k hk hF=>(h2.block k (j5 hk hb.size) hF).trans (hb.block k hk)⟩,fun k hk => ?_,h4.base hb.size⟩
 rcases h3 k hk with h|h
 ·exact .inl h
 ·exact .inr (bP hb.size h)
theorem kJ.below {a:Acc}(h:kJ w F b own a)(hb:ai w w'):kJ w' F b own a:=by
 obtain⟨vm,g,l,h⟩:=h;exact⟨vm,g,l,h.below hb⟩
theorem JR (F:Nat->Prop)(b:Nat)(own:Int)(a:Acc)(m:aK)(mm ml:Value)(w:World)(h:kJ w F b own a)(ok:th a)(h1:bd w mm m.af)(h2:bw w ml m.log)(hm1:m.af.length<=5)(hm2:m.log.length<=24)(hd:m.dst=own) :
  Calls prog 250 #[b,bL m mm ml] w fun e w'=>gx w w' F b own e (a.take m):=by
 have HT:=ae (JS a own m hd);have HK:∀ W,ai w W->kJ W F b own a/\bd W mm m.af/\bw W ml m.log:=fun W hb=>⟨h.below hb,aS h1 fun k _ hk=>hb.block k hk,aS h2 fun k _ hk=>hb.block k hk⟩;have HA:=ae h;have K5:Hid (∀ W,ai w W->Calls prog 252 #[b,.agg #[m.kind,m.src,m.dst,m.ah,m.ak,m.aO,m.pos,m.value,mm,ml]] W fun e w'=>gx W w' F b own e (a,[{ kind:=6,src:=own,dst:=m.src,ah:=a.ah,ak:=m.ak,af:=a.af }])):=ae fun W hb=>Ud F b own a m mm ml W (HK W hb).1 ok;have K9:Hid (∀ W,ai w W->Calls prog 253 #[b,.agg #[m.kind,m.src,m.dst,m.ah,m.ak,m.aO,m.pos,m.value,mm,ml]] W fun e w'=>gx W w' F b own e (a.py own m)):=ae fun W hb=>Uc F b own a m mm ml W (HK W hb).1 ok;have Jw:Hid (∀ W,ai w W->Calls prog 254 #[b,.agg #[m.kind,m.src,m.dst,m.ah,m.ak,m.aO,m.pos,m.value,mm,ml]] W fun e w'=>gx W w' F b own e (a.px own m)):=ae fun W hb=>T8 F b own a m mm ml W (HK W hb).1 (HK W hb).2.1 (HK W hb).2.2 hm1 hm2;have Jz:Hid (∀ W,ai w W->Calls prog 255 #[b,.agg #[m.kind,m.src,m.dst,m.ah,m.ak,m.aO,m.pos,m.value,mm,ml]] W fun e w'=>gx W w' F b own e (a.pz own m)):=ae fun W hb=>Ug F b own a m mm ml W (HK W hb).1 (HK W hb).2.1 hm1;clear h ok h1 h2 HK hd;unfold bL;go_enter func250,ntmps250;go_upto_region 1 with fail
 obtain⟨X,hX,hbX,cS⟩:=dk w m mm ml;rw[hX];clear hX;have g0:=aj cS 0;have g1:=aj cS 1;have g2:=aj cS 2;have g3:=aj cS 3;have g4:=aj cS 4;have g5:=aj cS 5;have g6:=aj cS 6;have g7:=aj cS 7;have g8:=aj cS 8;have g9:=aj cS 9;cases t5:(m.kind == 5) with
 | true =>
  have P5:Hid (m.kind=5):=ae (by simpa using t5)
  have HN:Hid (a.take m=(a,[{ kind:=6,src:=own,dst:=m.src,ah:=a.ah,ak:=m.ak,af:=a.af }])):=ae (by rw[HT.out,if_pos P5.out])
  go_wp2_with fail;refine (K5.out _ hbX).mono ?_
  rintro e Z ⟨v,F',rfl,hA,hM,qU,hmo⟩;obtain⟨av,cv,hsh⟩:=hmo.shape;subst hsh;go_wp2_with fail;go_ret;rw[HN.out];exact gx.before hbX ⟨_,F',rfl,hA,hM,qU,hmo⟩
 | false =>
  have N5:Hid (¬ m.kind=5):=ae (by simpa using t5)
  cases t9:(m.kind == 9) with
  | true =>
   have P9:Hid (m.kind=9):=ae (by simpa using t9)
   have HN:Hid (a.take m=a.py own m):=ae (by rw[HT.out,if_neg N5.out,if_pos P9.out])
   go_wp2_with fail;refine (K9.out _ hbX).mono ?_
   rintro e Z ⟨v,F',rfl,hA,hM,qU,hmo⟩;obtain⟨av,cv,hsh⟩:=hmo.shape;subst hsh;generalize hpl:(a.py own m).2.length=pl at *;go_wp2_with fail;go_ret;rw[HN.out];exact gx.before hbX ⟨_,F',rfl,hA,hM,qU,hmo⟩
  | false =>
   have N9:Hid (¬ m.kind=9):=ae (by simpa using t9)
   cases t11:(m.kind == 11) with
   | true =>
    have JE:Hid (m.kind=11):=ae (by simpa using t11)
    have HN:Hid (a.take m=a.px own m):=ae (by rw[HT.out,if_neg N5.out,if_neg N9.out,if_pos JE.out])
    go_wp2_with fail;refine (Jw.out _ hbX).mono ?_
    rintro e Z ⟨v,F',rfl,hA,hM,qU,hmo⟩;obtain⟨av,cv,hsh⟩:=hmo.shape;subst hsh;generalize hpl:(a.px own m).2.length=pl at *;go_wp2_with fail;go_ret;rw[HN.out];exact gx.before hbX ⟨_,F',rfl,hA,hM,qU,hmo⟩
   | false =>
    have CM:Hid (¬ m.kind=11):=ae (by simpa using t11)
    cases t15:(m.kind == 15) with
    | true =>
     have JG:Hid (m.kind=15):=ae (by simpa using t15)
     have HN:Hid (a.take m=a.pz own m):=ae (by rw[HT.out,if_neg N5.out,if_neg N9.out,if_neg CM.out,if_pos JG.out])
     go_wp2_with fail;refine (Jz.out _ hbX).mono ?_
     rintro e Z ⟨v,F',rfl,hA,hM,qU,hmo⟩;obtain⟨av,cv,hsh⟩:=hmo.shape;subst hsh;generalize hpl:(a.pz own m).2.length=pl at *;go_wp2_with fail;go_ret;rw[HN.out];exact gx.before hbX ⟨_,F',rfl,hA,hM,qU,hmo⟩
    | false =>
     have JB:Hid (¬ m.kind=15):=ae (by simpa using t15)
     have HN:Hid (a.take m=(a,[])):=ae (by rw[HT.out,if_neg N5.out,if_neg N9.out,if_neg CM.out,if_neg JB.out])
     go_wp2_with fail;go_ret;rw[HN.out];exact gx.still HA.out hbX (a_.nil _ _)
theorem JV (F:Nat->Prop)(b:Nat)(own:Int)(a:Acc)(w:World)(h:kJ w F b own a) :
  Calls prog 251 #[b] w fun e w'=>gx w w' F b own e (a,[]):=by
 have HA:=ae h;clear h;go_enter func251,ntmps251;go_wp2_with fail;go_ret;exact gx.still HA.out (ax _ _) (a_.nil _ _)
theorem JM (b:Nat)(w:World):Calls prog 248 #[b] w fun e w'=>(∃ v,e=.returned v)/\w'=w:=by
 go_enter func248,ntmps248;go_wp2_with fail;go_end0;exact⟨⟨_,rfl⟩,rfl⟩
theorem JP (b:Nat)(w:World):Calls prog 249 #[b] w fun e w'=>(∃ v,e=.returned v)/\w'=w:=by
 go_enter func249,ntmps249;go_wp2_with fail;go_end0;exact⟨⟨_,rfl⟩,rfl⟩
theorem JN (own:Int)(l:List Int)(v:Value)(w:World)(hv:bd w v l)(hl:l.length<=5) :
  Calls prog 109 #[.int .i64 own,v] w fun e w'=>∃ b F,e=.returned (.pointer (some ⟨b,0,none⟩))/\kJ w' F b own { up:=true,ah:=0,af:=l,aZ:=fun _=>fK.none }/\(∀ k,F k->w.heap.size<=k)/\ai w w':=by
 have hc:=ma v l w hv (by omega)
 obtain⟨a0,c0,rfl⟩:=aM hv;clear hv;have hmm := @run_makeMap prog;go_enter func109,ntmps109;go_wp2_with fail;refine hc.mono ?_
 rintro e W ⟨x,c,rfl,ho,hb⟩;clear hc;have HO:=ae ho;go_wp2_with fail;go_ret;have hs:=hb.size;refine⟨_,fun k=>w.heap.size<=k/\k<W.heap.size+1+1,rfl,⟨.slice x l.length c,W.heap.size,[],kX _ _ _,((obs HO.out (bl _)).alloc _).alloc _,⟨#[],0,(j6 _ _ _ (by simp)).trans (hnw _ _),rfl⟩,fun _=>rfl,⟨by omega,by omega⟩,⟨by omega,by omega⟩,fun k e => ?_,fun k h => ?_⟩,fun k h=>h.1,(hb.alloc hb.size _).alloc (by simp;omega) _⟩
 ·obtain⟨_,h2,h3⟩:=bK HO.out e
  have:=(aQ h2);exact⟨h3,by omega⟩
 ·simpa using h.2
theorem JL (F:Nat->Prop)(b:Nat)(own:Int)(a:Acc)(w:World)(h:kJ w F b own a)(ok:th a) :
  Calls prog 39 #[b] w fun e w'=>∃ x c,e=.returned (.agg #[.bool false,a.ah,.slice x a.af.length c])/\w'.ownsRow w.heap.size 3 1 (.slice x a.af.length c) a.af.length (aJ a.af)/\ai w w':=by
 obtain⟨vm,g,l,h⟩:=h;have hbl:b<w.heap.size:=h.lt b h.fb;have hne1:¬ b=w.heap.size:=by omega
 have hne2:¬ w.heap.size=b:=by omega
 obtain⟨am,cm,rfl⟩:=aM h.hm;have HI:=ae h;have eC:=ok.m;have HS:Hid (∀ W,ai w W->W.cell? (b,1)=some (.int .i64 a.ah)/\W.cell? (b,2)=some (.slice am a.af.length cm)):=ae fun W hb=>⟨aj (HI.out.below hb).blk 1,aj (HI.out.below hb).blk 2⟩;have HC:Hid (∀ W,ai w W->W.heap[w.heap.size]?=some (.cells #[.bool false,(),true] 53)->Calls prog 69 #[.slice am a.af.length cm] W fun e w'=>∃ x c,e=.returned (.slice x a.af.length c)/\w'.ownsRow (w.heap.size+1) 3 1 (.slice x a.af.length c) a.af.length (aJ a.af)/\ai w w'/\w'.heap[w.heap.size]?=some (.cells #[.bool false,(),true] 53)):=ae fun W hb hB=>(ma _ a.af W (HI.out.below hb).hm (by omega)).mono (by
  rintro e w' ⟨x,c,rfl,h1,h2⟩;exact⟨x,c,rfl,obs h1 (by have:=(aQ hB);omega),hb.trans (h2.mono hb.size),(h2.block _ (aQ hB)).trans hB⟩)
 clear h ok;go_enter func39,ntmps39;go_wp2_with fail;obtain⟨X,hX,hb0,hB0⟩:=ch w #[.bool false,(),true] 53;rw[hX];clear hX;obtain⟨s1,s2⟩:=HS.out X hb0;have HB0:=ae hB0;clear hB0;go_region_held3 (fun w'=>w'.cell? (b,1)=some (.int .i64 a.ah)/\w'.cell? (b,2)=some (.slice am a.af.length cm)) (first|(simp[go_sem];done)|(simp[go_sem, *];done)|go_keep)
  (first
   | (go_at_call 69;refine (HC.out _ hb0.drew HB0.out).mono ?_;rintro e Y1 ⟨a1,c1,rfl,o1,hb1,B1⟩;obtain⟨u1,u2⟩:=HS.out Y1 hb1;have HB1:=ae B1;have O1:=ae o1;have gM:=fun j=>aj B1 j;have gF:=fun j=>aW B1 j;clear B1 o1))
 all_goals (
  go_wp2_with fail;refine dB (v:=.agg #[.bool false,a.ah,.slice a1 a.af.length c1]) (by simp[results,results39,go_sem,gM]) rfl ?_
  have hz:w.heap.size<w.heap.size+1:=Nat.lt_succ_self _;refine⟨a1,c1,rfl,obs (bC (bC (bC O1.out hz _) hz _) hz _) (Nat.le_succ _), ?_⟩
  iterate 3 refine eE ?_ (by exact aG _) _
  exact hb1)
end Go.Proofs.YtgieeeeeiggoeaaGreat
