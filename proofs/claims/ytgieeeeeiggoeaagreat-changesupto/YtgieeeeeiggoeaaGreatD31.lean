import Derived.Test.YtgieeeeeiggoeaaGreatD29
import Derived.Test.YtgieeeeeiggoeaaGreatD05
import Derived.Test.YtgieeeeeiggoeaaGreatD27
import Derived.Test.YtgieeeeeiggoeaaGreatD30
set_option maxRecDepth 100000
set_option maxHeartbeats 2000000
namespace Go.Proofs.YtgieeeeeiggoeaaGreat
open Go.RowKit Go.Shelf
open Tryz
variable {E own:Int}{m:aK}{b cap gs k n x:Nat}{f:Nat->Int × Int × Value}{Fn:Nat->Nat->Prop}{F:Nat->Prop}{p:bh}{r:aR}{va vb vl vm vo vr vt:Value}{W w w':World}
theorem Rb :∀ k,sS F w w' k->F k\/w.heap.size<=k:=by
 rintro k (h1|h1)
 ·exact .inl h1
 ·exact .inr h1.1
theorem jx.still (h:fM w F b own p)(hb:ai w w'):jx w w' F b own p:=by
 obtain⟨vw,vo,vm,vl,h⟩:=h;exact⟨F,⟨vw,vo,vm,vl,h.below hb⟩,(Moved.refl w F).below hb,fun k h=>.inl h⟩
theorem iF.next {vw:Value}(h:iF w F b own p vw vo vm vl)(hM:Moved w W (fun k=>k=b))(p':bh)(lr bN bD:Value)(hw:p'.waits=p.waits)
  (hb:W.heap[b]?=some (.cells #[.int .i64 own,.int .i64 (p'.begun:Int),p'.doing,vw,p'.ah,lr,p'.aO,bN,bD] 146))
  (h2:bd W lr p'.old) (h3:bd W bN p'.af) (h4:bw W bD p'.log) (f2:∀ k,lr.ownBlock=some k->vo.ownBlock=some k\/w.heap.size<=k) (f3:∀ k,bN.ownBlock=some k->vm.ownBlock=some k\/w.heap.size<=k) (f4:∀ k,bD.ownBlock=some k->vl.ownBlock=some k\/w.heap.size<=k) :
  jx w W F b own p':=by
 have hW:bd W vw p'.waits:=by rw[hw];exact h.beside hM h.hw (by decide)
 refine⟨_,⟨_,_,_,_,h.turn p' vw lr bN bD hb hM.size hW h2 h3 h4 (fun k e=>.inl (h.fw k e)) (fun k e=>(f2 k e).imp (h.fo k) id) (fun k e=>(f3 k e).imp (h.fm k) id) (fun k e=>(f4 k e).imp (h.fl k) id) (fun k e=>⟨fun e2 => ?_,fun e2 => ?_⟩)⟩,hM.more h.fb,Rb⟩
 ·rcases f2 k e2 with h5|h5
  ·exact (h.ap k e).1 h5
  ·have:=h.lt k (h.fw k e);omega
 ·rcases f3 k e2 with h5|h5
  ·exact (h.ap k e).2 h5
  ·have:=h.lt k (h.fw k e);omega
theorem Qb (F:Nat->Prop)(b:Nat)(own:Int)(p:bh)(m:aK)(mm ml:Value)(w:World)(h:fM w F b own p)(hmm:bd w mm m.af)(eC:m.af.length<=5)(he:0<=m.ah/\m.ah<=100000) :
  Calls prog 246 #[b,bL m mm ml] w fun e w'=>(∃ v,e=.returned v)/\jx w w' F b own (p.gq m):=by
 have HA:=ae h;obtain⟨vw,vo,vm,vl,h⟩:=h;have hbl:b<w.heap.size:=h.lt b h.fb;have HI:=ae h;obtain⟨a1,d1,rfl⟩:=aM hmm;have HC:Hid (∀ W,Moved w W (fun k=>k=b)->Calls prog 69 #[.slice a1 m.af.length d1] W fun e w'=>∃ x c,e=.returned (.slice x m.af.length c)/\w'.ownsRow W.heap.size 3 1 (.slice x m.af.length c) m.af.length (aJ m.af)/\ai W w'):=ae fun W hM=>ma _ m.af W (h.beside hM hmm (by decide)) (by omega)
 have HL:Hid (p.gq m=if p.ah<m.ah+1 then { p with ah:=m.ah+1,old:=m.af } else p):=ae rfl
 have hwr:IntKind.i64.wrap (m.ah+1)=m.ah+1:=by rw[dV];omega
 clear h hmm;unfold bL;go_enter func246,ntmps246;go_upto_region 1 with fail
 obtain⟨X,hX,hbX,hM⟩:=dk w m (.slice a1 m.af.length d1) ml;rw[hX];clear hX;have IX:=ae (HI.out.below hbX);have s4:=au IX.out.blk 4;have MJ:=aW IX.out.blk 4;have gM:=fun j=>aj hM j;have HM:=ae hM;clear hM;have hne:¬ b=w.heap.size:=by omega
 have hne':¬ w.heap.size=b:=by omega
 by_cases hlt:p.ah<m.ah+1
 ·have HT:Hid (p.gq m={ p with ah:=m.ah+1,old:=m.af }):=ae (by rw[HL.out,if_pos hlt])
  go_wp2_with fail;have M1:Moved w (X.setCell ⟨b,4,none⟩ (.int .i64 (m.ah+1))) (fun k=>k=b):=((Moved.refl w (fun k=>k=b)).below hbX).setCell ⟨b,4,none⟩ rfl _;have B1:=G0 (.int .i64 (m.ah+1)) IX.out.blk;generalize X.setCell ⟨b,4,none⟩ (.int .i64 (m.ah+1))=W1 at *;clear s4 MJ gM;refine (HC.out W1 M1).mono ?_
  rintro e Y ⟨x,c,rfl,o1,hl⟩;have M2:=M1.below hl;have B2:=(hl.block _ (aQ B1)).trans B1;have O1:=ae (aP o1 M1.size);have e5:=aj B2 5;have f5:=aW B2 5;have HB2:=ae B2;clear o1 B1 B2;go_wp2_with fail;go_end0;have B3:=BH (.slice x m.af.length c) HB2.out;have M3:=M2.setCell ⟨b,5,none⟩ rfl (.slice x m.af.length c);have o3:(Y.setCell ⟨b,5,none⟩ (.slice x m.af.length c)).ownsRow W1.heap.size 3 1 (.slice x m.af.length c) m.af.length (aJ m.af):=bu O1.out.1 (aY HB2.out O1.out.1 (by decide)) _
  refine⟨⟨_,rfl⟩, ?_⟩
  rw[HT.out];exact HI.out.next M3 { p with ah:=m.ah+1,old:=m.af } _ _ _ rfl B3 (obs o3 (bl _)) (HI.out.beside M3 HI.out.hm (by decide)) (HI.out.beside M3 HI.out.hl (by decide)) (fun k e=>by obtain⟨_,_,h3⟩:=bK o3 e;have:=O1.out.2;exact .inr (by omega)) (fun k e=>.inl e) (fun k e=>.inl e)
 ·have HT:Hid (p.gq m=p):=ae (by rw[HL.out,if_neg hlt])
  go_wp2_with fail;go_end0;refine⟨⟨_,rfl⟩, ?_⟩
  rw[HT.out];exact jx.still HA.out hbX
theorem Qc (F:Nat->Prop)(b:Nat)(own:Int)(p:bh)(m:aK)(mm ml:Value)(w:World)(h:fM w F b own p)(hmm:bd w mm m.af)(hml:bw w ml m.log)(eC:m.af.length<=5)(ja:m.log.length<=24) :
  Calls prog 247 #[b,bL m mm ml] w fun e w'=>(∃ v,e=.returned v)/\jx w w' F b own (p.dS m):=by
 have HA:=ae h;obtain⟨vw,vo,vm,vl,h⟩:=h;have hbl:b<w.heap.size:=h.lt b h.fb;have HI:=ae h;obtain⟨a1,d1,rfl⟩:=aM hmm;obtain⟨a2,d2,rfl⟩:=aM hml;have HC:Hid (∀ W,Moved w W (fun k=>k=b)->Calls prog 69 #[.slice a1 m.af.length d1] W fun e w'=>∃ x c,e=.returned (.slice x m.af.length c)/\w'.ownsRow W.heap.size 3 1 (.slice x m.af.length c) m.af.length (aJ m.af)/\ai W w'):=ae fun W hM=>ma _ m.af W (h.beside hM hmm (by decide)) (by omega)
 have HD:Hid (∀ W,Moved w W (fun k=>k=b)->Calls prog 147 #[.slice a2 m.log.length d2] W fun e w'=>∃ x c,e=.returned (.slice x m.log.length c)/\w'.ownsRow W.heap.size 42 5 (.slice x m.log.length c) m.log.length (aJ (bk m.log))/\ai W w'):=ae fun W hM=>pO _ m.log W (h.beside hM hml (by decide)) (by omega)
 have HL:Hid (p.dS m=if p.aO<m.aO then { p with aO:=m.aO,af:=m.af,log:=m.log } else p):=ae rfl
 clear h hmm hml;unfold bL;go_enter func247,ntmps247;go_upto_region 1 with fail
 obtain⟨X,hX,hbX,hM⟩:=dk w m (.slice a1 m.af.length d1) (.slice a2 m.log.length d2);rw[hX];clear hX;have IX:=ae (HI.out.below hbX);have s6:=au IX.out.blk 6;have gM:=fun j=>aj hM j;have HM:=ae hM;clear hM;have hne:¬ b=w.heap.size:=by omega
 have hne':¬ w.heap.size=b:=by omega
 by_cases hlt:p.aO<m.aO
 ·have HT:Hid (p.dS m={ p with aO:=m.aO,af:=m.af,log:=m.log }):=ae (by rw[HL.out,if_pos hlt])
  go_quiet (fail);have hbD:=aV hbX nq;have ID:=ae (HI.out.below hbD);have HD2:Hid ((X.drewN nq).heap[w.heap.size]?=some (.cells #[m.kind,m.src,m.dst,m.ah,m.ak,m.aO,m.pos,m.value,.slice a1 m.af.length d1,.slice a2 m.log.length d2] 134)):=HM;generalize X.drewN nq=D at *;clear gM s6 HM;have y5:=aj HD2.out 5;have y8:=aj HD2.out 8;have e6:=aj ID.out.blk 6;have f6:=aW ID.out.blk 6;go_wp2_with fail;have M1:Moved w (D.setCell ⟨b,6,none⟩ (.int .i64 m.aO)) (fun k=>k=b):=((Moved.refl w (fun k=>k=b)).below hbD).setCell ⟨b,6,none⟩ rfl _;have B1:=G5 (.int .i64 m.aO) ID.out.blk;have G1:(D.setCell ⟨b,6,none⟩ (.int .i64 m.aO)).heap[w.heap.size]?=some (.cells #[m.kind,m.src,m.dst,m.ah,m.ak,m.aO,m.pos,m.value,.slice a1 m.af.length d1,.slice a2 m.log.length d2] 134):=(cJ _ _ _ _ hne').trans HD2.out;generalize D.setCell ⟨b,6,none⟩ (.int .i64 m.aO)=W1 at *;clear y5 y8 e6 f6;refine (HC.out W1 M1).mono ?_
  rintro e Y ⟨x,c,rfl,o1,hl⟩;have M2:=M1.below hl;have B2:=(hl.block _ (aQ B1)).trans B1;have G2:=(hl.block _ (aQ G1)).trans G1;have O1:=ae (aP o1 M1.size);have e7:=aj B2 7;have f7:=aW B2 7;have HB2:=ae B2;have HG2:=ae G2;have y9:=aj HG2.out 9;clear o1 B1 B2 G1 G2;go_wp2_with fail;have B3:=G6 (.slice x m.af.length c) HB2.out;have M3:=M2.setCell ⟨b,7,none⟩ rfl (.slice x m.af.length c);have o3:(Y.setCell ⟨b,7,none⟩ (.slice x m.af.length c)).ownsRow W1.heap.size 3 1 (.slice x m.af.length c) m.af.length (aJ m.af):=bu O1.out.1 (aY HB2.out O1.out.1 (by decide)) _
  generalize Y.setCell ⟨b,7,none⟩ (.slice x m.af.length c)=W3 at *;have O3:=ae o3;have HB3:=ae B3;clear e7 f7 o3 B3 y9;refine (HD.out W3 M3).mono ?_
  rintro e V ⟨x2,c2,rfl,o4,hl2⟩;have M4:=M3.below hl2;have B4:=(hl2.block _ (aQ HB3.out)).trans HB3.out;have O4:=ae (aP o4 M3.size);have CN:=ae (aS O3.out fun k _ hk=>hl2.block k hk);have e8:=aj B4 8;have f8:=aW B4 8;have oO:=ae B4;clear o4 B4;go_wp2_with fail;go_end0;have B5:=BI (.slice x2 m.log.length c2) oO.out;have M5:=M4.setCell ⟨b,8,none⟩ rfl (.slice x2 m.log.length c2);have o5:(V.setCell ⟨b,8,none⟩ (.slice x2 m.log.length c2)).ownsRow W3.heap.size 42 5 (.slice x2 m.log.length c2) m.log.length (aJ (bk m.log)):=bu O4.out.1 (aY oO.out O4.out.1 (by decide)) _
  have o6:(V.setCell ⟨b,8,none⟩ (.slice x2 m.log.length c2)).ownsRow W1.heap.size 3 1 (.slice x m.af.length c) m.af.length (aJ m.af):=bu CN.out (aY oO.out CN.out (by decide)) _
  refine⟨⟨_,rfl⟩, ?_⟩
  rw[HT.out];exact HI.out.next M5 { p with aO:=m.aO,af:=m.af,log:=m.log } _ _ _ rfl B5 (HI.out.beside M5 HI.out.ho (by decide)) (obs o6 (bl _)) (obs o5 (bl _)) (fun k e=>.inl e) (fun k e=>by obtain⟨_,_,h3⟩:=bK o6 e;have:=O1.out.2;exact .inr (by omega)) (fun k e=>by obtain⟨_,_,h3⟩:=bK o5 e;have:=O4.out.2;exact .inr (by omega))
 ·have HT:Hid (p.dS m=p):=ae (by rw[HL.out,if_neg hlt])
  go_quiet (fail);have hbD:=aV hbX nq;clear gM s6;go_wp2_with fail;go_end0;refine⟨⟨_,rfl⟩, ?_⟩
  rw[HT.out];exact jx.still HA.out hbD
theorem Qd (F:Nat->Prop)(b:Nat)(own:Int)(p:bh)(m:aK)(mm ml:Value)(w:World)(h:fM w F b own p)(hmm:bd w mm m.af)(hml:bw w ml m.log)(eC:m.af.length<=5)(ja:m.log.length<=24)(he:0<=m.ah/\m.ah<=100000) :
  Calls prog 243 #[b,bL m mm ml] w fun e w'=>(∃ v,e=.returned v)/\jx w w' F b own (p.learn m):=by
 have HA:=ae h;have HR:Hid (∀ W,ai w W->Calls prog 246 #[b,bL m mm ml] W fun e w'=>(∃ v,e=.returned v)/\jx W w' F b own (p.gq m)):=ae fun W hb=>Qb F b own p m mm ml W (by obtain⟨vw,vo,vm,vl,h⟩:=h;exact⟨vw,vo,vm,vl,h.below hb⟩) (aS hmm fun k _ hk=>hb.block k hk) eC he
 have HV:Hid (∀ W,ai w W->Calls prog 247 #[b,bL m mm ml] W fun e w'=>(∃ v,e=.returned v)/\jx W w' F b own (p.dS m)):=ae fun W hb=>Qc F b own p m mm ml W (by obtain⟨vw,vo,vm,vl,h⟩:=h;exact⟨vw,vo,vm,vl,h.below hb⟩) (aS hmm fun k _ hk=>hb.block k hk) (aS hml fun k _ hk=>hb.block k hk) eC ja
 have fj:Hid (∀ W w' p',ai w W->jx W w' F b own p'->jx w w' F b own p'):=ae (by
  rintro W w' p' hb ⟨F',h1,h2,h3⟩;refine⟨F',h1,((Moved.refl w F).below hb).trans h2 (fun k _ hk=>hk),fun k hk => ?_⟩
  rcases h3 k hk with h4|h4
  ·exact .inl h4
  ·exact .inr (by have:=hb.size;omega))
 obtain⟨vw,vo,vm,vl,h⟩:=h;have hbl:b<w.heap.size:=h.lt b h.fb;have HI:=ae h;obtain⟨a1,d1,rfl⟩:=aM hmm;obtain⟨a2,d2,rfl⟩:=aM hml;have HD:Hid (∀ W,ai w W->Calls prog 147 #[.slice a2 m.log.length d2] W fun e w'=>∃ x c,e=.returned (.slice x m.log.length c)/\w'.ownsRow W.heap.size 42 5 (.slice x m.log.length c) m.log.length (aJ (bk m.log))/\ai W w'):=ae fun W hb=>pO _ m.log W (aS hml fun k _ hk=>hb.block k hk) (by omega)
 have HL:Hid (p.learn m=if p.doing=1 then p.gq m else if p.doing=2 then { p with log:=m.log } else if p.doing=3 then p.dS m else p):=ae rfl
 clear h hmm hml;unfold bL at *;have hne:¬ b=w.heap.size:=by omega
 have hne':¬ w.heap.size=b:=by omega
 generalize hd:p.doing=d at *;have Cn:=ae hd;clear hd;go_enter func243,ntmps243;go_upto_region 1 with fail
 obtain⟨X,hX,hbX,hM⟩:=dk w m (.slice a1 m.af.length d1) (.slice a2 m.log.length d2);rw[hX];clear hX;have IX:=ae (HI.out.below hbX);have s2:X.cell? (b,2)=some (.int .i64 d):=by rw[<- Cn.out];exact aj IX.out.blk 2
 have s8:=aj IX.out.blk 8;have z8:=aW IX.out.blk 8;have gM:=fun j=>aj hM j;have HM:=ae hM;clear hM;cases t1:(d == 1) with
 | true =>
  have HT:Hid (p.learn m=p.gq m):=ae (by rw[HL.out,if_pos (by simpa using t1)])
  go_wp2_with fail;refine (HR.out _ hbX).mono ?_
  rintro e Y ⟨⟨v,rfl⟩,hto⟩;clear gM s2 s8 z8;go_wp2_with fail;go_end0;refine⟨⟨_,rfl⟩, ?_⟩
  rw[HT.out];exact fj.out _ _ _ hbX hto
 | false =>
  have N1:Hid (¬ d=1):=ae (by simpa using t1)
  cases t2:(d == 2) with
  | true =>
   have HT:Hid (p.learn m={ p with log:=m.log }):=ae (by rw[HL.out,if_neg N1.out,if_pos (by simpa using t2),Cn.out])
   go_wp2_with fail;refine (HD.out _ hbX).mono ?_
   rintro e Y ⟨x,c,rfl,o1,hl⟩;have bt:=hbX.trans (hl.mono hbX.size);have IY:=ae (HI.out.below bt);have O1:=ae (aP o1 hbX.size);have e8:=aj IY.out.blk 8;have f8:=aW IY.out.blk 8;clear o1 gM s2 s8 z8;go_wp2_with fail;go_end0;have B3:=BI (.slice x m.log.length c) IY.out.blk;have M3:=((Moved.refl w (fun k=>k=b)).below bt).setCell ⟨b,8,none⟩ rfl (.slice x m.log.length c);have o3:(Y.setCell ⟨b,8,none⟩ (.slice x m.log.length c)).ownsRow X.heap.size 42 5 (.slice x m.log.length c) m.log.length (aJ (bk m.log)):=bu O1.out.1 (aY IY.out.blk O1.out.1 (by decide)) _
   refine⟨⟨_,rfl⟩, ?_⟩
   rw[HT.out];exact HI.out.next M3 { p with log:=m.log } _ _ _ rfl B3 (HI.out.beside M3 HI.out.ho (by decide)) (HI.out.beside M3 HI.out.hm (by decide)) (obs o3 (bl _)) (fun k e=>.inl e) (fun k e=>.inl e) (fun k e=>by obtain⟨_,_,h3⟩:=bK o3 e;have:=O1.out.2;exact .inr (by omega))
  | false =>
   have N2:Hid (¬ d=2):=ae (by simpa using t2)
   cases t3:(d == 3) with
   | true =>
    have HT:Hid (p.learn m=p.dS m):=ae (by rw[HL.out,if_neg N1.out,if_neg N2.out,if_pos (by simpa using t3)])
    go_wp2_with fail;refine (HV.out _ hbX).mono ?_
    rintro e Y ⟨⟨v,rfl⟩,hto⟩;clear gM s2 s8 z8;go_wp2_with fail;go_end0;refine⟨⟨_,rfl⟩, ?_⟩
    rw[HT.out];exact fj.out _ _ _ hbX hto
   | false =>
    have N3:Hid (¬ d=3):=ae (by simpa using t3)
    have HT:Hid (p.learn m=p):=ae (by rw[HL.out,if_neg N1.out,if_neg N2.out,if_neg N3.out])
    go_wp2_with fail;go_end0;refine⟨⟨_,rfl⟩, ?_⟩
    rw[HT.out];exact jx.still HA.out hbX
theorem fM.below (h:fM w F b own p)(hb:ai w w'):fM w' F b own p:=by
 obtain⟨vw,vo,vm,vl,h⟩:=h;exact⟨vw,vo,vm,vl,h.below hb⟩
theorem gQ.still (h:fM w F b own p)(hb:ai w w'):gQ w w' F b own (.returned true) (p,[]) :=
 ⟨_,F,rfl,h.below hb,(Moved.refl w F).below hb,fun _ h=>.inl h,a_.nil _ _⟩
theorem gQ.Ga (h:jx w w' F b own p):gQ w w' F b own (.returned true) (p,[]):=by
 obtain⟨F',h1,h2,h3⟩:=h;exact⟨_,F',rfl,h1,h2,h3,a_.nil _ _⟩
theorem y_ {e:Ending}{q:bh × List aK}(hb:ai w W)(h:gQ W w' F b own e q):gQ w w' F b own e q :=
 gQ.after ((Moved.refl w F).below hb) (fun _ hk=>.inl hk) h
theorem MS (F:Nat->Prop)(b:Nat)(own:Int)(p:bh)(w:World)(h:fM w F b own p)(ok:l7 p own) :
  Calls prog 245 #[b] w fun e w'=>gQ w w' F b own e (p.fN own):=by
 have HA:=ae h;have HT:Hid (∀ W F' p' d va l,fM W F' b own p'->l7 p' own->bd W va l->l.length<=5->0<=d/\d<=6->Calls prog 70 #[b,.int .i64 d,va] W fun e w'=>gQ W w' F' b own e (p'.dQ own d l)):=ae fun W F' p' d va l h1 h2 h3 h4 h5=>Hs F' b own p' d va l W h1 h2 h3 h4 h5;have HC:=fun W=>ae (CS W);have HR:Hid (∀ W F' p',fM W F' b own p'->Calls prog 240 #[b] W fun e w'=>(∃ v,e=.returned v)/\jx W w' F' b own p'.idle):=ae fun W F' p' h=>GN F' b own p' W h;have HK:=ae ok;have HG:Hid (p.fN own=if p.doing=1 then { p with old:=[] }.dQ own 2 p.old else if p.doing=2 then p.dQ own 3 [100,101,102] else if p.doing=3 then p.dQ own 4 [100,101,102] else if p.doing=4 then p.dQ own 5 p.af else if p.doing=5 then p.dQ own 6 [100,101,102] else (p.idle,[])):=ae rfl
 have hd:=ok.d;clear ok;obtain⟨vw,vo,vm,vl,h⟩:=h;obtain⟨ao,co,rfl⟩:=aM h.ho;obtain⟨am,cm,rfl⟩:=aM h.hm;have HI:=ae h;have hbl:b<w.heap.size:=h.lt b h.fb;have c2:=aj h.blk 2;have c5:=aj h.blk 5;have f5:=aW h.blk 5;have c7:=aj h.blk 7;clear h;generalize hdd:p.doing=d at *;have Vc:=ae hdd;clear hdd;rcases (by omega:d=0\/d=1\/d=2\/d=3\/d=4\/d=5\/d=6) with rfl|rfl|rfl|rfl|rfl|rfl|rfl
 ·have HQ:Hid (p.fN own=(p.idle,[])):=ae (by rw[HG.out];rfl)
  clear HG;go_enter func245,ntmps245;go_wp2_with fail;refine (HR.out _ _ _ HA.out).mono ?_
  rintro e W ⟨⟨v,rfl⟩,hto⟩;clear c2 c5 f5 c7;go_wp2_with fail;go_ret;rw[HQ.out];exact gQ.Ga hto
 ·have HQ:Hid (p.fN own={ p with old:=[] }.dQ own 2 p.old):=ae (by rw[HG.out];rfl)
  clear HG;go_enter func245,ntmps245;go_wp2_with fail;have M1:Moved w (w.setCell ⟨b,5,none⟩ (.slice none 0 0)) (fun k=>k=b):=(Moved.refl w (fun k=>k=b)).setCell ⟨b,5,none⟩ rfl _;have B1:=BH (.slice none 0 0) HI.out.blk;generalize w.setCell ⟨b,5,none⟩ (.slice none 0 0)=W1 at *;clear c2 c5 f5 c7;obtain⟨F1,h1,h2,h3⟩:=HI.out.next M1 { p with old:=[] } (.slice none 0 0) (.slice am p.af.length cm) vl rfl B1 (bE _ _ _ _) (HI.out.beside M1 HI.out.hm (by decide)) (HI.out.beside M1 HI.out.hl (by decide)) (fun k e=>absurd e eQ) (fun k e=>.inl e) (fun k e=>.inl e)
  have H1:=ae (aP h1 (aP h2 h3));clear h1 h2 h3;refine (HT.out W1 F1 { p with old:=[] } 2 _ p.old H1.out.1 ⟨HK.out.w,by simp,HK.out.m,HK.out.l,HK.out.b,HK.out.d,HK.out.n⟩ (HI.out.beside M1 HI.out.ho (by decide)) HK.out.o (by omega)).mono ?_
  intro e Z hO;obtain⟨v,F',rfl,r1,r2,r3,r4⟩:=hO;obtain⟨a8,c8,rfl⟩:=r4.shape;have HR:=ae (aP r1 (aP r2 (aP r3 r4)));clear r1 r2 r3 r4;generalize hpl:(({ p with old:=[] }:bh).dQ own 2 p.old).2.length=pl at *
  go_wp2_with fail;go_ret;rw[HQ.out];exact gQ.after H1.out.2.1 H1.out.2.2 ⟨_,F',rfl,HR.out.1,HR.out.2.1,HR.out.2.2.1,HR.out.2.2.2⟩
 ·have HQ:Hid (p.fN own=p.dQ own 3 [100,101,102]):=ae (by rw[HG.out];rfl)
  clear HG;go_enter func245,ntmps245;go_wp2_with fail;refine ((HC w).out).mono ?_
  rintro e A ⟨x2,c2',rfl,o4,fp⟩;have O4:=ae (aP o4 fp);clear o4 fp c2 c5 f5 c7;go_wp2_with fail;refine (HT.out A F p 3 _ [100,101,102] (HA.out.below O4.out.2) HK.out (obs O4.out.1 (bl _)) (by simp) (by omega)).mono ?_
  intro e Z hO;obtain⟨v,F',rfl,r1,r2,r3,r4⟩:=hO;obtain⟨a8,c8,rfl⟩:=r4.shape;have HR:=ae (aP r1 (aP r2 (aP r3 r4)));clear r1 r2 r3 r4;generalize hpl:(p.dQ own 3 [100,101,102]).2.length=pl at *;go_wp2_with fail;go_ret;rw[HQ.out];exact y_ O4.out.2 ⟨_,F',rfl,HR.out.1,HR.out.2.1,HR.out.2.2.1,HR.out.2.2.2⟩
 ·have HQ:Hid (p.fN own=p.dQ own 4 [100,101,102]):=ae (by rw[HG.out];rfl)
  clear HG;go_enter func245,ntmps245;go_wp2_with fail;refine ((HC w).out).mono ?_
  rintro e A ⟨x2,c2',rfl,o4,fp⟩;have O4:=ae (aP o4 fp);clear o4 fp c2 c5 f5 c7;go_wp2_with fail;refine (HT.out A F p 4 _ [100,101,102] (HA.out.below O4.out.2) HK.out (obs O4.out.1 (bl _)) (by simp) (by omega)).mono ?_
  intro e Z hO;obtain⟨v,F',rfl,r1,r2,r3,r4⟩:=hO;obtain⟨a8,c8,rfl⟩:=r4.shape;have HR:=ae (aP r1 (aP r2 (aP r3 r4)));clear r1 r2 r3 r4;generalize hpl:(p.dQ own 4 [100,101,102]).2.length=pl at *;go_wp2_with fail;go_ret;rw[HQ.out];exact y_ O4.out.2 ⟨_,F',rfl,HR.out.1,HR.out.2.1,HR.out.2.2.1,HR.out.2.2.2⟩
 ·have HQ:Hid (p.fN own=p.dQ own 5 p.af):=ae (by rw[HG.out];rfl)
  clear HG;go_enter func245,ntmps245;go_wp2_with fail;refine (HT.out w F p 5 _ p.af HA.out HK.out HI.out.hm HK.out.m (by omega)).mono ?_
  intro e Z hO;obtain⟨v,F',rfl,r1,r2,r3,r4⟩:=hO;obtain⟨a8,c8,rfl⟩:=r4.shape;have HR:=ae (aP r1 (aP r2 (aP r3 r4)));clear r1 r2 r3 r4 c2 c5 f5 c7;generalize hpl:(p.dQ own 5 p.af).2.length=pl at *;go_wp2_with fail;go_ret;rw[HQ.out];exact⟨_,F',rfl,HR.out.1,HR.out.2.1,HR.out.2.2.1,HR.out.2.2.2⟩
 ·have HQ:Hid (p.fN own=p.dQ own 6 [100,101,102]):=ae (by rw[HG.out];rfl)
  clear HG;go_enter func245,ntmps245;go_wp2_with fail;refine ((HC w).out).mono ?_
  rintro e A ⟨x2,c2',rfl,o4,fp⟩;have O4:=ae (aP o4 fp);clear o4 fp c2 c5 f5 c7;go_wp2_with fail;refine (HT.out A F p 6 _ [100,101,102] (HA.out.below O4.out.2) HK.out (obs O4.out.1 (bl _)) (by simp) (by omega)).mono ?_
  intro e Z hO;obtain⟨v,F',rfl,r1,r2,r3,r4⟩:=hO;obtain⟨a8,c8,rfl⟩:=r4.shape;have HR:=ae (aP r1 (aP r2 (aP r3 r4)));clear r1 r2 r3 r4;generalize hpl:(p.dQ own 6 [100,101,102]).2.length=pl at *;go_wp2_with fail;go_ret;rw[HQ.out];exact y_ O4.out.2 ⟨_,F',rfl,HR.out.1,HR.out.2.1,HR.out.2.2.1,HR.out.2.2.2⟩
 ·have HQ:Hid (p.fN own=(p.idle,[])):=ae (by rw[HG.out];rfl)
  clear HG;go_enter func245,ntmps245;go_wp2_with fail;refine (HR.out _ _ _ HA.out).mono ?_
  rintro e W ⟨⟨v,rfl⟩,hto⟩;clear c2 c5 f5 c7;go_wp2_with fail;go_ret;rw[HQ.out];exact gQ.Ga hto
theorem Pj (l:List Int)(i:Nat):(aJ l).eraseIdx i=aJ (l.eraseIdx i):=by
 rw[tP,tP];unfold aJ;simp[List.map_take,List.map_drop]
theorem Qe (h:l7 p own)(hm:m.af.length<=5)(hl:m.log.length<=24)(hx:(p.waits.eraseIdx (p.waits.idxOf m.src)).length<=5):l7 ((p.less m.src).learn m) own:=by
 unfold bh.learn bh.gq bh.dS;split
 ·split
  ·exact⟨hx,hm,h.m,h.l,h.b,h.d,h.n⟩
  ·exact⟨hx,h.o,h.m,h.l,h.b,h.d,h.n⟩
 ·split
  ·exact⟨hx,h.o,h.m,hl,h.b,h.d,h.n⟩
  ·split
   ·split
    ·exact⟨hx,h.o,hm,hl,h.b,h.d,h.n⟩
    ·exact⟨hx,h.o,h.m,h.l,h.b,h.d,h.n⟩
   ·exact⟨hx,h.o,h.m,h.l,h.b,h.d,h.n⟩
theorem iF.Qg {D Y:World}{g:Nat}(h:iF w F b own p (.slice (some g) p.waits.length cap) vo vm vl)(hD:ai w D)(hT:qH D Y g)(p':bh)(v':Value)
  (hv:v'.ownBlock=some g) (hb:p'.begun=p.begun) (hd:p'.doing=p.doing) (he:p'.ah=p.ah) (ho:p'.old=p.old) (lK:p'.aO=p.aO) (hm:p'.af=p.af) (hl:p'.log=p.log) (hr:bd Y v' p'.waits) :
  iF (Y.setCell ⟨b,3,none⟩ v') (sS F w (Y.setCell ⟨b,3,none⟩ v')) b own p' v' vo vm vl/\Moved w (Y.setCell ⟨b,3,none⟩ v') F:=by
 have hbl:b<w.heap.size:=h.lt b h.fb;have uo:F g:=h.fw g rfl;have hgb:g≠b:=fun e=>aY h.blk h.hw (by decide) (by rw[<- e];rfl)
 have Eu:Y.heap[b]?=some (.cells #[.int .i64 own,.int .i64 (p.begun:Int),p.doing,.slice (some g) p.waits.length cap,p.ah,vo,p.aO,vm,vl] 146):=(hT.block b (Ne.symm hgb)).trans ((hD.block b hbl).trans h.blk);have B3:=BG v' Eu;have kx:Moved w Y F:=⟨hT.os.trans hD.os,hT.tape.trans hD.tape,hT.output.trans hD.output,by rw[hT.size];exact hD.size,fun k hk hF=>(hT.block k (fun e=>hF (e ▸ uo))).trans (hD.block k hk)⟩
 have hM:Moved w (Y.setCell ⟨b,3,none⟩ v') F:=kx.setCell ⟨b,3,none⟩ h.fb _;have hrow:∀ {base size n:Nat} {e:TypeId} {v:Value} {xs:List Value},w.ownsRow base e size v n xs->e≠146->v.ownBlock≠some g->(Y.setCell ⟨b,3,none⟩ v').ownsRow base e size v n xs:=by
  intro base size n e v xs hv h1 h2;have hY:Y.ownsRow base e size v n xs:=cG hv fun k e=>(hT.block k (fun e2=>h2 (e2 ▸ e))).trans (hD.block k (dL.1 (bK hv e).choose_spec.1).1);exact bu hY (aY h.blk hv h1) _
 refine⟨h.turn p' v' vo vm vl ?_ hM.size ?_ ?_ ?_ ?_ (fun k e=>.inl (by rw[hv] at e;cases e;exact uo)) (fun k e=>.inl (h.fo k e)) (fun k e=>.inl (h.fm k e)) (fun k e=>.inl (h.fl k e)) (fun k e=>by rw[hv] at e;cases e;exact h.ap g rfl),hM⟩
 ·rw[hb,hd,he,lK]
  exact B3
 ·exact bu hr (aY Eu hr (by decide)) _
 ·rw[ho];exact hrow h.ho (by decide) (h.ap g rfl).1
 ·rw[hm];exact hrow h.hm (by decide) (h.ap g rfl).2
 ·rw[hl];exact hrow h.hl (by decide) (fun e=>bM h.hw h.hl (by decide) g rfl e)
theorem QD (F:Nat->Prop)(b:Nat)(own:Int)(p:bh)(m:aK)(mm ml:Value)(w:World)(h:fM w F b own p)(ok:l7 p own)(hmm:bd w mm m.af)(hml:bw w ml m.log)(eC:m.af.length<=5)(ja:m.log.length<=24)(he:0<=m.ah/\m.ah<=100000)
  (ux:∀ k,mm.ownBlock=some k->¬ F k) (Am:∀ k,ml.ownBlock=some k->¬ F k) :
  Calls prog 239 #[b,bL m mm ml] w fun e w'=>gQ w w' F b own e (p.take own m):=by
 have HA:=ae h;have HQ:Hid (∀ W,ai w W->Calls prog 241 #[b,bL m mm ml] W fun e w'=>e=.returned (.bool (p.mV own m))/\ai W w'):=ae fun W hb=>Pm F b own p m mm ml W (h.below hb) ok;have HL:Hid (∀ W F' p',fM W F' b own p'->bd W mm m.af->bw W ml m.log->Calls prog 243 #[b,bL m mm ml] W fun e w'=>(∃ v,e=.returned v)/\jx W w' F' b own (p'.learn m)):=ae fun W F' p' h1 h2 h3=>Qd F' b own p' m mm ml W h1 h2 h3 eC ja he;have HE:Hid (∀ W F' p',fM W F' b own p'->Calls prog 244 #[b] W fun e w'=>e=.returned (.bool p'.enough)/\w'=W):=ae fun W F' p' h1=>Nl F' b own p' W h1;have HG:Hid (∀ W F' p',fM W F' b own p'->l7 p' own->Calls prog 245 #[b] W fun e w'=>gQ W w' F' b own e (p'.fN own)):=ae fun W F' p' h1 h2=>MS F' b own p' W h1 h2;have HT:Hid (p.take own m=if m.src∈p.waits/\p.mV own m=true then (if ((p.less m.src).learn m).enough=true then ((p.less m.src).learn m).fN own else ((p.less m.src).learn m,[])) else (p,[])):=ae rfl
 have IW:=ae ok;obtain⟨vw,vo,vm,vl,h⟩:=h;have hbl:b<w.heap.size:=h.lt b h.fb;obtain⟨aw,cw,rfl⟩:=aM h.hw;have HI:=ae h;obtain⟨a1,d1,rfl⟩:=aM hmm;obtain⟨a2,d2,rfl⟩:=aM hml;have HX:Hid (∀ W,ai w W->Calls prog 152 #[.slice aw p.waits.length cw,m.src] W fun e w'=>e=.returned (.int .i64 (gU p.waits m.src))/\w'=W):=ae fun W hb=>w_ _ p.waits m.src W (bJ.cM (obs (h.below hb).hw (aG _))) (by have:=ok.w;omega)
 have tn:=ae (aP hmm hml);have AG:=ok.w;have hne:¬ b=w.heap.size:=by omega
 have hne':¬ w.heap.size=b:=by omega
 clear h ok hmm hml;unfold bL at *;by_cases hin:m.src∈p.waits
 ·have hix:gU p.waits m.src=((p.waits.idxOf m.src:Nat):Int):=by unfold gU;rw[if_pos hin]
  rw[hix] at HX;have hil:p.waits.idxOf m.src<p.waits.length:=List.idxOf_lt_length_of_mem hin;obtain⟨g,cap,hsl, -, -⟩:=HI.out.hw.form (by omega)
  cases hsl;have yn:Hid (∀ W,ai w W->Calls prog 242 #[.slice (some g) p.waits.length cw,.int .i64 ((p.waits.idxOf m.src:Nat):Int),.int .i64 (((p.waits.idxOf m.src:Nat):Int)+1)] W fun e w'=>e=.returned (.slice (some g) (p.waits.length-1) cw)/\w'.ownsRow 0 3 1 (.slice (some g) (p.waits.length-1) cw) (p.waits.length-1) ((aJ p.waits).eraseIdx (p.waits.idxOf m.src))/\qH W w' g):=ae fun W hb=>LW 0 g p.waits.length cw (p.waits.idxOf m.src) (aJ p.waits) W (HI.out.below hb).hw (kE _) hil;have yj:Hid (((aJ p.waits).eraseIdx (p.waits.idxOf m.src))=aJ (p.less m.src).waits/\p.waits.length-1=(p.less m.src).waits.length):=ae ⟨Pj _ _,by unfold bh.less;simp only;rw[List.length_eraseIdx,if_pos hil]⟩
  have I_:Hid (l7 ((p.less m.src).learn m) own):=ae (Qe IW.out eC ja (by rw[List.length_eraseIdx];split<;>omega))
  have tm:=ae hin;clear hix hin;generalize hii:p.waits.idxOf m.src=i at *;have hwr:IntKind.i64.wrap ((i:Int)+1)=(i:Int)+1:=by rw[dV];omega
  have hi0:¬ (i:Int)<0:=by omega
  go_enter func239,ntmps239;go_upto_region 1 with fail
  obtain⟨X,hX,hbX,hM⟩:=dk w m (.slice a1 m.af.length d1) (.slice a2 m.log.length d2);rw[hX];clear hX;have IX:=ae (HI.out.below hbX);have s3:=aj IX.out.blk 3;have gM:=fun j=>aj hM j;have HM:=ae hM;clear hM;go_quiet ((go_at_call 152;refine (HX.out _ (aV hbX _)).mono ?_;rintro e w9 ⟨rfl,rfl⟩;exact⟨rfl,_,rfl⟩))
  have hbD:=aV hbX nq;have HD2:Hid ((X.drewN nq).heap[w.heap.size]?=some (.cells #[m.kind,m.src,m.dst,m.ah,m.ak,m.aO,m.pos,m.value,.slice a1 m.af.length d1,.slice a2 m.log.length d2] 134)):=HM;generalize X.drewN nq=D at *;clear gM s3 HM IX;have gD:=fun j=>aj HD2.out j;go_wp2_with fail;refine (HQ.out D hbD).mono ?_
  rintro e Y ⟨rfl,bt⟩;have mQ:=hbD.trans (bt.mono hbD.size);have Cm:Hid (Y.heap[w.heap.size]?=some (.cells #[m.kind,m.src,m.dst,m.ah,m.ak,m.aO,m.pos,m.value,.slice a1 m.af.length d1,.slice a2 m.log.length d2] 134)):=ae ((bt.block _ (aQ HD2.out)).trans HD2.out);clear gD HD2;cases Ev:p.mV own m with
  | false =>
   have HV:Hid (p.take own m=(p,[])):=ae (by rw[HT.out,if_neg (by rw[Ev];simp)])
   go_wp2_with fail;go_ret;rw[HV.out];exact gQ.still HA.out mQ
  | true =>
   have HV:Hid (p.take own m=if ((p.less m.src).learn m).enough=true then ((p.less m.src).learn m).fN own else ((p.less m.src).learn m,[])):=ae (by rw[HT.out,if_pos ⟨tm.out,Ev⟩])
   have IY:=ae (HI.out.below mQ);have y3:=aj IY.out.blk 3;go_wp2_with fail;refine (yn.out Y mQ).mono ?_
   rintro e Z ⟨rfl,hrow,hturn⟩;rw[yj.out.1,yj.out.2] at hrow;have hgb:g≠b:=fun e=>aY HI.out.blk HI.out.hw (by decide) (by rw[<- e];rfl)
   have CF:=ae ((hturn.block b (Ne.symm hgb)).trans IY.out.blk);have z3:=aj CF.out 3;have Va:=aW CF.out 3;have HLen:=HI.out.Qg mQ hturn (p.less m.src) (.slice (some g) (p.less m.src).waits.length cw) rfl rfl rfl rfl rfl rfl rfl rfl hrow;rw[yj.out.2];have gZ:=fun j=>aj ((hturn.block _ (fun e=>by have:=HI.out.lt g (HI.out.fw g rfl);omega)).trans Cm.out) j
   have Vd:=ae hrow;clear y3 hrow hturn IY Cm;go_wp2_with fail;obtain⟨Cs,Cw⟩:=HLen;generalize Z.setCell ⟨b,3,none⟩ (.slice (some g) (p.less m.src).waits.length cw)=W3 at *;clear z3 Va;clear gZ;have HI3:=ae (aP Cs Cw);clear Cs Cw;refine (HL.out W3 _ (p.less m.src) ⟨_,_,_,_,HI3.out.1⟩ (HI3.out.2.owns tn.out.1 ux) (HI3.out.2.owns tn.out.2 Am)).mono ?_
   rintro e V ⟨⟨v,rfl⟩,F1,t1,t2,t3⟩;have fj:=ae (aP t1 (aP t2 t3));clear t1 t2 t3;go_wp2_with fail;refine (HE.out V F1 _ fj.out.1).mono ?_
   rintro e V' ⟨rfl,rfl⟩;have Ec:Moved w V' F/\∀ k,F1 k->F k\/w.heap.size<=k:=by
    have hs:=HI3.out.2.size;refine⟨HI3.out.2.trans fj.out.2.1 (fun k hk h5 => ?_),fun k hk => ?_⟩
    ·rcases h5 with h6|h6
     ·exact h6
     ·omega
    ·rcases fj.out.2.2 k hk with h6|h6
     ·rcases h6 with h7|h7
      ·exact .inl h7
      ·exact .inr h7.1
     ·exact .inr (by omega)
   have vy:=ae Ec;clear Ec;generalize V9:(p.less m.src).learn m=q9 at *;cases hen:q9.enough with
   | false =>
    have qG:Hid (p.take own m=(q9,[])):=ae (by rw[HV.out,if_neg (by rw[hen];simp)])
    go_wp2_with fail;go_ret;rw[qG.out];exact⟨_,F1,rfl,fj.out.1,vy.out.1,vy.out.2,a_.nil _ _⟩
   | true =>
    have qG:Hid (p.take own m=q9.fN own):=ae (by rw[HV.out,if_pos hen])
    go_wp2_with fail;refine (HG.out V' F1 q9 fj.out.1 I_.out).mono ?_
    intro e Z2 hO;obtain⟨v2,F2,rfl,r1,r2,r3,r4⟩:=hO;obtain⟨a8,c8,rfl⟩:=r4.shape;have HR:=ae (aP r1 (aP r2 (aP r3 r4)));clear r1 r2 r3 r4;generalize hpl:(q9.fN own).2.length=pl at *;go_wp2_with fail;go_ret;rw[qG.out];exact gQ.after vy.out.1 vy.out.2 ⟨_,F2,rfl,HR.out.1,HR.out.2.1,HR.out.2.2.1,HR.out.2.2.2⟩
 ·have hix:gU p.waits m.src = -1:=by unfold gU;rw[if_neg hin]
  rw[hix] at HX;have HV:Hid (p.take own m=(p,[])):=ae (by rw[HT.out,if_neg (fun e=>hin e.1)])
  have tm:=ae hin;clear hin hix;go_enter func239,ntmps239;go_upto_region 1 with fail
  obtain⟨X,hX,hbX,hM⟩:=dk w m (.slice a1 m.af.length d1) (.slice a2 m.log.length d2);rw[hX];clear hX;have IX:=ae (HI.out.below hbX);have s3:=aj IX.out.blk 3;have gM:=fun j=>aj hM j;clear hM;go_quiet ((go_at_call 152;refine (HX.out _ (aV hbX _)).mono ?_;rintro e w9 ⟨rfl,rfl⟩;exact⟨rfl,_,rfl⟩))
  have hbD:=aV hbX nq;clear gM s3;go_wp2_with fail;go_ret;rw[HV.out];exact gQ.still HA.out hbD
def eW (w:World)(F:Nat->Prop)(b:Nat)(own:Int):bT->Prop
 | .bq r=>(∃ vm vl,dh w b own r vm vl/\(∀ k,lz b vm vl k->F k)/\∀ k,F k->k<w.heap.size)/\(r.up=false->r.aU=r.base)
 | .acc a=>kJ w F b own a
 | .aX s=>(∃ p,eN own s p/\fM w F b own p)/\(s.up=false->s.does=0)
structure si (n:Nat)(E:Int)(own:Int)(x:bT):Prop where
 n5:n<=5
 E0:0<=E/\E<=2000
 bq:∀ r,x=.bq r->gj n E r
 acc:∀ a,x=.acc a->ns n E a
 aX:∀ s,x=.aX s->d_ n E s/\200<=own/\own<=201
theorem dh.keep (h:dh w b own r vm vl)(hk:∀ k,lz b vm vl k->w'.heap[k]?=w.heap[k]?):dh w' b own r vm vl :=
 ⟨(hk b (.inl rfl)).trans h.blk,cG h.hm fun k e=>hk k (.inr (.inl e)),cG h.hl fun k e=>hk k (.inr (.inr e))⟩
theorem xj (h:k<w.heap.size)(hk:w'.heap[k]?=w.heap[k]?):k<w'.heap.size:=by
 rw[Array.getElem?_eq_getElem h] at hk
 exact (aQ hk)
theorem eW.keep {x:bT}(h:eW w F b own x)(hk:∀ k,F k->w'.heap[k]?=w.heap[k]?):eW w' F b own x:=by
 cases x with
 | bq r =>
  obtain⟨⟨vm,vl,h1,h2,h3⟩,h4⟩:=h;exact⟨⟨vm,vl,h1.keep fun k e=>hk k (h2 k e),h2,fun k e=>xj (h3 k e) (hk k e)⟩,h4⟩
 | acc a =>
  obtain⟨vm,g,l,h⟩:=h;exact⟨vm,g,l,h.keep hk⟩
 | aX s =>
  obtain⟨⟨p,h1,vw,vo,vm,vl,h2⟩,h3⟩:=h;exact⟨⟨p,h1,vw,vo,vm,vl,h2.keep hk⟩,h3⟩
theorem eW.lt {x:bT}(h:eW w F b own x)(hk:F k):k<w.heap.size:=by
 cases x with
 | bq r =>
  obtain⟨⟨vm,vl,h1,h2,h3⟩,h4⟩:=h;exact h3 k hk
 | acc a =>
  obtain⟨vm,g,l,h⟩:=h;exact h.lt k hk
 | aX s =>
  obtain⟨⟨p,h1,vw,vo,vm,vl,h2⟩,h3⟩:=h;exact h2.lt k hk
def nt (w w':World)(F:Nat->Prop)(b:Nat)(own:Int)(e:Ending)(q:bT × List aK):Prop :=
 ∃ v F',e=.returned v/\eW w' F' b own q.1/\Moved w w' F/\(∀ k,F' k->F k\/w.heap.size<=k)/\a_ w' w.heap.size v q.2
def tw (w w':World)(F:Nat->Prop)(b:Nat)(own:Int)(x:bT):Prop :=
 ∃ F',eW w' F' b own x/\Moved w w' F/\(∀ k,F' k->F k\/w.heap.size<=k)
theorem Moved.wider {S:Nat->Prop}(h:Moved w w' S)(hS:∀ k,S k->F k):Moved w w' F:=⟨h.os,h.tape,h.output,h.size,fun k hk hF=>h.block k hk (fun e=>hF (hS k e))⟩
theorem By {r':aR}(hF:∀ k,lz b vm vl k->F k)(h:eB w w' b own vm vl r')(hd:r'.up=false->r'.aU=r'.base):tw w w' F b own (.bq r'):=by
 obtain⟨bN,bD,h1,h2,h3,h4⟩:=h;have key:∀ {base size n:Nat} {e:TypeId} {v:Value} {xs:List Value},w'.ownsRow base e size v n xs->∀ k,v.ownBlock=some k->k<w'.heap.size:=by
  intro base size n e v xs hr k hk;obtain⟨_,h6,_⟩:=bK hr hk;exact (aQ h6)
 refine⟨fun k=>lz b bN bD k,⟨⟨bN,bD,h1,fun k e=>e,fun k e => ?_⟩,hd⟩,h2.wider hF,fun k e => ?_⟩
 ·rcases e with rfl|e|e
  ·exact (aQ h1.blk)
  ·exact key h1.hm k e
  ·exact key h1.hl k e
 ·rcases e with rfl|e|e
  ·exact .inl (hF _ (.inl rfl))
  ·rcases h3 k e with h5|h5
   ·exact .inl (hF _ (.inr (.inl h5)))
   ·exact .inr h5
  ·rcases h4 k e with h5|h5
   ·exact .inl (hF _ (.inr (.inr h5)))
   ·exact .inr h5
theorem gj.ok (h:gj n E r)(hn:n<=5):gH r:=⟨by have:=e_ h.af;omega,h.log.1,h.aU⟩
theorem ns.ok {a:Acc}(h:ns n E a)(hn:n<=5):th a:=by
 refine⟨by have:=e_ h.af;omega,fun e=>⟨?_,(h.aZ e).log.1⟩⟩
 rcases (h.aZ e).af with e1|e1
 ·simp[e1]
 ·have:=e_ e1;omega
theorem eN.ok {s:aN}(h:eN own s p)(hw:d_ n E s)(hn:n<=5)(ho:200<=own/\own<=201):l7 p own:=by
 refine⟨?_,h.mZ,h.lf,h.nN,by rw[h.begun];exact hw.begun,by rw[h.doing];have:=hw.does;omega,ho⟩
 have:=h.count;have:=tC hw hn;omega
theorem cU.lf (h:cU n E m)(hn:n<=5):m.af.length<=5:=by
 rcases h.af with e|e
 ·simp[e]
 ·have:=e_ e;omega
theorem Hp (r:aR)(own:Int)(m:aK):(r.take own m).1.up=r.up:=by
 have hp:∀ e,(r.put own e).1.up=r.up:=by
  intro e;unfold aR.put;split
  ·rfl
  ·rfl
 unfold aR.take;split
 ·split
  ·unfold aR.asked
   split
   ·rfl
   ·split
    ·split<;>rfl
    ·split
     ·rfl
     ·exact hp _
  ·rfl
 ·split
  ·unfold aR.gL
   split
   ·split
    ·exact hp _
    ·split<;>rfl
   ·rfl
  ·split
   ·unfold aR.jf
    split<;>rfl
   ·split
    ·unfold aR.lp
     split<;>rfl
    ·split
     ·unfold aR.mC
      simp only;split<;>rfl
     ·rfl
theorem FO (s:aN)(m:aK):(s.take m).1.up=s.up:=by
 unfold aN.take;split
 ·split
  ·split<;>rfl
  ·rfl
  ·split
   ·rfl
   ·split<;>rfl
  ·split<;>rfl
  ·split<;>rfl
 ·rfl
theorem sP {e:aH}(h:e.ok=true):0<=e.client/\e.client<=3:=by
 unfold aH.ok at h;simp only [Bool.and_eq_true,Bool.or_eq_true,jt] at h;omega
def tb : bT->Nat
 | .bq _=>261
 | .acc _=>250
 | .aX _=>239
def tc : bT->Nat
 | .bq _=>262
 | .acc _=>251
 | .aX _=>125
def sv : bT->Nat
 | .bq _=>259
 | .acc _=>248
 | .aX _=>237
def sZ : bT->Nat
 | .bq _=>260
 | .acc _=>249
 | .aX _=>238
theorem Rq (n:Nat)(E:Int)(F:Nat->Prop)(b:Nat)(own:Int)(x:bT)(m:aK)(mm ml:Value)(w:World)(h:eW w F b own x)(ok:si n E own x)(hu:x.up=true)(hm:cU n E m)(h1:bd w mm m.af)(h2:bw w ml m.log)(hd:m.dst=own)(ux:∀ k,mm.ownBlock=some k->¬ F k)(Am:∀ k,ml.ownBlock=some k->¬ F k) :
  Calls prog (tb x) #[b,bL m mm ml] w fun e w'=>nt w w' F b own e (x.take own m):=by
 have eC:=hm.lf ok.n5;have ja:=hm.log.1;cases x with
 | bq r =>
  obtain⟨⟨vm,vl,g1,g2,g3⟩,g4⟩:=h;have hw:=ok.bq r rfl;refine (Ul b own r vm vl m mm ml w g1 (hw.ok ok.n5) h1 h2 eC ja ?_ ?_).mono ?_
  ·intro y hy
   rcases fE.1 hy with e|e
   ·exact sP (hw.log.2 y e)
   ·exact sP (hm.log.2 y e)
  ·have:=hw.ah;have:=ok.E0;omega
  ·rintro e w' ⟨v,rfl,h3,h4⟩
   obtain⟨F',h5,h6,h7⟩:=By g2 h3 (by
    rw[Hp];intro e;have:r.up=true:=hu;rw[this] at e;cases e)
   exact⟨v,F',rfl,h5,h6,h7,h4⟩
 | acc a =>
  refine (JR F b own a m mm ml w h ((ok.acc a rfl).ok ok.n5) h1 h2 eC ja hd).mono ?_
  rintro e w' ⟨v,F',rfl,h3,h4,h5,h6⟩;exact⟨v,F',rfl,h3,h4,h5,h6⟩
 | aX s =>
  obtain⟨⟨p,g1,g2⟩,g3⟩:=h;obtain⟨hw,ho⟩:=ok.aX s rfl;have hr:=g1.take hw ok.n5 hm hd;refine (QD F b own p m mm ml w g2 (g1.ok hw ok.n5 ho) h1 h2 eC ja (by have:=hm.ah;have:=ok.E0;omega) ux Am).mono ?_
  rintro e w' ⟨v,F',rfl,h3,h4,h5,h6⟩;refine⟨v,F',rfl,⟨⟨_,hr.1,h3⟩, ?_⟩,h4,h5, ?_⟩
  ·rw[FO]
   intro e;have:s.up=true:=hu;rw[this] at e;cases e
  ·rw[hr.2] at h6
   exact h6
theorem Rr (n:Nat)(E:Int)(F:Nat->Prop)(b:Nat)(own:Int)(x:bT)(w:World)(h:eW w F b own x)(ok:si n E own x) :
  Calls prog (tc x) #[b] w fun e w'=>nt w w' F b own e (x,x.tick own):=by
 cases x with
 | bq r =>
  have HK:=h;obtain⟨⟨vm,vl,g1,g2,g3⟩,g4⟩:=h;refine (Uv b own r vm vl w g1 ((ok.bq r rfl).ok ok.n5)).mono ?_
  rintro e w' ⟨v,rfl,h3,h4⟩;exact⟨v,F,rfl,HK.keep fun k hk=>h4.block k (g3 k hk),(Moved.refl w F).below h4,fun k hk=>.inl hk,h3⟩
 | acc a =>
  refine (JV F b own a w h).mono ?_
  rintro e w' ⟨v,F',rfl,h3,h4,h5,h6⟩;exact⟨v,F',rfl,h3,h4,h5,h6⟩
 | aX s =>
  have HK:=h;obtain⟨⟨p,g1,g2⟩,g3⟩:=h;obtain⟨hw,ho⟩:=ok.aX s rfl;obtain⟨vw,vo,vm,vl,g2⟩:=g2;refine (FP F b own p vw vo vm vl w g2 (g1.ok hw ok.n5 ho)).mono ?_
  rintro e w' ⟨v,rfl,h3,h4⟩;rw[g1.asks hw.does] at h3;exact⟨v,F,rfl,HK.keep fun k hk=>h4.block k (g2.lt k hk),(Moved.refl w F).below h4,fun k hk=>.inl hk,h3⟩
theorem Rn (F:Nat->Prop)(b:Nat)(own:Int)(x:bT)(w:World)(h:eW w F b own x) :
  Calls prog (sv x) #[b] w fun e w'=>(∃ v,e=.returned v)/\tw w w' F b own x.dc:=by
 cases x with
 | bq r =>
  obtain⟨⟨vm,vl,g1,g2,g3⟩,g4⟩:=h;refine (S_ b own r vm vl w g1).mono ?_
  rintro e w' ⟨h1,bN,bD,h3,h4,h5,h6⟩;exact⟨h1,By g2 ⟨bN,bD,⟨h3.blk,h3.hm,h3.hl⟩,h4,h5,h6⟩ (fun _=>rfl)⟩
 | acc a =>
  refine (JM b w).mono ?_
  rintro e w' ⟨h1,rfl⟩;obtain⟨vm,g,l,h⟩:=h;exact⟨h1,F,⟨vm,g,l,⟨h.blk,h.hm,h.map,h.aZ,h.fb,h.fg,h.fm,h.lt⟩⟩,Moved.refl _ F,fun k hk=>.inl hk⟩
 | aX s =>
  obtain⟨⟨p,g1,g2⟩,g3⟩:=h;refine (Qz F b own p w g2).mono ?_
  rintro e w' ⟨h1,F',h2,h3,h4⟩;exact⟨h1,F',⟨⟨_,eN.still own false s p g1.begun,h2⟩,fun _=>rfl⟩,h3,h4⟩
theorem Rp (n:Nat)(E:Int)(F:Nat->Prop)(b:Nat)(own:Int)(x:bT)(w:World)(h:eW w F b own x)(ok:si n E own x)(hu:x.up=false) :
  Calls prog (sZ x) #[b] w fun e w'=>(∃ v,e=.returned v)/\tw w w' F b own (x.cF own):=by
 cases x with
 | bq r =>
  obtain⟨⟨vm,vl,g1,g2,g3⟩,g4⟩:=h;refine (Te b own r vm vl w g1 ((ok.bq r rfl).ok ok.n5)).mono ?_
  rintro e w' ⟨h1,bN,bD,h3,h4,h5,h6⟩;have hc:r.aU=r.base:=g4 hu;have e1:(r.rise own).aU=(r.cF own).aU/\(r.rise own).ah=(r.cF own).ah/\(r.rise own).lock=(r.cF own).lock/\(r.rise own).af=(r.cF own).af/\(r.rise own).log=(r.cF own).log/\(r.rise own).base=(r.cF own).base:=by
   unfold aR.rise aR.cF;split
   ·rename_i h;exact⟨rfl,rfl,rfl,rfl,rfl,rfl⟩
   ·exact⟨hc,rfl,rfl,rfl,rfl,rfl⟩
  obtain⟨q1,q2,q3,q4,q5,q6⟩:=e1;exact⟨h1,By g2 ⟨bN,bD,⟨by rw[<- q1, <- q2, <- q3, <- q6];exact h3.blk,by rw[<- q4];exact h3.hm,by rw[<- q5];exact h3.hl⟩,h4,h5,h6⟩ (fun e=>by simp[aR.cF] at e)⟩
 | acc a =>
  refine (JP b w).mono ?_
  rintro e w' ⟨h1,rfl⟩;obtain⟨vm,g,l,h⟩:=h;exact⟨h1,F,⟨vm,g,l,⟨h.blk,h.hm,h.map,h.aZ,h.fb,h.fg,h.fm,h.lt⟩⟩,Moved.refl _ F,fun k hk=>.inl hk⟩
 | aX s =>
  obtain⟨⟨p,g1,g2⟩,g3⟩:=h;refine (QB b w).mono ?_
  rintro e w' ⟨h1,rfl⟩;have hdz:s.does=0:=g3 hu;have hall:s.all=[]:=by unfold aN.all;split<;>first|rfl|(exfalso;omega)|(exfalso;simp_all)
  have hc:=g1.count;rw[hall] at hc;have hwt:p.waits=[]:=List.eq_nil_of_length_eq_zero (by simp only [fG] at hc;omega)
  refine⟨h1,F,⟨⟨p, ?_,g2⟩,fun e=>by simp[aN.still] at e⟩,Moved.refl _ F,fun k hk=>.inl hk⟩
  exact⟨g1.begun,by rw[g1.doing,hdz];rfl,fun e=>absurd rfl e,hwt,by rw[hwt];rfl,fun e=>by simp[aN.still] at e,fun e=>by simp[aN.still] at e,fun e=>by simp[aN.still] at e,fun e=>by simp[aN.still] at e,fun e=>by simp[aN.still] at e,g1.mZ,g1.lf,g1.nN⟩
def fu : bT->TypeId
 | .bq _=>129
 | .acc _=>99
 | .aX _=>81
def nY (b:Bool):Int:=if b then 0 else 1
def tz (x gs:Nat)(vr va vm vb vt:Value)(k:Nat):Prop:=k=x\/k=gs\/vr.ownBlock=some k\/va.ownBlock=some k\/vm.ownBlock=some k\/vb.ownBlock=some k\/vt.ownBlock=some k
def nu (w:World)(gs:Nat)(m:Nat)(f:Nat->Int × Int × Value):Prop :=
 ∃ cs,w.heap[gs]?=some (.cells cs 183)/\∀ j,j<m->cs[j*3]?=some (.int .i64 (f j).1)/\cs[j*3+1]?=some (.int .i64 (f j).2.1)/\cs[j*3+2]?=some (f j).2.2
def aq.iE (c:aq)(b:Nat->Nat)(j:Nat):Int × Int × Value:=(bY c.aD.length j,nY (c.bj j).up,.iface (fu (c.bj j)) (.pointer (some ⟨b j,0,none⟩)))
def ec (b:Nat->Nat)(from_ m:Nat):List Value:=(List.range m).map fun i=>Value.pointer (some ⟨b (from_+i),0,none⟩)
structure eK (w:World)(F:Nat->Prop)(x gs cap:Nat)(c:aq)(b:Nat->Nat)(Fn:Nat->Nat->Prop)(vr va vm vb vt:Value):Prop where
 aE:jL w x (.slice (some gs) (c.aD.length+5) cap) vr va vm vb vt c.aE
 iE:nu w gs (c.aD.length+5) (c.iE b)
 hcap:c.aD.length+5<=cap
 rr:w.ownsRow 0 129 1 vr c.aD.length (ec b 0 c.aD.length)
 ra:w.ownsRow 0 99 1 va 3 (ec b c.aD.length 3)
 rm:w.ownsRow 0 81 1 vm 2 (ec b (c.aD.length+3) 2)
 rt:w.ownsRow 0 113 3 vt c.told.length (aJ (dj c.told))
 bj:∀ j,j<c.aD.length+5->eW w (Fn j) (b j) (bY c.aD.length j) (c.bj j)
 sep:∀ i j,i<c.aD.length+5->j<c.aD.length+5->i≠j->∀ k,Fn i k->¬ Fn j k
 off:∀ j,j<c.aD.length+5->∀ k,Fn j k->¬ tz x gs vr va vm vb vt k
 dv:∀ k,tz x gs vr va vm vb vt k->F k
 iC:∀ j,j<c.aD.length+5->∀ k,Fn j k->F k
 lt:∀ k,F k->k<w.heap.size
 n1:1<=c.aD.length
 n5:c.aD.length<=5
 a3:c.di.length=3
 m2:c.dH.length=2
def dM (w:World)(F:Nat->Prop)(x:Nat)(c:aq):Prop:=∃ gs cap b Fn vr va vm vb vt,eK w F x gs cap c b Fn vr va vm vb vt
theorem nu.keep {m:Nat}(h:nu w gs m f)(hk:w'.heap[gs]?=w.heap[gs]?):nu w' gs m f:=by
 obtain⟨cs,h1,h2⟩:=h;exact⟨cs,hk.trans h1,h2⟩
theorem nu.as {m:Nat}{f':Nat->Int × Int × Value}(h:nu w gs m f)(hf:∀ j,j<m->f' j=f j):nu w gs m f':=by
 obtain⟨cs,h1,h2⟩:=h;exact⟨cs,h1,fun j hj=>by rw[hf j hj];exact h2 j hj⟩
theorem eK.keep {c:aq}{b:Nat->Nat}(h:eK w F x gs cap c b Fn vr va vm vb vt)(hk:∀ k,F k->w'.heap[k]?=w.heap[k]?):eK w' F x gs cap c b Fn vr va vm vb vt where
 aE:=⟨(hk x (h.dv x (.inl rfl))).trans h.aE.blk,cG h.aE.row fun k e=>hk k (h.dv k (.inr (.inr (.inr (.inr (.inr (.inl e)))))))⟩
 iE:=h.iE.keep (hk gs (h.dv gs (.inr (.inl rfl))))
 hcap:=h.hcap
 rr:=cG h.rr fun k e=>hk k (h.dv k (.inr (.inr (.inl e))))
 ra:=cG h.ra fun k e=>hk k (h.dv k (.inr (.inr (.inr (.inl e)))))
 rm:=cG h.rm fun k e=>hk k (h.dv k (.inr (.inr (.inr (.inr (.inl e))))))
 rt:=cG h.rt fun k e=>hk k (h.dv k (.inr (.inr (.inr (.inr (.inr (.inr e)))))))
 bj:=fun j hj=>(h.bj j hj).keep fun k e=>hk k (h.iC j hj k e)
 sep:=h.sep
 off:=h.off
 dv:=h.dv
 iC:=h.iC
 lt:=fun k hF=>xj (h.lt k hF) (hk k hF)
 n1:=h.n1
 n5:=h.n5
 a3:=h.a3
 m2:=h.m2
theorem eK.below {c:aq}{b:Nat->Nat}(h:eK w F x gs cap c b Fn vr va vm vb vt)(hb:ai w w'):eK w' F x gs cap c b Fn vr va vm vb vt :=
 h.keep fun k hF=>hb.block k (h.lt k hF)
theorem eK.apart {c:aq}{b:Nat->Nat}(h:eK w F x gs cap c b Fn vr va vm vb vt):x≠gs/\∀ {base size n:Nat} {e:TypeId} {v:Value} {xs:List Value},w.ownsRow base e size v n xs->e≠183->v.ownBlock≠some gs:=by
 obtain⟨cs,h1, -⟩:=h.iE;refine⟨fun e => ?_,fun hv he=>aY h1 hv he⟩
 subst e;rw[h.aE.blk] at h1;simp at h1
theorem eK.A3 {c:aq}{b:Nat->Nat}(h:eK w F x gs cap c b Fn vr va vm vb vt)(j:Nat)(hj:j<c.aD.length+5)(y:bT)(F':Nat->Prop)
  (hy:eW w' F' (b j) (bY c.aD.length j) y) (hM:Moved w w' (fun k=>Fn j k\/k=gs)) (hF:∀ k,F' k->Fn j k\/w.heap.size<=k) (rq:(c.bj j).kin y) (Oy:nu w' gs (c.aD.length+5) ((c.dE j y).iE b)) :
  eK w' (fun k=>F k\/F' k) x gs cap (c.dE j y) b (fun i=>if i=j then F' else Fn i) vr va vm vb vt:=by
 have hn:=ta c j y;obtain⟨Np,htold,hacc,Oo⟩:=vi c j y;have kD:∀ k,k<c.aD.length+5->(c.dE j y).bj k=if k=j then y else c.bj k:=fun k hk=>xv h.a3 h.m2 hj rq k hk
 have hO:∀ k,tz x gs vr va vm vb vt k->k≠gs->w'.heap[k]?=w.heap[k]?:=fun k hk hg=>hM.block k (h.lt k (h.dv k hk)) (fun e=>e.elim (fun e=>h.off j hj k e hk) hg);have hG:=h.apart;refine⟨?_, ?_, ?_, ?_, ?_, ?_, ?_, ?_, ?_, ?_, ?_, ?_, ?_, ?_, ?_, ?_, ?_⟩
 ·rw[hn,Np]
  exact⟨(hO x (.inl rfl) hG.1).trans h.aE.blk,cG h.aE.row fun k e=>hO k (.inr (.inr (.inr (.inr (.inr (.inl e)))))) (fun e2=>hG.2 h.aE.row (by decide) (e2 ▸ e))⟩
 ·rw[hn]
  exact Oy
 ·rw[hn];exact h.hcap
 ·rw[hn];exact cG h.rr fun k e=>hO k (.inr (.inr (.inl e))) (fun e2=>hG.2 h.rr (by decide) (e2 ▸ e))
 ·rw[hn];exact cG h.ra fun k e=>hO k (.inr (.inr (.inr (.inl e)))) (fun e2=>hG.2 h.ra (by decide) (e2 ▸ e))
 ·rw[hn];exact cG h.rm fun k e=>hO k (.inr (.inr (.inr (.inr (.inl e))))) (fun e2=>hG.2 h.rm (by decide) (e2 ▸ e))
 ·rw[htold];exact cG h.rt fun k e=>hO k (.inr (.inr (.inr (.inr (.inr (.inr e)))))) (fun e2=>hG.2 h.rt (by decide) (e2 ▸ e))
 ·intro i hi
  rw[hn] at hi;rw[kD i hi,hn];by_cases e:i=j
  ·subst e
   rw[if_pos rfl];first|exact hy|(simp only [if_true];exact hy)
  ·rw[if_neg e]
   simp only [if_neg e];exact (h.bj i hi).keep fun k hk=>hM.block k (h.lt k (h.iC i hi k hk)) (fun e9=>e9.elim (h.sep i j hi hj e k hk) (fun e8=>h.off i hi k hk (.inr (.inl e8))))
 ·intro i k hi hk hne z hz
  rw[hn] at hi hk;by_cases e:i=j
  ·subst e
   rw[if_pos rfl] at hz;rw[if_neg (Ne.symm hne)];intro h2;rcases hF z hz with h3|h3
   ·exact h.sep i k hi hk hne z h3 h2
   ·have:=h.lt z (h.iC k hk z h2);omega
  ·rw[if_neg e] at hz
   by_cases e2:k=j
   ·subst e2
    rw[if_pos rfl];intro h2;rcases hF z h2 with h3|h3
    ·exact h.sep i k hi hk hne z hz h3
    ·have:=h.lt z (h.iC i hi z hz);omega
   ·rw[if_neg e2]
    exact h.sep i k hi hk hne z hz
 ·intro i hi k hk
  rw[hn] at hi;by_cases e:i=j
  ·subst e
   rw[if_pos rfl] at hk;rcases hF k hk with h3|h3
   ·exact h.off i hi k h3
   ·intro h4
    have:=h.lt k (h.dv k h4);omega
  ·rw[if_neg e] at hk
   exact h.off i hi k hk
 ·exact fun k hk=>.inl (h.dv k hk)
 ·intro i hi k hk
  rw[hn] at hi;by_cases e:i=j
  ·rw[if_pos e] at hk
   exact .inr hk
  ·rw[if_neg e] at hk
   exact .inl (h.iC i hi k hk)
 ·rintro k (hk|hk)
  ·have:=h.lt k hk
   have:=hM.size;omega
  ·exact hy.lt hk
 ·rw[hn];exact h.n1
 ·rw[hn];exact h.n5
 ·rw[hacc];exact h.a3
 ·rw[Oo];exact h.m2
theorem eK.node {c:aq}{b:Nat->Nat}(h:eK w F x gs cap c b Fn vr va vm vb vt)(j:Nat)(hj:j<c.aD.length+5)(y:bT)(F':Nat->Prop)
  (hy:eW w' F' (b j) (bY c.aD.length j) y) (hM:Moved w w' (Fn j)) (hF:∀ k,F' k->Fn j k\/w.heap.size<=k) (rq:(c.bj j).kin y) (hup:y.up=(c.bj j).up) :
  eK w' (fun k=>F k\/F' k) x gs cap (c.dE j y) b (fun i=>if i=j then F' else Fn i) vr va vm vb vt:=by
 refine h.A3 j hj y F' hy (hM.wider fun k e=>.inl e) hF rq ?_
 have hn:=ta c j y;have kD:∀ k,k<c.aD.length+5->(c.dE j y).bj k=if k=j then y else c.bj k:=fun k hk=>xv h.a3 h.m2 hj rq k hk
 have hty:fu y=fu (c.bj j):=by
  revert rq
  cases c.bj j<;>cases y<;>simp[bT.kin,fu]
 refine (h.iE.keep (hM.block gs (h.lt gs (h.dv gs (.inr (.inl rfl)))) (fun e=>h.off j hj gs e (.inr (.inl rfl))))).as fun i hi => ?_
 unfold aq.iE;rw[hn,kD i hi];by_cases e:i=j
 ·subst e
  rw[if_pos rfl,hup,hty]
 ·rw[if_neg e]
theorem eK.C9 {c:aq}{b:Nat->Nat}(h:eK w F x gs cap c b Fn vr va vm vb vt)(l:List (List UInt8 × Bool))(hB:gP w w' x (.slice (some gs) (c.aD.length+5) cap) vr va vm vb vt l) :
  ∃ iT,eK w' (fun k=>F k\/iT.ownBlock=some k) x gs cap { c with aE:=l } b Fn vr va vm iT vt/\Moved w w' F/\∀ k,(F k\/iT.ownBlock=some k)->F k\/w.heap.size<=k:=by
 obtain⟨iT,hI,hM,hg⟩:=hB;have hS:∀ k,n_ x vb k->F k:=by
  rintro k (e|e)
  ·exact h.dv k (.inl e)
  ·exact h.dv k (.inr (.inr (.inr (.inr (.inr (.inl e))))))
 have hrow:∀ {base size n:Nat} {e:TypeId} {v:Value} {xs:List Value},w.ownsRow base e size v n xs->e≠138->e≠93->w'.ownsRow base e size v n xs:=by
  intro base size n e v xs hv h1 h2;refine hM.owns hv fun k hk hS => ?_
  rcases hS with e1|e1
  ·exact aY h.aE.blk hv h2 (e1 ▸ hk)
  ·exact bM hv h.aE.row h1 k hk e1
 have hgs:w'.heap[gs]?=w.heap[gs]?:=by
  refine hM.block gs (h.lt gs (h.dv gs (.inr (.inl rfl)))) ?_
  obtain⟨cs,h1, -⟩:=h.iE;rintro (e|e)
  ·rw[e] at h1
   rw[h.aE.blk] at h1;simp at h1
  ·exact aY h1 h.aE.row (by decide) e
 have hnw:∀ k,iT.ownBlock=some k->F k\/w.heap.size<=k:=fun k e=>(hg k e).imp (fun e2=>hS k (.inr e2)) id;refine⟨iT,⟨hI,h.iE.keep hgs,h.hcap,hrow h.rr (by decide) (by decide),hrow h.ra (by decide) (by decide),hrow h.rm (by decide) (by decide),hrow h.rt (by decide) (by decide), ?_,h.sep, ?_, ?_,fun j hj k hk=>.inl (h.iC j hj k hk), ?_,h.n1,h.n5,h.a3,h.m2⟩,hM.wider hS, ?_⟩
 ·intro j hj
  refine (h.bj j hj).keep fun k hk=>hM.block k (h.lt k (h.iC j hj k hk)) ?_
  rintro (e|e)
  ·exact h.off j hj k hk (.inl e)
  ·exact h.off j hj k hk (.inr (.inr (.inr (.inr (.inr (.inl e))))))
 ·intro j hj k hk hO
  rcases hO with e|e|e|e|e|e|e
  ·exact h.off j hj k hk (.inl e)
  ·exact h.off j hj k hk (.inr (.inl e))
  ·exact h.off j hj k hk (.inr (.inr (.inl e)))
  ·exact h.off j hj k hk (.inr (.inr (.inr (.inl e))))
  ·exact h.off j hj k hk (.inr (.inr (.inr (.inr (.inl e)))))
  ·rcases hg k e with e2|e2
   ·exact h.off j hj k hk (.inr (.inr (.inr (.inr (.inr (.inl e2))))))
   ·have:=h.lt k (h.iC j hj k hk);omega
  ·exact h.off j hj k hk (.inr (.inr (.inr (.inr (.inr (.inr e))))))
 ·intro k hO
  rcases hO with e|e|e|e|e|e|e
  ·exact .inl (h.dv k (.inl e))
  ·exact .inl (h.dv k (.inr (.inl e)))
  ·exact .inl (h.dv k (.inr (.inr (.inl e))))
  ·exact .inl (h.dv k (.inr (.inr (.inr (.inl e)))))
  ·exact .inl (h.dv k (.inr (.inr (.inr (.inr (.inl e))))))
  ·exact .inr e
  ·exact .inl (h.dv k (.inr (.inr (.inr (.inr (.inr (.inr e)))))))
 ·rintro k (e|e)
  ·have:=h.lt k e
   have:=hM.size;omega
  ·obtain⟨_,h6,_⟩:=bK hI.row e
   exact (aQ h6)
 ·rintro k (e|e)
  ·exact .inl e
  ·exact hnw k e
end Go.Proofs.YtgieeeeeiggoeaaGreat
