import Derived.Test.YtgieeeeeiggoeaaGreatD20
import Derived.Test.YtgieeeeeiggoeaaGreatD03
set_option maxRecDepth 100000
set_option maxHeartbeats 1000000
namespace Go.Proofs.YtgieeeeeiggoeaaGreat
open Go.RowKit Go.Shelf
open Tryz
variable {e:Ending}{own:Int}{b:Nat}{vl vm:Value}{w:World}
theorem Bi {j:Nat}{cs:Array Value}{T:TypeId}{base size n:Nat}{e:TypeId}{v:Value}{xs:List Value}(hb:w.heap[b]?=some (.cells cs T))(hv:w.ownsRow base e size v n xs)(he:e≠T)(u:Value):(w.setCell ⟨b,j,none⟩ u).ownsRow base e size v n xs :=
 bu hv (aY hb hv he) u
theorem KC (b:Nat)(own:Int)(r:aR)(vm vl:Value)(m:aK)(mm ml:Value)(w:World)(h:dh w b own r vm vl)(h1:bd w mm m.af)(h2:bw w ml m.log)(hm1:m.af.length<=5)(hm2:m.log.length<=24) :
  Calls prog 279 #[b,bL m mm ml] w fun e w'=>(∃ v,e=.returned v)/\eB w w' b own vm vl { r with ah:=m.ah,af:=m.af,log:=m.log,base:=m.log.length,aU:=m.log.length }:=by
 have hbl:b<w.heap.size:=(aQ h.blk);obtain⟨am,cm,rfl⟩:=aM h1;obtain⟨al,cl,rfl⟩:=aM h2;have HR:=ae h;have H1:=ae h1;have H2:=ae h2;clear h h1 h2;unfold bL;go_enter func279,ntmps279;go_upto_region 1 with fail
 obtain⟨X,hX,hbX,cS⟩:=dk w m (.slice am m.af.length cm) (.slice al m.log.length cl);rw[hX];clear hX;have RX:=ae (HR.out.below hbX);have g3:=aj cS 3;have g8:=aj cS 8;have c1:=au RX.out.blk 1;have f1:X.frozen? (b,1)=false:=aW RX.out.blk 1;have Ni:w.heap.size<X.heap.size:=(aQ cS);have HB1:Hid ((X.setCell ⟨b,1,none⟩ (.int .i64 m.ah)).heap[w.heap.size]?=some (.cells #[m.kind,m.src,m.dst,m.ah,m.ak,m.aO,m.pos,m.value,.slice am m.af.length cm,.slice al m.log.length cl] 134)):=ae ((cJ _ _ _ _ (by show w.heap.size≠b;omega)).trans cS)
 have MK:=aj HB1.out 8;have R1:=ae (RX.out.set 1 (.int .i64 m.ah) { r with ah:=m.ah } vm vl rfl RX.out.hm RX.out.hl)
 have M1:=ae (((Moved.refl w (lz b vm vl)).below hbX).setCell ⟨b,1,none⟩ (.inl rfl) (.int .i64 m.ah));have I1:Hid (bd (X.setCell ⟨b,1,none⟩ (.int .i64 m.ah)) (.slice am m.af.length cm) m.af):=ae (Bi RX.out.blk (aS H1.out fun k _ hk=>hbX.block k hk) (by decide) _)
 have L1:Hid (bw (X.setCell ⟨b,1,none⟩ (.int .i64 m.ah)) (.slice al m.log.length cl) m.log):=ae (Bi RX.out.blk (aS H2.out fun k _ hk=>hbX.block k hk) (by decide) _)
 go_wp2_with fail;refine (ma _ m.af _ I1.out (by omega)).mono ?_
 rintro e W2 ⟨a2,c2,rfl,ho2,hb2⟩;have R2:=ae (R1.out.below hb2);have M2:=ae (M1.out.below hb2);have HB2:=ae ((hb2.block _ (aQ HB1.out)).trans HB1.out);have L2:=ae (aS L1.out fun k _ hk=>hb2.block k hk);have O2:=ae ho2;clear g3 g8 c1 f1 MK cS ho2 Ni;have c3:=au R2.out.blk 3;have f3:W2.frozen? (b,3)=false:=aW R2.out.blk 3;have g9:=aj HB2.out 9;have HB3:Hid ((W2.setCell ⟨b,3,none⟩ (.slice a2 m.af.length c2)).heap[w.heap.size]?=_):=ae ((cJ _ _ _ _ (by show w.heap.size≠b;omega)).trans HB2.out)
 have ML:=aj HB3.out 9;have R3:=ae (R2.out.set 3 (.slice a2 m.af.length c2) { r with ah:=m.ah,af:=m.af } (.slice a2 m.af.length c2) vl rfl (obs O2.out (bl _)) R2.out.hl)
 have M3:=ae (M2.out.setCell ⟨b,3,none⟩ (.inl rfl) (.slice a2 m.af.length c2));have L3:=ae (Bi (j:=3) R2.out.blk L2.out (by decide) (.slice a2 m.af.length c2))
 have G3:Hid (bO w vm (.slice a2 m.af.length c2)):=ae (fun k hk=>by
  obtain⟨_,_,h'⟩:=bK O2.out hk;have hx:=M1.out.size;exact .inr (by omega))
 go_wp2_with fail;refine (pO _ m.log _ L3.out (by omega)).mono ?_
 rintro e W4 ⟨a4,c4,rfl,EZ,hb4⟩;have R4:=ae (R3.out.below hb4);have M4:=ae (M3.out.below hb4);have O4:=ae EZ;clear c3 f3 g9 ML EZ;have Dq:=au R4.out.blk 4;have f4:W4.frozen? (b,4)=false:=aW R4.out.blk 4;have G4:Hid (bO w vl (.slice a4 m.log.length c4)):=ae (fun k hk=>by
  obtain⟨_,_,h'⟩:=bK O4.out hk;have hx:=M3.out.size;exact .inr (by omega))
 have R5:=ae (R4.out.set 4 (.slice a4 m.log.length c4) { r with ah:=m.ah,af:=m.af,log:=m.log } (.slice a2 m.af.length c2) (.slice a4 m.log.length c4) rfl R4.out.hm (obs O4.out (bl _)))
 have M5:=ae (M4.out.setCell ⟨b,4,none⟩ (.inl rfl) (.slice a4 m.log.length c4));have R6:=ae (R5.out.set 5 (.int .i64 (m.log.length:Int)) { r with ah:=m.ah,af:=m.af,log:=m.log,base:=m.log.length } (.slice a2 m.af.length c2) (.slice a4 m.log.length c4) rfl R5.out.hm R5.out.hl)
 have M6:=ae (M5.out.setCell ⟨b,5,none⟩ (.inl rfl) (.int .i64 (m.log.length:Int)));have R7:=ae (R6.out.set 6 (.int .i64 (m.log.length:Int)) { r with ah:=m.ah,af:=m.af,log:=m.log,base:=m.log.length,aU:=m.log.length } (.slice a2 m.af.length c2) (.slice a4 m.log.length c4) rfl R6.out.hm R6.out.hl)
 have M7:=ae (M6.out.setCell ⟨b,6,none⟩ (.inl rfl) (.int .i64 (m.log.length:Int)));have d4:(W4.setCell ⟨b,4,none⟩ (.slice a4 m.log.length c4)).cell? (b,4)=some (.slice a4 m.log.length c4):=aj R5.out.blk 4;have d5:(W4.setCell ⟨b,4,none⟩ (.slice a4 m.log.length c4)).cell? (b,5)=some (.int .i64 (r.base:Int)):=aj R5.out.blk 5;have Vu:(W4.setCell ⟨b,4,none⟩ (.slice a4 m.log.length c4)).frozen? (b,5)=false:=aW R5.out.blk 5;have e4:((W4.setCell ⟨b,4,none⟩ (.slice a4 m.log.length c4)).setCell ⟨b,5,none⟩ (.int .i64 (m.log.length:Int))).cell? (b,4)=some (.slice a4 m.log.length c4):=aj R6.out.blk 4;have e6:((W4.setCell ⟨b,4,none⟩ (.slice a4 m.log.length c4)).setCell ⟨b,5,none⟩ (.int .i64 (m.log.length:Int))).cell? (b,6)=some (.int .i64 (r.aU:Int)):=aj R6.out.blk 6;have Vv:((W4.setCell ⟨b,4,none⟩ (.slice a4 m.log.length c4)).setCell ⟨b,5,none⟩ (.int .i64 (m.log.length:Int))).frozen? (b,6)=false:=aW R6.out.blk 6;have q5:=au R4.out.blk 5;have q6:=au R4.out.blk 6;have Wl:W4.frozen? (b,5)=false:=aW R4.out.blk 5;have Wm:W4.frozen? (b,6)=false:=aW R4.out.blk 6;go_wp2_with fail;go_end0;exact⟨⟨_,rfl⟩,_,_,R7.out,M7.out,G3.out,G4.out⟩
theorem Ub (b:Nat)(own:Int)(r:aR)(vm vl:Value)(m:aK)(mm ml:Value)(w:World)(h:dh w b own r vm vl)(h1:bd w mm m.af)(h2:bw w ml m.log)(hm1:m.af.length<=5)(hm2:m.log.length<=24) :
  Calls prog 269 #[b,bL m mm ml] w fun e w'=>cX w w' b own vm vl e (r.mC own m):=by
 have HT:Hid (r.mC own m=(if r.ah<m.ah then { r with ah:=m.ah,af:=m.af,log:=m.log,base:=m.log.length,aU:=m.log.length } else r,[{ kind:=14,src:=own,dst:=m.src,ah:=m.ah }])):=ae rfl
 have hbl:b<w.heap.size:=(aQ h.blk);have HG:Hid (∀ W,ai w W->Calls prog 279 #[b,.agg #[m.kind,m.src,m.dst,m.ah,m.ak,m.aO,m.pos,m.value,mm,ml]] W fun e w'=>(∃ v,e=.returned v)/\eB W w' b own vm vl { r with ah:=m.ah,af:=m.af,log:=m.log,base:=m.log.length,aU:=m.log.length }):=ae fun W hb=>KC b own r vm vl m mm ml W (h.below hb) (aS h1 fun k _ hk=>hb.block k hk) (aS h2 fun k _ hk=>hb.block k hk) hm1 hm2
 have HR:=ae h;clear h h1 h2;unfold bL;go_enter func269,ntmps269;go_wp2_with fail;obtain⟨X,hX,hbX,cS⟩:=dk w m mm ml;rw[hX];clear hX;have RX:=ae (HR.out.below hbX);have c1:=au RX.out.blk 1;have g3:=aj cS 3;have lV:=ae cS;clear cS;by_cases he:r.ah<m.ah
 ·have HN:Hid (r.mC own m=({ r with ah:=m.ah,af:=m.af,log:=m.log,base:=m.log.length,aU:=m.log.length },[{ kind:=14,src:=own,dst:=m.src,ah:=m.ah }])):=ae (by rw[HT.out,if_pos he])
  go_quiet (fail);have bt:=aV hbX nq;have RY:=ae (HR.out.below bt);have eG:Hid ((X.drewN nq).heap[w.heap.size]?=some (.cells #[m.kind,m.src,m.dst,m.ah,m.ak,m.aO,m.pos,m.value,mm,ml] 134)):=lV;generalize X.drewN nq=Y at *;clear c1 g3 RX lV;have y0:=aj eG.out 0;have y1:=aj eG.out 1;have y2:=aj eG.out 2;have y3:=aj eG.out 3;have y4:=aj eG.out 4;have y5:=aj eG.out 5;have y6:=aj eG.out 6;have y7:=aj eG.out 7;have y8:=aj eG.out 8;have y9:=aj eG.out 9;go_wp2_with fail;refine (HG.out _ bt).mono ?_
  rintro e Z ⟨⟨v0,rfl⟩,hto⟩;obtain⟨bN,bD,RZ,MZ,G1,G2⟩:=hto;clear y0 y1 y2 y3 y4 y5 y6 y7 y8 y9;have pU:Z.heap[w.heap.size]?=some (.cells #[m.kind,m.src,m.dst,m.ah,m.ak,m.aO,m.pos,m.value,mm,ml] 134):=by
   rw[MZ.block _ (aQ eG.out)]
   ·exact eG.out
   ·rintro (e1|e1|e1)
    ·omega
    ·exact aY eG.out RY.out.hm (by decide) e1
    ·exact aY eG.out RY.out.hl (by decide) e1
  have MW:Moved w Z (lz b vm vl):=((Moved.refl w _).below bt).trans MZ (fun _ _ h=>h);have GA:=ae (show bO w vm bN from (bO.refl w vm).trans G1 bt.size);have GB:=ae (show bO w vl bD from (bO.refl w vl).trans G2 bt.size);have z0:=au RZ.blk 0;have z1:=aj pU 1;have z3:=aj pU 3;have Jd:=ae RZ;clear RZ pU G1 G2;go_wp2_with fail;go_region_held3 (fun w'=>w'.cell? (b,0)=some (.int .i64 own)/\w'.cell? (w.heap.size,1)=some (.int .i64 m.src)/\w'.cell? (w.heap.size,3)=some (.int .i64 m.ah)) (first|(simp[go_sem];done)|(simp[go_sem, *];done)|go_keep) (fail)
  all_goals
   go_wp2_with fail;go_ret;rw[HN.out];have hMs:=MW.size;exact⟨_,rfl,eB.then MW GA.out GB.out (eB.still Jd.out (((ax _ Z).alloc (aG _) _).drew)),a_.one { kind:=14,src:=own,dst:=m.src,ah:=m.ah } (.slice none 0 0) (.slice none 0 0) (hnw _ _) hMs (bd.nil _) (bw.nil _)⟩
 ·have rn:decide (r.ah<m.ah)=false:=ee he
  have HN:Hid (r.mC own m=(r,[{ kind:=14,src:=own,dst:=m.src,ah:=m.ah }])):=ae (by rw[HT.out,if_neg he])
  go_quiet (fail);have bt:=aV hbX nq;have RY:=ae (HR.out.below bt);have eG:Hid ((X.drewN nq).heap[w.heap.size]?=some (.cells #[m.kind,m.src,m.dst,m.ah,m.ak,m.aO,m.pos,m.value,mm,ml] 134)):=lV;generalize X.drewN nq=Z at *;clear c1 g3 RX lV;have z0:=au RY.out.blk 0;have z1:=aj eG.out 1;have z3:=aj eG.out 3;go_wp2_with fail;go_region_held3 (fun w'=>w'.cell? (b,0)=some (.int .i64 own)/\w'.cell? (w.heap.size,1)=some (.int .i64 m.src)/\w'.cell? (w.heap.size,3)=some (.int .i64 m.ah)) (first|(simp[go_sem];done)|(simp[go_sem, *];done)|go_keep) (fail)
  all_goals
   go_wp2_with fail;go_ret;rw[HN.out];exact⟨_,rfl,eB.still HR.out ((bt.alloc bt.size _).drew),a_.one { kind:=14,src:=own,dst:=m.src,ah:=m.ah } (.slice none 0 0) (.slice none 0 0) (hnw _ _) bt.size (bd.nil _) (bw.nil _)⟩
def aR.oA (r:aR)(own:Int)(e:aH):aR × List aK :=
 if r.log.any (iD e) then
  if r.log.findIdx (iD e)<r.aU then (r,[r.dm own (r.log.findIdx (iD e))]) else (r,[])
 else if 24<=r.log.length\/r.log.any (la e) then (r,[])
 else r.put own e
theorem cX.OV {w':World}{r:aR}{c:Prop}[Decidable c]{l:List aK}(h:cX w w' b own vm vl e (r,if c then l else [])):cX w w' b own vm vl e (if c then (r,l) else (r,[])):=by
 by_cases hc:c
 ·rw[if_pos hc] at h |-;exact h
 ·rw[if_neg hc] at h |-;exact h
theorem cX.before {w1 w2:World}{p:aR × List aK}(hb:ai w w1)(h:cX w1 w2 b own vm vl e p):cX w w2 b own vm vl e p:=by
 obtain⟨v,h1,h2,h3⟩:=h;exact⟨v,h1,eB.then ((Moved.refl w _).below hb) (bO.refl _ _) (bO.refl _ _) h2,h3.base hb.size⟩
theorem T_ (b:Nat)(own:Int)(r:aR)(vm vl:Value)(x:aH)(w:World)(h:dh w b own r vm vl)(ok:gH r)(kB:∀ y∈r.log++[x],0<=y.client/\y.client<=3) :
  Calls prog 274 #[b,eP x] w fun e w'=>cX w w' b own vm vl e (r.oA own x):=by
 have HT:Hid (r.oA own x=if r.log.any (g_ x.client x.seq) then (if r.log.findIdx (g_ x.client x.seq)<r.aU then (r,[r.dm own (r.log.findIdx (g_ x.client x.seq))]) else (r,[])) else if 24<=r.log.length\/r.log.any (mr x.client x.seq) then (r,[]) else r.put own x):=ae rfl
 have hbl:b<w.heap.size:=(aQ h.blk);have ja:=ok.l;obtain⟨al,cl,rfl⟩:=aM h.hl;have HR:=ae h;have HO:=ae ok;have HC:=ae kB;clear h ok kB;have HF:Hid (∀ Y,ai w Y->Y.heap[w.heap.size]?=some (.cells #[x.client,x.seq,x.kind,x.key,x.value] 42)->∀ W,W=Y.drew->Calls prog 282 #[.slice al r.log.length cl,x.client,x.seq] W fun e w'=>e=.returned (.tuple #[.int .i64 (qw r.log x.client x.seq),.bool (r.log.any (g_ x.client x.seq))])/\ai w w'/\w'.heap[w.heap.size]?=some (.cells #[x.client,x.seq,x.kind,x.key,x.value] 42) /\
   w'.cell? (b,4)=some (.slice al r.log.length cl)/\w'.cell? (w.heap.size,0)=some (.int .i64 x.client)/\w'.cell? (w.heap.size,1)=some (.int .i64 x.seq)):=ae (by
  rintro Y bt pT W rfl;have nF:ai w Y.drew:=bt.drew;refine (ei.1 (Mp 6 (ae (by omega)) _ r.log x.client x.seq Y.drew (by omega) ((iv.cM HR.out.hl).below nF))).mono ?_
  rintro e w' ⟨rfl,hb'⟩;have hb:ai w w':=nF.trans (hb'.mono nF.size);have hB':w'.heap[w.heap.size]?=some (.cells #[x.client,x.seq,x.kind,x.key,x.value] 42):=(hb'.block _ (aQ pT)).trans pT;exact⟨rfl,hb,hB',aj (HR.out.below hb).blk 4,aj hB' 0,aj hB' 1⟩)
 have HL:Hid (∀ Y,ai w Y->Y.heap[w.heap.size]?=some (.cells #[x.client,x.seq,x.kind,x.key,x.value] 42)->∀ W,W=Y.drew->Calls prog 284 #[.slice al r.log.length cl,x.client,x.seq] W fun e w'=>e=.returned (.bool (r.log.any (mr x.client x.seq)))/\ai w w'/\w'.heap[w.heap.size]?=some (.cells #[x.client,x.seq,x.kind,x.key,x.value] 42) /\
   w'.cell? (b,4)=some (.slice al r.log.length cl)/\w'.cell? (w.heap.size,0)=some (.int .i64 x.client)/\w'.cell? (w.heap.size,1)=some (.int .i64 x.seq)):=ae (by
  rintro Y bt pT W rfl;have nF:ai w Y.drew:=bt.drew;refine (ei.1 (Nm 6 (ae (by omega)) _ r.log x.client x.seq Y.drew (by omega) ((iv.cM HR.out.hl).below nF))).mono ?_
  rintro e w' ⟨rfl,hb'⟩;have hb:ai w w':=nF.trans (hb'.mono nF.size);have hB':w'.heap[w.heap.size]?=some (.cells #[x.client,x.seq,x.kind,x.key,x.value] 42):=(hb'.block _ (aQ pT)).trans pT;exact⟨rfl,hb,hB',aj (HR.out.below hb).blk 4,aj hB' 0,aj hB' 1⟩)
 have oS:Hid (∀ W,ai w W->Calls prog 277 #[b] W fun e w'=>e=.returned (.bool (decide ((24:Int)<=(r.log.length:Int))))/\w'=W):=ae fun W hb=>Fq b own r vm _ W (HR.out.below hb);unfold eP;go_enter func274,ntmps274;go_wp2_with fail;obtain⟨X,hX,hbX,cS⟩:∃ X,w.alloc (.cells #[x.client,x.seq,x.kind,x.key,x.value] 42)=X/\ai w X/\X.heap[w.heap.size]?=some (.cells #[x.client,x.seq,x.kind,x.key,x.value] 42):=⟨_,rfl,(ax _ w).alloc (aG _) _,hnw _ _⟩;rw[hX];clear hX;have c4:X.cell? (b,4)=some (.slice al r.log.length cl):=aj (HR.out.below hbX).blk 4;have g0:=aj cS 0;have g1:=aj cS 1;have lV:=ae cS;clear cS;go_region_held3 (fun w'=>w'.cell? (b,4)=some (.slice al r.log.length cl)/\w'.cell? (w.heap.size,0)=some (.int .i64 x.client)/\w'.cell? (w.heap.size,1)=some (.int .i64 x.seq)) (first|(simp[go_sem];done)|(simp[go_sem, *];done)|go_keep) (first|(go_at_call 282;refine (HF.out X hbX lV.out _ rfl).mono ?_;rintro e Y ⟨rfl,bt,pT,y4,y0,y1⟩))
 have eG:=ae pT;clear pT c4 g0 g1 lV hbX;cases hany:r.log.any (g_ x.client x.seq) with
 | true =>
  have hfl:r.log.findIdx (g_ x.client x.seq)<r.log.length:=List.findIdx_lt_length_of_exists (by simpa using hany)
  have Jq:Hid (qw r.log x.client x.seq=(r.log.findIdx (g_ x.client x.seq):Int)):=ae (by unfold qw;rw[if_pos hany])
  have HN:Hid (r.oA own x=if r.log.findIdx (g_ x.client x.seq)<r.aU then (r,[r.dm own (r.log.findIdx (g_ x.client x.seq))]) else (r,[])):=ae (by rw[HT.out,if_pos hany])
  rw[Jq.out];clear hany;go_wp2_with fail;refine (Tn b own r vm _ (r.log.findIdx (g_ x.client x.seq)) Y (HR.out.below bt) HO.out hfl (fun y hy=>HC.out y (List.mem_append_left _ hy))).mono ?_
  rintro e Z ⟨v,rfl,hmo,cq⟩;obtain⟨L,hL⟩:∃ L,L=(if r.log.findIdx (g_ x.client x.seq)<r.aU then [r.dm own (r.log.findIdx (g_ x.client x.seq))] else []):=⟨_,rfl⟩
  rw[<- hL] at hmo;have II:=ae hL;clear hL;obtain⟨av,cv,hsh⟩:=hmo.shape;subst hsh;go_wp2_with fail;go_ret;rw[HN.out];refine cX.before bt (cX.OV ?_)
  rw[<- II.out];exact⟨_,rfl,eB.still (HR.out.below bt) cq,hmo⟩
 | false =>
  have yD:=ae hany;clear hany;by_cases hfu:(24:Int)<=(r.log.length:Int)
  ·have HN:Hid (r.oA own x=(r,[])):=ae (by rw[HT.out,if_neg (by rw[yD.out];simp),if_pos (.inl (by omega))])
   have rp:decide ((24:Int)<=(r.log.length:Int))=true:=eR hfu;rw[rp] at oS;go_wp2_with fail;go_quiet ((go_at_call 277;refine (oS.out _ (aV bt _)).mono ?_;rintro e w9 ⟨rfl,rfl⟩;exact⟨rfl,_,rfl⟩))
   go_wp2_with fail;go_ret;rw[HN.out];exact cX.still HR.out (aV bt _)
  ·have rp:decide ((24:Int)<=(r.log.length:Int))=false:=ee hfu
   rw[rp] at oS;go_wp2_with fail;go_region_held3 (fun w'=>w'.cell? (b,4)=some (.slice al r.log.length cl)/\w'.cell? (w.heap.size,0)=some (.int .i64 x.client)/\w'.cell? (w.heap.size,1)=some (.int .i64 x.seq)) (first|(simp[go_sem];done)|(simp[go_sem, *];done)|go_keep) (first|(go_at_call 277;refine (oS.out _ bt.drew).mono ?_;rintro e w9 ⟨rfl,rfl⟩)|(go_at_call 284;refine (HL.out Y bt eG.out _ rfl).mono ?_;rintro e Z ⟨rfl,cq,pU,z4,z0,z1⟩))
   have tj:=ae pU;clear pU;cases hlat:r.log.any (mr x.client x.seq) with
   | true =>
    have HN:Hid (r.oA own x=(r,[])):=ae (by rw[HT.out,if_neg (by rw[yD.out];simp),if_pos (.inr hlat)])
    clear hlat;go_wp2_with fail;go_ret;rw[HN.out];exact cX.still HR.out cq
   | false =>
    have HN:Hid (r.oA own x=r.put own x):=ae (by rw[HT.out,if_neg (by rw[yD.out];simp),if_neg (by rw[hlat];simp;omega)])
    clear hlat;have g0:=aj tj.out 0;have g1:=aj tj.out 1;have g2:=aj tj.out 2;have g3:=aj tj.out 3;have g4:=aj tj.out 4;have hput:=Gp b own r vm _ x Z (HR.out.below cq) HO.out (by omega) HC.out
    unfold eP at hput;go_wp2_with fail;refine hput.mono ?_
    rintro e Z2 ⟨v,rfl,hto,hmo⟩;obtain⟨av,cv,hsh⟩:=hmo.shape;subst hsh;generalize hpl:(r.put own x).2.length=pl at *;go_wp2_with fail;go_ret;rw[HN.out];exact cX.before cq ⟨_,rfl,hto,hmo⟩
def aR.nX (r:aR)(own:Int)(m:aK):aR × List aK:=if m.log.length=1/\r.live own then r.asked own (m.log.headD aH.zero) else (r,[])
theorem Kq (r:aR)(own:Int)(e:aH):r.asked own e=if r.af.headD 0≠own then (r,[{ kind:=1,src:=own,dst:=r.af.headD 0,log:=[e] }]) else r.oA own e:=rfl
theorem Ue (b:Nat)(own:Int)(r:aR)(vm vl:Value)(m:aK)(mm ml:Value)(w:World)(h:dh w b own r vm vl)(ok:gH r)(h2:bw w ml m.log)(kB:∀ y∈r.log++m.log,0<=y.client/\y.client<=3) :
  Calls prog 265 #[b,bL m mm ml] w fun e w'=>cX w w' b own vm vl e (r.nX own m):=by
 have HT:Hid (r.nX own m=if m.log.length=1/\r.live own then r.asked own (m.log.headD aH.zero) else (r,[])):=ae rfl
 have hbl:b<w.heap.size:=(aQ h.blk);obtain⟨al,cl,rfl⟩:=aM h2;have HR:=ae h;have HO:=ae ok;have HC:=ae kB;have H2:=ae h2;have IJ:Hid (∀ W,ai w W->Calls prog 263 #[b] W fun e w'=>e=.returned (.bool (r.live own))/\∃ q,w'=W.drewN q):=ae fun W hb=>sL b own r vm vl W (h.below hb) ok;clear h ok kB h2;unfold bL;go_enter func265,ntmps265;go_upto_region 1 with fail
 obtain⟨X,hX,hbX,cS⟩:=dk w m mm (.slice al m.log.length cl);rw[hX];clear hX;have g9:=aj cS 9;have lV:=ae cS;clear cS;by_cases h1:m.log.length=1
 ·obtain⟨x,hx⟩:∃ x,m.log=[x]:=List.length_eq_one_iff.1 h1
  have Hx:=ae hx;rw[h1] at g9;have CG:=ae h1;clear h1 hx;go_wp2_with fail;refine (IJ.out _ hbX).mono ?_
  rintro e Y ⟨rfl,q,rfl⟩;have bt:=aV hbX q;have eG:Hid ((X.drewN q).heap[w.heap.size]?=some (.cells #[m.kind,m.src,m.dst,m.ah,m.ak,m.aO,m.pos,m.value,mm,.slice al m.log.length cl] 134)):=lV;generalize X.drewN q=Y at *;clear g9 lV hbX;cases hlv:r.live own with
  | false =>
   have HN:Hid (r.nX own m=(r,[])):=ae (by rw[HT.out,if_neg];rintro⟨-,h2⟩;rw[hlv] at h2;cases h2)
   clear hlv;go_wp2_with fail;go_ret;rw[HN.out];exact cX.still HR.out bt
  | true =>
   have HA:Hid (r.nX own m=if r.af.headD 0≠own then (r,[{ kind:=1,src:=own,dst:=r.af.headD 0,log:=[x] }]) else r.oA own x):=ae (by
    rw[HT.out,if_pos ⟨CG.out,hlv⟩,Hx.out,Kq];rfl)
   have hmem:own∈r.af:=by
    have:=hlv;unfold aR.live at this;simp at this;exact this.1
   have hpos:0<r.af.length:=List.length_pos_of_mem hmem;clear hlv hmem;have RY:=ae (HR.out.below bt);obtain⟨gm,cm,dG, -, -⟩:=HR.out.hm.form hpos;subst dG;have c3:=au RY.out.blk 3;have c0:=au RY.out.blk 0;have m0:Y.cell? (gm,0)=some (.int .i64 (r.af.headD 0)):=by
    obtain⟨a',c',e',hc'⟩:=bJ.cM RY.out.hm;cases e';obtain⟨b1,o1,e1,hc1⟩:=hc' 0 hpos;cases e1;rw[hc1];cases hmm:r.af with
    | nil=>rw[hmm] at hpos;simp at hpos
    | cons y t=>rfl
   have g9:Y.cell? (w.heap.size,9)=some (.slice al 1 cl):=by have:=aj eG.out 9;rw[CG.out] at this;exact this
   have hpos':(0:Int)<(r.af.length:Int):=by omega
   have r_:Hid (bw Y (.slice al 1 cl) [x]):=ae (by
    have:=aS (w':=Y) H2.out fun k _ hk=>bt.block k hk;rw[Hx.out] at this;exact this)
   generalize r.af.headD 0=hd at *;cases hne:(hd != own) with
   | true =>
    have HN:Hid (r.nX own m=(r,[{ kind:=1,src:=own,dst:=hd,log:=[x] }])):=ae (by rw[HA.out,if_pos (by simpa using hne)])
    go_wp2_with fail;go_region_held3 (fun w'=>w'.cell? (b,0)=some (.int .i64 own)/\w'.cell? (w.heap.size,9)=some (.slice al 1 cl)) (first|(simp[go_sem];done)|(simp[go_sem, *];done)|go_keep) (fail)
    all_goals
     go_wp2_with fail;go_ret;rw[HN.out];exact⟨_,rfl,eB.still HR.out ((bt.alloc bt.size _).drew),a_.one { kind:=1,src:=own,dst:=hd,log:=[x] } (.slice none 0 0) (.slice al 1 cl) (hnw _ _) bt.size (bd.nil _) (r_.out.alloc _)⟩
   | false =>
    have HN:Hid (r.nX own m=r.oA own x):=ae (by rw[HA.out,if_neg (by simpa using hne)])
    obtain⟨gl,cl',hvl, -, -⟩:=r_.out.form (by simp)
    cases hvl;have hrow:=gR.cM r_.out;obtain⟨cur,fz, -,hcc⟩:=hrow;obtain⟨e0,e1,e2,e3,e4⟩:=hcc 0 (by simp)
    have k0:Y.cell? (gl,0)=some (.int .i64 x.client):=by simpa using e0
    have k1:Y.cell? (gl,1)=some (.int .i64 x.seq):=by simpa using e1
    have k2:Y.cell? (gl,2)=some (.int .i64 x.kind):=by simpa using e2
    have k3:Y.cell? (gl,3)=some (.int .i64 x.key):=by simpa using e3
    have k4:Y.cell? (gl,4)=some (.int .i64 x.value):=by simpa using e4
    clear hcc e0 e1 e2 e3 e4;have hh:=T_ b own r _ vl x Y RY.out HO.out (by have:=HC.out;rw[Hx.out] at this;exact this)
    unfold eP at hh;go_wp2_with fail;refine hh.mono ?_
    rintro e Z ⟨v,rfl,hto,hmo⟩;obtain⟨av,cv,hsh⟩:=hmo.shape;subst hsh;generalize hpl:(r.oA own x).2.length=pl at *;go_wp2_with fail;go_ret;rw[HN.out];exact cX.before bt ⟨_,rfl,hto,hmo⟩
 ·have HN:Hid (r.nX own m=(r,[])):=ae (by rw[HT.out,if_neg (fun h=>h1 h.1)])
  have hbn:((m.log.length:Int) != 1)=true:=by simp;omega
  go_wp2_with fail;go_ret;rw[HN.out];exact cX.still HR.out hbX
def lo (n most:Int):Bool:=decide (0<=n) && decide (n<=most)
theorem xd (n most:Int)(w:World):Calls prog 114 #[.int .i64 n,.int .i64 most] w fun e w'=>e=.returned (.bool (lo n most))/\w'=w:=by
 have HU:Hid (lo n most=(decide (0<=n) && decide (n<=most))):=ae rfl;by_cases h:0<=n
 ·have HV:Hid (lo n most=decide (n<=most)):=ae (by rw[HU.out];simp[h])
  go_enter func114,ntmps114;go_wp2_with fail;go_ret;refine⟨?_,rfl⟩
  rw[HV.out];first|rfl|simp
 ·have HV:Hid (lo n most=false):=ae (by rw[HU.out];simp[h])
  go_enter func114,ntmps114;go_wp2_with fail;go_ret;refine⟨?_,rfl⟩
  rw[HV.out];first|rfl|simp
def qz (e:aH):Bool:=if e.kind=1 then lo e.value 999 else if e.kind=2 then decide (e.value=0) else false
theorem tN (w:World)(x:aH):∃ X,w.alloc (.cells #[x.client,x.seq,x.kind,x.key,x.value] 42)=X/\ai w X/\X.heap[w.heap.size]?=some (.cells #[x.client,x.seq,x.kind,x.key,x.value] 42) :=
 ⟨_,rfl,(ax _ w).alloc (aG _) _,hnw _ _⟩
theorem Nn (x:aH)(w:World):Calls prog 115 #[.agg #[x.client,x.seq,x.kind,x.key,x.value]] w fun e w'=>e=.returned (.bool (qz x))/\ai w w':=by
 have HU:Hid (qz x=if x.kind=1 then lo x.value 999 else if x.kind=2 then decide (x.value=0) else false):=ae rfl
 have HC:=fun W=>ae (xd x.value 999 W);cases t1:(x.kind == 1) with
 | true =>
  have HV:Hid (qz x=lo x.value 999):=ae (by rw[HU.out,if_pos (by simpa using t1)])
  go_enter func115,ntmps115;go_upto_region 1 with fail
  obtain⟨X,hX,hbX,hM⟩:=tN w x;rw[hX];clear hX;have gM:=fun j=>aj hM j;clear hM;go_wp2_with fail;refine (HC _).out.mono ?_
  rintro e W ⟨rfl,rfl⟩;go_wp2_with fail;go_ret;exact⟨by rw[HV.out];rfl,hbX⟩
 | false =>
  have N1:Hid (¬ x.kind=1):=ae (by simpa using t1)
  cases t2:(x.kind == 2) with
  | true =>
   have HV:Hid (qz x=decide (x.value=0)):=ae (by rw[HU.out,if_neg N1.out,if_pos (by simpa using t2)])
   go_enter func115,ntmps115;go_upto_region 1 with fail
   obtain⟨X,hX,hbX,hM⟩:=tN w x;rw[hX];clear hX;have gM:=fun j=>aj hM j;clear hM;go_wp2_with fail;go_ret;refine⟨?_,hbX⟩
   rw[HV.out];first|rfl|simp
  | false =>
   have HV:Hid (qz x=false):=ae (by rw[HU.out,if_neg N1.out,if_neg (by simpa using t2)])
   go_enter func115,ntmps115;go_upto_region 1 with fail
   obtain⟨X,hX,hbX,hM⟩:=tN w x;rw[hX];clear hX;have gM:=fun j=>aj hM j;clear hM;go_wp2_with fail;go_ret;exact⟨by rw[HV.out];rfl,hbX⟩
theorem Pp (x:aH):(lo x.client 3 && lo x.seq 999 && lo x.key 15 && qz x)=x.ok:=by
 unfold lo qz aH.ok lo;by_cases h1:x.kind=1
 ·simp[h1]
  cases decide (0<=x.client)<;>cases decide (x.client<=3)<;>cases decide (0<=x.seq)<;>cases decide (x.seq<=999)<;>cases decide (0<=x.key)<;>cases decide (x.key<=15)<;>simp
 ·by_cases h2:x.kind=2
  ·by_cases h3:x.value=0
   ·simp[h2,h3]
    cases decide (0<=x.client)<;>cases decide (x.client<=3)<;>cases decide (0<=x.seq)<;>cases decide (x.seq<=999)<;>cases decide (0<=x.key)<;>cases decide (x.key<=15)<;>simp
   ·simp[h2,h3]
  ·simp[h1,h2]
theorem Po (x:aH)(w:World):Calls prog 60 #[.agg #[x.client,x.seq,x.kind,x.key,x.value]] w fun e w'=>e=.returned (.bool x.ok)/\ai w w':=by
 have HU:=ae (Pp x);have lu:=fun W=>ae (xd x.client 3 W);have kl:=fun W=>ae (xd x.seq 999 W);have rZ:=fun W=>ae (xd x.key 15 W);have Ir:=fun W=>ae (Nn x W);go_enter func60,ntmps60;go_upto_region 1 with fail
 obtain⟨X,hX,hbX,hM⟩:=tN w x;rw[hX];clear hX;have gM:=fun j=>aj hM j;have HM:=ae hM;clear hM;go_wp2_with fail;refine (lu _).out.mono ?_
 rintro e W ⟨rfl,rfl⟩;cases u1:lo x.client 3 with
 | false =>
  have HV:Hid (x.ok=false):=ae (by rw[<- HU.out,u1];simp)
  go_wp2_with fail;go_ret;exact⟨by rw[HV.out];rfl,hbX⟩
 | true =>
  go_wp2_with fail;refine (kl _).out.mono ?_
  rintro e W ⟨rfl,rfl⟩;cases u2:lo x.seq 999 with
  | false =>
   have HV:Hid (x.ok=false):=ae (by rw[<- HU.out,u2];simp)
   go_wp2_with fail;go_ret;exact⟨by rw[HV.out];rfl,hbX⟩
  | true =>
   go_wp2_with fail;refine (rZ _).out.mono ?_
   rintro e W ⟨rfl,rfl⟩;cases u3:lo x.key 15 with
   | false =>
    have HV:Hid (x.ok=false):=ae (by rw[<- HU.out,u3];simp)
    go_wp2_with fail;go_ret;exact⟨by rw[HV.out];rfl,hbX⟩
   | true =>
    have HV:Hid (x.ok=qz x):=ae (by rw[<- HU.out,u1,u2,u3];simp)
    go_wp2_with fail;refine (Ir _).out.mono ?_
    rintro e W ⟨rfl,hb2⟩;clear gM;go_wp2_with fail;go_ret;exact⟨by rw[HV.out];rfl,hbX.trans (hb2.mono hbX.size)⟩
end Go.Proofs.YtgieeeeeiggoeaaGreat
