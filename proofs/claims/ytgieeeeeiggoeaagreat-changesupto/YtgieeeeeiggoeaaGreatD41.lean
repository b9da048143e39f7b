import Derived.Test.YtgieeeeeiggoeaaGreatD38
import Derived.Test.YtgieeeeeiggoeaaGreatD39
import Derived.Test.YtgieeeeeiggoeaaGreatD40
set_option maxRecDepth 100000
set_option maxHeartbeats 8000000
namespace Go.Proofs.YtgieeeeeiggoeaaGreat
open Go.RowKit Go.Shelf
open Tryz
variable {a:Acc}{p:Acc × List aK}{e:Ending}{x y:Int}{l:List Int}{ms:List aK}{b base:Nat}{F:Nat->Prop}{v vl vm vv:Value}{W w w':World}
theorem Moved.mX {U:World}{S:Nat->Prop}(h:Moved w w' S)(hb:Below w.heap.size w' U)(hs:w'.heap.size<=U.heap.size):Moved w U S :=
 ⟨hb.os.trans h.os,hb.tape.trans h.tape,hb.output.trans h.output,bP h.size hs,fun k hk hS=>(hb.block k hk).trans (h.block k hk hS)⟩
theorem GC (b:Nat)(r:aR)(vm vl:Value)(own:Int)(x:aH)(w:World)(h:RR w b r vm vl)(hl:r.af.length<=5)(hn:r.af.Nodup)(hp:∀ x∈r.af,0<=x)(hmem:own∈r.af)(sC:r.log.length<24)(hcm:r.aU<=r.log.length)(hok:∀ y∈r.log++[x],0<=y.client/\y.client<=1000) :
  Calls prog 211 #[b,.int .i64 own,.agg #[x.client,x.seq,x.kind,x.key,x.value]] w fun e w'=>dJ w b vm vl e w' (r.put own x):=by
 obtain⟨r1,hr1⟩:∃ r1:aR,r1={ r with log:=r.log++[x] }:=⟨_,rfl⟩
 have Aw:r1.log=r.log++[x]:=by rw[hr1]
 have p_:r1.af=r.af:=by rw[hr1]
 have E3:r1.aU=r.aU:=by rw[hr1]
 have E4:r1.log.length=r.log.length+1:=by rw[Aw,bG];rfl
 obtain⟨B,hB,bz,bf⟩:=ch w #[x.client,x.seq,x.kind,x.key,x.value] 42;have kU:b<w.heap.size:=(aQ h.blk);have Fe:bA (fun k=>k<w.heap.size) vm:=fun k e=>(dL.1 (bK h.hm e).choose_spec.1).1;have da:=h.below bz;obtain⟨al,cl,hvl⟩:=aM h.hl;subst hvl;obtain⟨am,cm,dG⟩:=aM h.hm;subst dG;have b4:=au da.blk 4;have k0:=au bf 0;have k1:=au bf 1;have k2:=au bf 2;have k3:=au bf 3;have k4:=au bf 4;have eb:=bz.size;have fin:∀ V a' c' g,ai B V->V.ownsRow B.heap.size 42 5 (.slice a' r.log.length c') r.log.length (aJ (bk r.log))->V.heap[g]?=some (.cells #[x.client,x.seq,x.kind,x.key,x.value] 42) ->
   ∃ g' cap' W1,(∀ ty,(Builtin.append_ #[44,44] ty #[.slice a' r.log.length c',.slice (some ⟨g,0,none⟩) 1 1]).run prog V=.ok (.slice (some ⟨g',0,none⟩) (r.log.length+1) cap') W1)/\W1.cell? (b,4)=some (.slice al r.log.length cl)/\W1.frozen? (b,4)=false /\
    RR (W1.setCell ⟨b,4,none⟩ (.slice (some ⟨g',0,none⟩) (r.log.length+1) cap')) b r1 (.slice am r.af.length cm) (.slice (some ⟨g',0,none⟩) (r.log.length+1) cap')/\Moved w (W1.setCell ⟨b,4,none⟩ (.slice (some ⟨g',0,none⟩) (r.log.length+1) cap')) (fun k=>k=b)/\w.heap.size<=g':=fun V a' c' g bF ho hg=>by
  obtain⟨g',cap',W1,q1,q2,q3,q4, -,q5⟩:=(da.below bF).add ho hg bF.size (by omega)
  have hbW:ai w W1:=(bz.trans (bF.mono eb)).trans (q4.2.mono eb);refine⟨g',cap',W1,q1,q2,q3, ?_,((Moved.refl w (fun k=>k=b)).below hbW).setCell ⟨b,4,none⟩ rfl _,by omega⟩
  rw[hr1];exact q5 (by omega) (fun k e=>by have:=Fe k e;omega)
 have Cq:Hid (∀ W,W=B.drew->Calls prog 208 #[.slice al r.log.length cl] W fun e w'=>∃ a' c',e=.returned (.slice a' r.log.length c')/\(w'.cell? (w.heap.size,0)=some (.int .i64 x.client)/\w'.cell? (w.heap.size,1)=some (.int .i64 x.seq)/\w'.cell? (w.heap.size,2)=some (.int .i64 x.kind)/\w'.cell? (w.heap.size,3)=some (.int .i64 x.key)/\w'.cell? (w.heap.size,4)=some (.int .i64 x.value))/\∃ g' cap' W1,(∀ ty,(Builtin.append_ #[44,44] ty #[.slice a' r.log.length c',.slice (some w'.heap.size) 1 1]).run prog (w'.alloc (.cells #[x.client,x.seq,x.kind,x.key,x.value] 42))=.ok (.slice (some ⟨g',0,none⟩) (r.log.length+1) cap') W1)/\W1.cell? (b,4)=some (.slice al r.log.length cl)/\W1.frozen? (b,4)=false /\
    RR (W1.setCell ⟨b,4,none⟩ (.slice (some ⟨g',0,none⟩) (r.log.length+1) cap')) b r1 (.slice am r.af.length cm) (.slice (some ⟨g',0,none⟩) (r.log.length+1) cap')/\Moved w (W1.setCell ⟨b,4,none⟩ (.slice (some ⟨g',0,none⟩) (r.log.length+1) cap')) (fun k=>k=b)/\w.heap.size<=g'):=ae fun W hW=>by
  subst hW;refine (nh (.slice al r.log.length cl) r.log B.drew (da.below (ax _ _).drew).hl (by omega)).mono ?_
  rintro e V ⟨v',rfl,ho,bF⟩;obtain⟨a',c',hv'⟩:=aM ho;subst hv';have pe:ai B V:=(ax _ B).drew.trans bF;have hA:ai V (V.alloc (.cells #[x.client,x.seq,x.kind,x.key,x.value] 42)):=(ax _ V).alloc (aG _) _;exact⟨a',c',rfl,⟨aF pe k0,aF pe k1,aF pe k2,aF pe k3,aF pe k4⟩,fin _ a' c' _ (pe.trans (hA.mono pe.size)) (aS ho fun z _ hz=>hA.block z hz) (hnw _ _)⟩
 have Cr:Hid (Calls prog 208 #[.slice al r.log.length cl] (B.alloc (.cells #[x.client,x.seq,x.kind,x.key,x.value] 42)).drew fun e w'=>∃ a' c',e=.returned (.slice a' r.log.length c')/\∃ g' cap' W1,(∀ ty,(Builtin.append_ #[44,44] ty #[.slice a' r.log.length c',.slice (some B.heap.size) 1 1]).run prog w'=.ok (.slice (some ⟨g',0,none⟩) (r.log.length+1) cap') W1)/\W1.cell? (b,4)=some (.slice al r.log.length cl)/\W1.frozen? (b,4)=false /\
    RR (W1.setCell ⟨b,4,none⟩ (.slice (some ⟨g',0,none⟩) (r.log.length+1) cap')) b r1 (.slice am r.af.length cm) (.slice (some ⟨g',0,none⟩) (r.log.length+1) cap')/\Moved w (W1.setCell ⟨b,4,none⟩ (.slice (some ⟨g',0,none⟩) (r.log.length+1) cap')) (fun k=>k=b)/\w.heap.size<=g'):=ae (by
  have hA:ai B (B.alloc (.cells #[x.client,x.seq,x.kind,x.key,x.value] 42)).drew:=((ax _ B).alloc (aG _) _).drew;refine (nh (.slice al r.log.length cl) r.log _ (da.below hA).hl (by omega)).mono ?_
  rintro e V ⟨v',rfl,ho,bF⟩;obtain⟨a',c',hv'⟩:=aM ho;subst hv';have pe:ai B V:=hA.trans (bF.mono hA.size);exact⟨a',c',rfl,fin V a' c' B.heap.size pe (obs ho hA.size) ((bF.block _ (by simp)).trans (hnw _ _))⟩)
 have y4:∀ o,(B.alloc o).cell? (b,4)=some (.slice al r.log.length cl):=fun o=>aF ((ax _ B).alloc (aG _) o) b4;have HP:Hid (r.put own x=match bS r.af own with|some nx=>(r1,[r1.forward own nx r.log.length])|none=>r1.mJ own):=ae (by rw[hr1];rfl)
 have vO:Hid (∀ W bD,RR W b r1 (.slice am r.af.length cm) bD->Calls prog 175 #[b,.int .i64 own] W fun e w'=>e=.returned (.tuple #[.int .i64 (ed r.af own),.bool (decide (0<=ed r.af own) && decide (r1.lock<=r1.ah))])/\∃ q,w'=W.drewN q):=ae fun W bD hR=>by
  have:=sV b r1 _ bD own W hR.ka (by rw[p_];exact hl)
  rw[p_] at this;exact this
 have tl:Hid (∀ W bD,RR W b r1 (.slice am r.af.length cm) bD->Calls prog 207 #[b,.int .i64 own,.int .i64 (r.log.length:Int)] W fun e w'=>∃ vq,e=.returned (bL (r1.forward own ((bS r.af own).getD (-1)) r.log.length) (.slice none 0 0) vq)/\w'.ownsRow W.heap.size 42 5 vq 1 (aJ (bk [r1.log.getD r.log.length aH.zero]))/\ai W w'):=ae fun W bD hR=>by
  have:=GF b r1 _ bD own r.log.length W hR.ka (by rw[p_];exact hl) (by omega) (by omega)
  rw[p_,xt hn hmem] at this;exact this
 have yz:Hid (∀ W k bD,k<r1.log.length->RR W b { r1 with aU:=k } (.slice am r.af.length cm) bD->Calls prog 220 #[b,.int .i64 own,.int .i64 (k:Int)] W fun e w'=>e=.returned (bL (r1.dm own k) (.slice none 0 0) (.slice none 0 0))/\ai W w'):=ae fun W k bD hk hR=>by
  have hy:r1.log.getD k aH.zero∈r.log++[x]:=by
   rw[<- Aw,ew,bU hk];exact List.getElem_mem hk
  exact GI b { r1 with aU:=k } _ bD own k W hR.ka hk (by show r1.log.length<=24;omega) (hok _ hy)
 have oN:Hid (∀ W k bD,RR W b { r1 with aU:=k } (.slice am r.af.length cm) bD->Calls prog 206 #[b,.int .i64 own] W fun e w'=>∃ v,e=.returned v/\a_ w' W.heap.size v ({ r1 with aU:=k }.c_ own)/\ai W w'):=ae fun W k bD hR=>xF b { r1 with aU:=k } _ bD own W hR.ka (by show r1.af.length<=5;rw[p_];exact hl) (by show r1.af.Nodup;rw[p_];exact hn) (by show ∀ x∈r1.af,0<=x;rw[p_];exact hp)
 have hlast:=AO hn hmem;have hrg:=xD r.af own r.af.length;have hro:j_ r.af own r.af.length=ed r.af own:=rfl;rw[hro] at hrg;generalize ed r.af own=R at *;have hwr:IntKind.i64.wrap ((r.af.length:Int)-1)=(r.af.length:Int)-1:=by rw[dV];omega
 have hwr2:IntKind.i64.wrap (((r.log.length+1:Nat):Int)-1)=(r.log.length:Int):=by rw[dV];omega
 clear fin h da bf Fe hro;have HR1:=ae (aP E3 E4);clear hr1 Aw p_ E3 E4;go_enter func211,ntmps211;go_upto_region 1 with fail
 go_cut [6] (fun r6 wx=>r6=.slice none 0 0/\∃ g' cap',RR wx b r1 (.slice am r.af.length cm) (.slice (some ⟨g',0,none⟩) (r.log.length+1) cap')/\Moved w wx (fun k=>k=b)/\w.heap.size<=g')
 case first =>
  go_region_law (first
   | (rw[if_pos (by simp[Region.wanted])];go_simp;go_at_call 208;refine (Cq.out _ rfl).mono ?_;rintro e V ⟨a',c',rfl,⟨v0,v1,v2,v3,v4⟩,g',cap',W1,hrun,q2,q3,q4⟩;have HQ:=ae q4;clear q4)
   | (rw[if_pos (by simp[Region.wanted])];go_simp;go_at_call 208;refine Cr.out.mono ?_;rintro e V ⟨a',c',rfl,g',cap',W1,hrun,q2,q3,q4⟩;have HQ:=ae q4;clear q4)
   | (refine jq rfl (.tmp 15) (.tmp 17) 44 rfl _ _ _ _ (by simp[Act.eval]) (by simp[Act.eval]) hrun ?_))
  all_goals (
   go_wp2_with fail;go_meet;exact⟨rfl,g',cap',HQ.out⟩)
 case rest =>
  obtain⟨rfl,g',cap',hR,bI,hg'⟩:=hcut;clear k0 k1 k2 k3 k4 b4 y4 Cq Cr;have HR:=ae (aP hR (aP bI hg'));have c3:=au hR.blk 3;have c4:=au hR.blk 4;clear hR bI hg';by_cases hRl:R<(r.af.length:Int)-1
  ·obtain⟨nx,hnx⟩:∃ nx,bS r.af own=some nx:=by
    cases e:bS r.af own with
    | none=>have:=hlast.2 e;omega
    | some nx=>exact⟨nx,rfl⟩
   rw[hnx] at tl;have HV:Hid (r.put own x=(r1,[r1.forward own nx r.log.length])):=ae (by rw[HP.out,hnx])
   clear hlast;go_wp2_with fail;refine (vO.out _ _ HR.out.1).mono ?_
   rintro e W ⟨rfl,q,rfl⟩;go_wp2_with fail;refine (tl.out _ _ (HR.out.1.below (aV (ax _ _) q))).mono ?_
   rintro e Y ⟨vq,rfl,ho,bt⟩;have HY:=ae (aP ho bt);unfold bL;obtain⟨a9,c9,dz⟩:=aM ho;subst dz;clear ho bt;go_wp2_with fail;go_ret;rw[HV.out];have hbw:ai wc Y:=(aV (ax _ _) q).trans HY.out.2;have fp:ai Y (Y.alloc (.cells (cd (r1.forward own nx r.log.length,.slice none 0 0,.slice a9 1 c9)).toArray 134)):=(ax _ Y).alloc (aG _) _;have Ae:=hbw.trans (fp.mono hbw.size);have hws:=HR.out.2.1.size;refine⟨_,_,_,rfl,HR.out.1.below Ae,a_.one _ (.slice none 0 0) (.slice a9 1 c9) (hnw _ _) (bP hws hbw.size) (bE _ _ _ _) (obs (aS HY.out.1 fun z _ hz=>fp.block z hz) (bl _)),HR.out.2.1.mX (Ae.mono hws) Ae.size,bO.refl _ _,fun k e=>.inr ?_⟩
   have:g'=k:=by simpa [Value.ownBlock] using e
   have:=HR.out.2.2;omega
  ·have hnx:bS r.af own=none:=hlast.1 (by omega)
   have HV:Hid (r.put own x=r1.mJ own):=ae (by rw[HP.out,hnx])
   clear hlast;go_wp2_with fail;refine (vO.out _ _ HR.out.1).mono ?_
   rintro e W ⟨rfl,q,rfl⟩;go_wp2_with fail;go_loopw [9] (fun v wr=>∃ k:Nat,r.aU<=k/\k<=r1.log.length/\a_ wr w.heap.size v ((fc r.aU k).map (r1.dm own))/\RR wr b { r1 with aU:=k } (.slice am r.af.length cm) (.slice (some ⟨g',0,none⟩) (r.log.length+1) cap')/\Moved w wr (fun k=>k=b)) (fun _ wr=>match wr.cell? ⟨b,6,none⟩ with|some u=>r1.log.length-(intOf u).toNat|none=>0)
   case atStart =>
    refine⟨r.aU,aG _,by have:=HR1.out.2;omega,by rw[Gl];exact a_.nil _ _, ?_,HR.out.2.1.mX (aV (ax w.heap.size wc) q) (aG _)⟩
    have:=HR.out.1.below (aV (ax wc.heap.size wc) q);rw[show ({ r1 with aU:=r.aU }:aR)=r1 by rw[<- HR1.out.1]]
    exact this
   case round =>
    obtain⟨k,hk1,hk2,hm,hRk,qY⟩:=hrel;obtain⟨a9,c9,dz⟩:=hm.shape;subst dz;have d6:=au hRk.blk 6;have d4:=au hRk.blk 4;have hmk:Hid (r1.log.length=r.log.length+1):=ae HR1.out.2;have Je:=ae (aP hm (aP hRk qY));by_cases hlt:k<r1.log.length
    ·have hk3:(k:Int)<((r.log.length+1:Nat):Int):=by have:=hmk.out;omega
     have HC:Hid (∀ W,ai wr W->Calls prog 220 #[b,.int .i64 own,.int .i64 (k:Int)] W fun e w'=>e=.returned (bL (r1.dm own k) (.slice none 0 0) (.slice none 0 0))/\∃ v3 W3,(∀ ty,(Builtin.append_ #[97,97] ty #[.slice a9 ((fc r.aU k).map (r1.dm own)).length c9,.slice (some w'.heap.size) 1 1]).run prog (w'.alloc (.cells (cd (r1.dm own k,.slice none 0 0,.slice none 0 0)).toArray 134))=.ok v3 W3)/\(∃ a3 n3 c3,v3=.slice a3 n3 c3)/\a_ W3 w.heap.size v3 ((fc r.aU (k+1)).map (r1.dm own))/\RR W3 b { r1 with aU:=k } (.slice am r.af.length cm) (.slice (some ⟨g',0,none⟩) (r.log.length+1) cap')/\Moved w W3 (fun k=>k=b)):=ae fun W hbW=>by
      refine (yz.out W k _ hlt (hRk.below hbW)).mono ?_
      rintro e w' ⟨rfl,hb'⟩;refine⟨rfl, ?_⟩
      have hws:=qY.size;have hb2:=hbW.trans (hb'.mono hbW.size);have fp:ai w' (w'.alloc (.cells (cd (r1.dm own k,.slice none 0 0,.slice none 0 0)).toArray 134)):=(ax _ w').alloc (aG _) _;have hb3:=hb2.trans (fp.mono hb2.size);have hone:a_ (w'.alloc (.cells (cd (r1.dm own k,.slice none 0 0,.slice none 0 0)).toArray 134)) 0 (.slice (some w'.heap.size) 1 1) [r1.dm own k]:=a_.one _ (.slice none 0 0) (.slice none 0 0) (hnw _ _) (bl _) (bE _ _ _ _) (bE _ _ _ _);have uy:=hm.below hb3;obtain⟨v3,W3,hr,h3,hb4,tX⟩:=a_.plus uy hone (by rw[fF,Bn];simp;omega) (bP hws hb3.size)
      obtain⟨a3,c3,hv3⟩:=h3.shape;refine⟨v3,W3,hr,⟨_,_,_,hv3⟩, ?_,(hRk.below hb3).Gb uy tX,(qY.mX (hb3.mono hws) hb3.size).mX hb4 tX.size⟩
      rw[Gm _ _ hk1,gw];exact h3
     clear hm hRk qY;go_wp2_with fail;go_quiet (fail);go_wp2_with fail;refine (HC.out _ (aV (ax _ _) nq)).mono ?_
     rintro e Y ⟨rfl,v3,W3,hrun,⟨a3,n3,c3',hv3⟩,jB,oy,i5⟩;subst hv3;have HQ:=ae (aP jB (aP oy i5));have eV:=ae hrun;have f6:=au oy.blk 6;have g6:=aW oy.blk 6;have hwk:IntKind.i64.wrap ((k:Int)+1)=((k+1:Nat):Int):=by rw[dV];omega
     unfold bL;clear jB oy i5 hrun d6 d4;go_wp2_with (at_builtin;refine kI rfl (.tmp 55) (.tmp 63) 97 rfl _ _ _ _ (by simp[Act.eval]) (by simp[Act.eval]) eV.out ?_)
     go_wp2_with fail;go_roundw
     case rel=>exact⟨k+1,by omega,by omega,HQ.out.1.KB HQ.out.2.1.blk 6 _,HQ.out.2.1.aU (k+1),HQ.out.2.2.setCell ⟨b,6,none⟩ rfl _⟩
     case measure =>
      have e1:(W3.setCell ⟨b,6,none⟩ (.int .i64 ((k:Int)+1))).cell? (b,6)=some (.int .i64 ((k:Int)+1)):=aj (HQ.out.2.1.aU (k+1)).blk 6;have e2:=au Je.out.2.1.blk 6;rw[e1,e2];simp[intOf];omega
    ·obtain rfl:k=r1.log.length:=by omega
     have hk3:¬ ((r1.log.length:Nat):Int)<((r.log.length+1:Nat):Int):=by have:=hmk.out;omega
     have HC:Hid (∀ W,ai wr W->Calls prog 206 #[b,.int .i64 own] W fun e w'=>∃ a2 n2 c2,e=.returned (.slice a2 n2 c2)/\∃ v3 W3,(∀ ty,(Builtin.append_ #[97,97] ty #[.slice a9 ((fc r.aU r1.log.length).map (r1.dm own)).length c9,.slice a2 n2 c2]).run prog w'=.ok v3 W3)/\(∃ a3 n3 c3,v3=.slice a3 n3 c3)/\a_ W3 w.heap.size v3 ((fc r.aU r1.log.length).map (r1.dm own)++{ r1 with aU:=r1.log.length }.c_ own)/\RR W3 b { r1 with aU:=r1.log.length } (.slice am r.af.length cm) (.slice (some ⟨g',0,none⟩) (r.log.length+1) cap')/\Moved w W3 (fun k=>k=b)):=ae fun W hbW=>by
      refine (oN.out W _ _ (hRk.below hbW)).mono ?_
      rintro e w' ⟨v2,rfl,hm2,hb'⟩;obtain⟨a2,c2,hv2⟩:=hm2.shape;subst hv2;refine⟨a2,_,c2,rfl, ?_⟩
      have hws:=qY.size;have hb2:=hbW.trans (hb'.mono hbW.size);have uy:=hm.below hb2;have hal:=vW { r1 with aU:=r1.log.length } own
      obtain⟨v3,W3,hr,h3,hb4,tX⟩:=a_.plus uy hm2 (by rw[fF,Bn];have:=hmk.out;omega) (bP hws hb2.size)
      obtain⟨a3,c3,hv3⟩:=h3.shape;exact⟨v3,W3,hr,⟨_,_,_,hv3⟩,h3,(hRk.below hb2).Gb uy tX,(qY.mX (hb2.mono hws) hb2.size).mX hb4 tX.size⟩
     clear hm hRk qY;go_wp2_with fail;go_quiet (fail);go_wp2_with fail;refine (HC.out _ (aV (ax _ _) nq)).mono ?_
     rintro e Y ⟨a2,n2,c2,rfl,v3,W3,hrun,⟨a3,n3,c3',hv3⟩,jB,oy,i5⟩;subst hv3;have HQ:=ae (aP jB (aP oy i5));have eV:=ae hrun;clear jB oy i5 hrun d6 d4;go_wp2_with (at_builtin;refine kI rfl (.tmp 72) (.tmp 75) 97 rfl _ _ _ _ (by simp[Act.eval]) (by simp[Act.eval]) eV.out ?_)
     go_wp2_with fail;go_ret;rw[HV.out];refine⟨_,_,_,rfl,HQ.out.2.1, ?_,HQ.out.2.2,bO.refl _ _,fun k e=>.inr ?_⟩
     ·show a_ W3 w.heap.size _ ((fc r1.aU r1.log.length).map (r1.dm own)++_)
      rw[HR1.out.1];exact HQ.out.1
     ·have:g'=k:=by simpa [Value.ownBlock] using e
      have:=HR.out.2.2;omega
theorem dJ.msgs {r:aR}(h:RR w b r vm vl)(hb:ai w w')(hm:a_ w' w.heap.size v ms):dJ w b vm vl (.returned v) w' (r,ms) :=
 ⟨_,vm,vl,rfl,h.below hb,hm,(Moved.refl w _).below hb,bO.refl _ _,bO.refl _ _⟩
theorem dJ.before {w1:World}{p:aR × List aK}(hb:ai w w1)(h:dJ w1 b vm vl e w' p):dJ w b vm vl e w' p:=by
 obtain⟨v,bN,bD,rfl,h1,h2,h3,h4,h5⟩:=h;have hs:=hb.size;refine⟨v,bN,bD,rfl,h1,h2.base hs,((Moved.refl w _).below hb).trans h3 (fun k _ e=>e),fun k e=>(h4 k e).imp id (fun q=>by omega),fun k e=>(h5 k e).imp id (fun q=>by omega)⟩
theorem C0 (f:aH->Bool)(l:List aH)(k:Nat)(hk:k<l.length):(l.take (k+1)).any f=((l.take k).any f || f (l.getD k aH.zero)):=by
 rw[nU hk,List.any_append];have:l.getD k aH.zero=l[k]:=by rw[ew,bU hk];rfl
 rw[this];simp
theorem Ml (f:aH->Bool)(l:List aH)(k:Nat)(hk:k<l.length)(h0:(l.take k).any f=false)(h1:f (l.getD k aH.zero)=true):l.any f=true/\l.findIdx f=k:=by
 have hg:l.getD k aH.zero=l[k]:=by rw[ew,bU hk];rfl
 rw[hg] at h1;refine⟨List.any_eq_true.2 ⟨l[k],List.getElem_mem hk,h1⟩, ?_⟩
 rw[List.findIdx_eq hk];refine⟨h1,fun j hj => ?_⟩
 have:=List.any_eq_false.1 h0 l[j] (by
  rw[List.mem_take_iff_getElem];exact⟨j,by omega,rfl⟩)
 simpa using this
theorem Sv (b:Nat)(r:aR)(vm vl:Value)(own:Int)(x:aH)(w:World)(h:RR w b r vm vl)(hl:r.af.length<=5)(hn:r.af.Nodup)(hp:∀ x∈r.af,0<=x)(hmem:own∈r.af)(sC:r.log.length<=24)(hcm:r.aU<=r.log.length)(hok:∀ y∈r.log++[x],0<=y.client/\y.client<=1000) :
  Calls prog 210 #[b,.int .i64 own,.int .i64 (ed r.af own),.agg #[x.client,x.seq,x.kind,x.key,x.value]] w fun e w'=>dJ w b vm vl e w' (r.asked own x):=by
 have wU:(0<ed r.af own)↔r.af.headD 0≠own:=by
  rw[u_ hn hmem];cases hmm:r.af with
  | nil=>rw[hmm] at hmem;cases hmem
  | cons a t =>
   rw[List.idxOf_cons];show _↔a≠own;by_cases e:a=own
   ·simp[e]
   ·have e2:(a == own)=false:=by simpa using e
    rw[e2];refine⟨fun _=>e,fun _ => ?_⟩
    show (0:Int)<((t.idxOf own+1:Nat):Int);omega
 have hh0:r.af.getD 0 0=r.af.headD 0:=by cases r.af<;>rfl
 have hpos:0<r.af.length:=List.length_pos_of_mem hmem;have HA:Hid (r.asked own x=if (r.af.headD 0)≠own then (r,[{ kind:=1,src:=own,dst:=r.af.headD 0,log:=[x] }])
  else if r.log.any (iD x) then
   if r.log.findIdx (iD x)<r.aU then (r,[r.dm own (r.log.findIdx (iD x))]) else (r,[])
  else if 24<=r.log.length\/r.log.any (la x) then (r,[])
  else r.put own x):=ae rfl
 obtain⟨B,hB,bz,bf⟩:=ch w #[x.client,x.seq,x.kind,x.key,x.value] 42;have HR:=ae h;have da:=h.below bz;obtain⟨al,cl,hvl⟩:=aM h.hl;subst hvl;obtain⟨am,cm,dG⟩:=aM h.hm;subst dG;have k0:=au bf 0;have k1:=au bf 1;have k2:=au bf 2;have k3:=au bf 3;have k4:=au bf 4;have b3:=au da.blk 3;have b4:=au da.blk 4;have b6:=au da.blk 6;have Ct:=ae bf;by_cases h1:r.af.headD 0≠own
 ·have hR0:=wU.2 h1
  have HV:Hid (r.asked own x=(r,[{ kind:=1,src:=own,dst:=r.af.headD 0,log:=[x] }])):=ae (by rw[HA.out,if_pos h1])
  obtain⟨am',LD,OJ,hmv⟩:=da.ka.af;cases OJ;obtain⟨b2,off,rfl,hc⟩:=hmv 0 hpos;rw[hh0,Nat.add_zero] at hc;have hp1:(0:Int)<(r.af.length:Int):=by omega
  generalize r.af.headD 0=hd at *;generalize ed r.af own=R at *;have y3:∀ o,(B.alloc o).cell? (b,3)=some (.slice (some ⟨b2,off,none⟩) r.af.length cm):=fun o=>aF ((ax _ B).alloc (aG _) o) b3;have yc:∀ o,(B.alloc o).cell? ⟨b2,off,none⟩=some (.int .i64 hd):=fun o=>aF ((ax _ B).alloc (aG _) o) hc;clear h da bf hmv wU HA;go_enter func210,ntmps210;go_wp2_with fail;go_region;go_wp2_with fail;go_ret;rw[HV.out];have hb1:ai B (B.alloc (.cells #[x.client,x.seq,x.kind,x.key,x.value] 42)):=(ax _ B).alloc (aG _) _;have hb2:=(hb1.alloc (by simp) (.cells #[.int .i64 1,.int .i64 own,.int .i64 hd,(),(),(),(),(),true,.slice (some B.heap.size) 1 1] 134)).drew
  refine dJ.msgs HR.out (bz.trans (hb2.mono bz.size)) (a_.one (g:=B.heap.size+1) _ (.slice none 0 0) (.slice (some B.heap.size) 1 1) ?_ (by have:=bz.size;omega) (bE _ _ _ _) ⟨rfl,.inr ⟨B.heap.size,1,#[.int .i64 x.client,.int .i64 x.seq,.int .i64 x.kind,.int .i64 x.key,.int .i64 x.value],rfl,bl _, ?_,aG _,by decide,rfl,rfl⟩⟩)
  ·exact kX _ _ _
  ·exact (j6 _ _ _ (by simp)).trans (hnw _ _)
 ·have hR0:¬ 0<ed r.af own:=fun e=>h1 (wU.1 e)
  have lY:Hid (r.asked own x=if r.log.any (iD x) then (if r.log.findIdx (iD x)<r.aU then (r,[r.dm own (r.log.findIdx (iD x))]) else (r,[])) else if 24<=r.log.length\/r.log.any (la x) then (r,[]) else r.put own x):=ae (by rw[HA.out,if_neg h1])
  have oj:=ae da;have yz:Hid (∀ W k,ai B W->k<r.log.length->Calls prog 220 #[b,.int .i64 own,.int .i64 (k:Int)] W fun e w'=>e=.returned (bL (r.dm own k) (.slice none 0 0) (.slice none 0 0))/\ai W w'):=ae fun W k hb hk=>GI b r _ _ own k W (da.below hb).ka hk sC (hok _ (List.mem_append_left _ (by rw[ew,bU hk];exact List.getElem_mem hk)))
  have ye:Hid (∀ W,ai B W->r.log.length<24->Calls prog 211 #[b,.int .i64 own,.agg #[x.client,x.seq,x.kind,x.key,x.value]] W fun e w'=>dJ w b (.slice am r.af.length cm) (.slice al r.log.length cl) e w' (r.put own x)):=ae fun W hb mi=>(GC b r _ _ own x W (da.below hb) hl hn hp hmem mi hcm hok).mono fun e w' hq=>dJ.before (bz.trans (hb.mono bz.size)) hq;generalize ed r.af own=R at *;clear h da bf wU HA h1;go_enter func210,ntmps210;go_wp2_with fail;go_loopw [9,10] (fun gr i wr=>∃ k:Nat,k<=r.log.length/\i=.int .i64 k/\gr=.bool ((r.log.take k).any (la x))/\(r.log.take k).any (iD x)=false/\ai B wr) (fun _ i _=>r.log.length-(intOf i).toNat)
  case atStart=>exact⟨0,bl _,rfl,rfl,rfl,ax _ _⟩
  case round =>
   obtain⟨k,hk,rfl,rfl,hno,hb⟩:=hrel;have sd:=ae hno;have c4:=aF hb b4;have c6:=aF hb b6;have m0:=aF hb k0;have m1:=aF hb k1;have m2:=aF hb k2;have m3:=aF hb k3;have m4:=aF hb k4;clear hno;by_cases hlt:k<r.log.length
   ·have hk0:(0:Int)<=(k:Int):=by omega
    have hk1:(k:Int)<(r.log.length:Int):=by omega
    obtain⟨al',cl',OI,hlv⟩:=(oj.out.below hb).ka.log;cases OI;obtain⟨b1,o1,rfl,l0,l1,l2,l3,l4⟩:=hlv k hlt;have HL:=ae (C0 (la x) r.log k hlt);have HQ:=ae (C0 (iD x) r.log k hlt);have Iu:Hid (iD x (r.log.getD k aH.zero)=true->r.log.any (iD x)=true/\r.log.findIdx (iD x)=k):=ae (Ml (iD x) r.log k hlt sd.out);have yk:Hid (∀ y,la x y=(decide (y.client=x.client) && decide (x.seq<y.seq))):=ae fun _=>rfl;have yy:Hid (∀ y,iD x y=(decide (y.client=x.client) && decide (y.seq=x.seq))):=ae fun _=>rfl;obtain⟨E,hE,iA,tY⟩:=ch wr #[.int .i64 (r.log.getD k aH.zero).client,.int .i64 (r.log.getD k aH.zero).seq,.int .i64 (r.log.getD k aH.zero).kind,.int .i64 (r.log.getD k aH.zero).key,.int .i64 (r.log.getD k aH.zero).value] 42;have e0:=aj tY 0;have e1:=aj tY 1;have n0:=aF iA m0;have n1:=aF iA m1;have n6:=aF iA c6;have re:ai B E:=hb.trans (iA.mono hb.size);generalize r.log.getD k aH.zero=y at *;have LY:E.cell? (wr.heap.size,0)=some (.int .i64 y.client):=e0;have qL:E.cell? (wr.heap.size,1)=some (.int .i64 y.seq):=e1;clear hlv tY e0 e1;by_cases hc:y.client=x.client
    ·have hc':(y.client == x.client)=true:=by simp[hc]
     have HC:=ae hc;clear hc;by_cases hs:y.seq=x.seq
     ·have hs':(y.seq == x.seq)=true:=by simp[hs]
      have pD:=ae (Iu.out (by rw[yy.out];simp[HC.out,hs]))
      clear hs;by_cases hcm2:k<r.aU
      ·have Nz:(k:Int)<(r.aU:Int):=by omega
       have HV:Hid (r.asked own x=(r,[r.dm own k])):=ae (by rw[lY.out,if_pos pD.out.1,pD.out.2,if_pos hcm2])
       go_wp2_with fail;refine (yz.out _ k re hlt).mono ?_
       rintro e Y ⟨rfl,bt⟩;unfold bL;clear LY qL n0 n1 n6;go_wp2_with fail;go_ret;rw[HV.out];have hbw:=(bz.trans (re.mono bz.size)).trans (bt.mono (bP bz.size re.size));refine dJ.msgs HR.out (hbw.alloc hbw.size _) (a_.one (g:=Y.heap.size) _ (.slice none 0 0) (.slice none 0 0) (hnw _ _) hbw.size (bE _ _ _ _) (bE _ _ _ _))
      ·have Nz:¬ (k:Int)<(r.aU:Int):=by omega
       have HV:Hid (r.asked own x=(r,[])):=ae (by rw[lY.out,if_pos pD.out.1,pD.out.2,if_neg hcm2])
       go_wp2_with fail;go_ret;rw[HV.out];exact dJ.still HR.out (bz.trans (re.mono bz.size))
     ·have hs':(y.seq == x.seq)=false:=by simp[hs]
      have vM:Hid ((r.log.take (k+1)).any (iD x)=false):=ae (by rw[HQ.out,sd.out,yy.out];simp[hs])
      generalize (r.log.take k).any (la x)=gg at *;by_cases hgt:x.seq<y.seq
      ·have HG:Hid ((r.log.take (k+1)).any (la x)=true):=ae (by rw[HL.out,yk.out];simp[HC.out,hgt])
       cases gg
       all_goals (
        go_wp2_with fail;go_roundw
        case rel=>exact⟨k+1,by omega,by go_num,by rw[HG.out],vM.out,re⟩
        case measure=>simp[intOf];omega)
      ·have HG:Hid ((r.log.take (k+1)).any (la x)=gg):=ae (by rw[HL.out,yk.out];simp[hgt])
       cases gg
       all_goals (
        go_wp2_with fail;go_roundw
        case rel=>exact⟨k+1,by omega,by go_num,by rw[HG.out],vM.out,re⟩
        case measure=>simp[intOf];omega)
    ·have hc':(y.client == x.client)=false:=by simp[hc]
     have vM:Hid ((r.log.take (k+1)).any (iD x)=false):=ae (by rw[HQ.out,sd.out,yy.out];simp[hc])
     generalize (r.log.take k).any (la x)=gg at *;have HG:Hid ((r.log.take (k+1)).any (la x)=gg):=ae (by rw[HL.out,yk.out];simp[hc])
     cases gg
     all_goals (
      go_wp2_with fail;go_roundw
      case rel=>exact⟨k+1,by omega,by go_num,by rw[HG.out],vM.out,re⟩
      case measure=>simp[intOf];omega)
   ·obtain rfl:k=r.log.length:=by omega
    have eU:Hid (r.log.any (iD x)=false):=ae (by have:=sd.out;rw[je] at this;exact this)
    have HL2:Hid ((r.log.take r.log.length).any (la x)=r.log.any (la x)):=ae (by rw[je])
    generalize (r.log.take r.log.length).any (la x)=gg at *;by_cases mi:24<=r.log.length
    ·have MU:(24:Int)<=(r.log.length:Int):=by omega
     have HV:Hid (r.asked own x=(r,[])):=ae (by rw[lY.out,eU.out,if_neg (by simp),if_pos (.inl mi)])
     cases gg
     all_goals (
      go_wp2_with fail;go_ret;rw[HV.out];exact dJ.still HR.out (bz.trans (hb.mono bz.size)))
    ·have MU:¬ (24:Int)<=(r.log.length:Int):=by omega
     cases gg with
     | true =>
      have HV:Hid (r.asked own x=(r,[])):=ae (by rw[lY.out,eU.out,if_neg (by simp),if_pos (.inr HL2.out.symm)])
      go_wp2_with fail;go_ret;rw[HV.out];exact dJ.still HR.out (bz.trans (hb.mono bz.size))
     | false =>
      have HV:Hid (r.asked own x=r.put own x):=ae (by rw[lY.out,eU.out,if_neg (by simp),if_neg (fun e=>e.elim mi (fun e=>by rw[<- HL2.out] at e;cases e))])
      go_wp2_with fail;refine (ye.out _ hb (by omega)).mono ?_
      rintro e W hq;have HW:=ae hq;obtain⟨v,bN,bD,rfl,q1,q2,q3⟩:=hq;obtain⟨a9,c9,dz⟩:=q2.shape;subst dz;clear q1 q2 q3;go_wp2_with fail;go_ret;rw[HV.out];exact HW.out
structure pH (r:aR)(own:Int):Prop where
 ml:r.af.length<=5
 nd:r.af.Nodup
 pos:∀ x∈r.af,0<=x
 Fz:r.log.length<=24
 cm:r.aU<=r.log.length
 cl:∀ y∈r.log,0<=y.client/\y.client<=1000
 ep:0<=r.ah/\r.ah<=100000
theorem Sf (hy:0<=y):(y=(dY l x).getD (-1))↔dY l x=some y:=by
 cases e:dY l x with
 | none =>
  show y = -1↔_;constructor
  ·intro h;omega
  ·intro h;cases h
 | some a =>
  show y=a↔_;rw[Option.some.injEq];exact eq_comm
theorem Rj (hy:0<=y):(y=(bS l x).getD (-1))↔bS l x=some y:=by
 cases e:bS l x with
 | none =>
  show y = -1↔_;constructor
  ·intro h;omega
  ·intro h;cases h
 | some a =>
  show y=a↔_;rw[Option.some.injEq];exact eq_comm
theorem Rk (hp:∀ x∈l,0<=x):(bS l x).getD (-1)<0↔bS l x=none:=by
 cases e:bS l x with
 | none=>simp
 | some a =>
  have:=hp a (by unfold bS at e;exact dU e)
  simp;omega
theorem S4 (b:Nat)(r:aR)(vm vl:Value)(own:Int)(m:aK)(a1:Option Addr)(d1:Nat)(a2:Option Addr)(d2:Nat)(w:World)(h:RR w b r vm vl)(hf:pH r own)(bR:bw w (.slice a2 m.log.length d2) m.log)(hk:m.kind=1\/m.kind=2\/m.kind=3)(hone:m.kind=1\/m.kind=2->m.log.length=1)(E9:0<=m.src)(hps:0<=m.pos)(hcl:∀ y∈m.log,0<=y.client/\y.client<=1000) :
  Calls prog 172 #[b,.int .i64 own,.agg #[m.kind,m.src,m.dst,m.ah,m.ak,m.aO,m.pos,m.value,.slice a1 m.af.length d1,.slice a2 m.log.length d2]] w fun e w'=>dJ w b vm vl e w' (r.take own m):=by
 obtain⟨B,hB,bz,bf⟩:=dk w m (.slice a1 m.af.length d1) (.slice a2 m.log.length d2);have da:=h.below bz;have HR:=ae h;obtain⟨al,cl,hvl⟩:=aM h.hl;subst hvl;obtain⟨am,cm,dG⟩:=aM h.hm;subst dG;have k0:=au bf 0;have k1:=au bf 1;have k3:=au bf 3;have k6:=au bf 6;have k9:=au bf 9;have b1:=au da.blk 1;have b4:=au da.blk 4;have b6:=au da.blk 6;have f6:=aW da.blk 6;have HS:Hid (∀ q,Calls prog 175 #[b,.int .i64 own] (B.drewN q) fun e w'=>e=.returned (.tuple #[.int .i64 (ed r.af own),.bool (r.live own)])/\∃ q,w'=B.drewN q):=ae fun q=>by
  have:=sV b r _ _ own (B.drewN q) (da.below (aV (ax _ _) q)).ka hf.ml;rw[xg hf.nd] at this;refine this.mono ?_
  rintro e w' ⟨h1,q2,rfl⟩;exact⟨h1,_,fi _ _ _⟩
 have jh:Hid (∀ q,Calls prog 209 #[b,.int .i64 own,.int .i64 (-1)] (B.drewN q) fun e w'=>e=.returned (.int .i64 ((dY r.af own).getD (-1)))/\∃ q,w'=B.drewN q):=ae fun q=>by
  have:=rP b r _ _ own (-1) (B.drewN q) (da.below (aV (ax _ _) q)).ka hf.ml (.inl rfl);rw[AX hf.nd] at this;refine this.mono ?_
  rintro e w' ⟨h1,q2,rfl⟩;exact⟨h1,_,fi _ _ _⟩
 have eU:Hid (own∈r.af->∀ q,Calls prog 209 #[b,.int .i64 own,.int .i64 1] (B.drewN q) fun e w'=>e=.returned (.int .i64 ((bS r.af own).getD (-1)))/\∃ q,w'=B.drewN q):=ae fun hm q=>by
  have:=rP b r _ _ own 1 (B.drewN q) (da.below (aV (ax _ _) q)).ka hf.ml (.inr rfl);rw[xt hf.nd hm] at this;refine this.mono ?_
  rintro e w' ⟨h1,q2,rfl⟩;exact⟨h1,_,fi _ _ _⟩
 have oN:Hid (∀ q,Calls prog 206 #[b,.int .i64 own] (B.drewN q) fun e w'=>dJ w b (.slice am r.af.length cm) (.slice al r.log.length cl) e w' (r,r.c_ own)):=ae fun q=>(xF b r _ _ own (B.drewN q) (da.below (aV (ax _ _) q)).ka hf.ml hf.nd hf.pos).mono (by
  rintro e w' ⟨v,rfl,hm,hb⟩;have hbq:=aV bz q;exact dJ.msgs HR.out (hbq.trans (hb.mono hbq.size)) (hm.base hbq.size))
 have If:Hid (∀ q k,Calls prog 206 #[b,.int .i64 own] ((B.drewN q).setCell ⟨b,6,none⟩ (.int .i64 ((k:Nat):Int))) fun e w'=>dJ w b (.slice am r.af.length cm) (.slice al r.log.length cl) e w' ({ r with aU:=k }, { r with aU:=k }.c_ own)):=ae fun q k=>by
  have hR2:=(da.below (aV (ax _ _) q)).aU k;refine (xF b { r with aU:=k } _ _ own _ hR2.ka hf.ml hf.nd hf.pos).mono ?_
  rintro e w' ⟨v,rfl,hm,hb⟩;have hbq:=aV bz q;have hM:=((Moved.refl w (fun z=>z=b)).below hbq).setCell ⟨b,6,none⟩ rfl (.int .i64 ((k:Nat):Int));exact⟨v,_,_,rfl,hR2.below hb,hm.base hM.size,hM.mX (hb.mono hM.size) hb.size,bO.refl _ _,bO.refl _ _⟩
 have hlB:eM B (.slice a2 m.log.length d2) m.log:=eM.cM (aS bR fun z _ hz=>bz.block z hz);have jN:Hid (∀ q y,m.log=[y]->own∈r.af->Calls prog 210 #[b,.int .i64 own,.int .i64 (ed r.af own),.agg #[y.client,y.seq,y.kind,y.key,y.value]] (B.drewN q) fun e w'=>dJ w b (.slice am r.af.length cm) (.slice al r.log.length cl) e w' (r.asked own y)):=ae fun q y hy hm=>(Sv b r _ _ own y (B.drewN q) (da.below (aV (ax _ _) q)) hf.ml hf.nd hf.pos hm hf.Fz hf.cm (fun z hz=>by
  rcases fE.1 hz with e|e
  ·exact hf.cl z e
  ·exact hcl z (by rw[hy];exact e))).mono fun e w' hq=>dJ.before (aV bz q) hq
 have ye:Hid (∀ q y,m.log=[y]->own∈r.af->r.log.length<24->Calls prog 211 #[b,.int .i64 own,.agg #[y.client,y.seq,y.kind,y.key,y.value]] (B.drewN q) fun e w'=>dJ w b (.slice am r.af.length cm) (.slice al r.log.length cl) e w' (r.put own y)):=ae fun q y hy hm mi=>(GC b r _ _ own y (B.drewN q) (da.below (aV (ax _ _) q)) hf.ml hf.nd hf.pos hm mi hf.cm (fun z hz=>by
  rcases fE.1 hz with e|e
  ·exact hf.cl z e
  ·exact hcl z (by rw[hy];exact e))).mono fun e w' hq=>dJ.before (aV bz q) hq
 have hend:∀ q,dJ w b (.slice am r.af.length cm) (.slice al r.log.length cl) (.returned true) (B.drewN q) (r,[]):=fun q=>dJ.still HR.out (aV bz q);have kK:=ae hend;have ur:(m.kind == 7)=false:=by rcases hk with e|e|e<;>(rw[e];rfl)
 have EO:(m.kind == 13)=false:=by rcases hk with e|e|e<;>(rw[e];rfl)
 have mE:Hid (r.take own m=if m.kind=1 then (if m.log.length=1/\r.live own then r.asked own (m.log.headD aH.zero) else (r,[])) else if m.kind=2 then r.gL own m else r.jf own m):=ae (by
  unfold aR.take;rcases hk with e|e|e<;>simp[e])
 have hn:r.af.length<=5:=hf.ml;cases hlv:r.live own with
 | false =>
  have HV:Hid (r.take own m=(r,[])):=ae (by
   rw[mE.out];split
   ·rw[if_neg (by rw[hlv];simp)]
   ·split
    ·unfold aR.gL
     rw[if_neg (by rw[hlv];simp)]
    ·unfold aR.jf
     rw[if_neg (by rw[hlv];simp)])
  rw[hlv] at HS;clear h da bf hlB bR hlv hend;go_enter func172,ntmps172;go_wp2_with fail;go_quiet (fail);go_wp2_with fail;refine (HS.out _).mono ?_
  rintro e W ⟨rfl,q,rfl⟩;go_wp2_with fail;go_ret;rw[HV.out];exact kK.out q
 | true =>
  have hmem:own∈r.af:=by
   unfold aR.live at hlv;rw[Bool.and_eq_true,jt] at hlv;exact hlv.1
  replace eU:=ae (eU.out hmem)
  have Cz:Hid ((m.src=(dY r.af own).getD (-1))↔dY r.af own=some m.src):=ae (Sf E9);have Cy:Hid ((m.src=(bS r.af own).getD (-1))↔bS r.af own=some m.src):=ae (Rj E9);have Cx:Hid ((bS r.af own).getD (-1)<0↔bS r.af own=none):=ae (Rk hf.pos);have yq:=ae hlv;rw[hlv] at HS;have pD:Hid (r.gL own m=if r.live own/\dY r.af own=some m.src/\m.log.length=1/\m.ah=r.ah then
   (if m.pos=r.log.length/\r.log.length<24 then r.put own (m.log.headD aH.zero)
   else if m.pos<r.log.length/\(bS r.af own=none\/m.pos<r.aU) then (r,r.c_ own)
   else (r,[])) else (r,[])):=ae rfl
  have yd:Hid (r.jf own m=if r.live own/\bS r.af own=some m.src/\m.ah=r.ah/\(r.aU:Int)<m.pos/\m.pos<=r.log.length then
   ({ r with aU:=m.pos.toNat }, { r with aU:=m.pos.toNat }.c_ own) else (r,[])):=ae rfl
  have se:=ae hone;generalize (dY r.af own).getD (-1)=P at *;generalize (bS r.af own).getD (-1)=N at *;generalize ed r.af own=R at *;clear h da bf bR hlv hend hone;rcases hk with hk|hk|hk
  ·obtain⟨y,hy⟩:∃ y,m.log=[y]:=List.length_eq_one_iff.1 (se.out (.inl hk))
   have hml:m.log.length=1:=by rw[hy];rfl
   obtain⟨a9,c9,dz,pg⟩:=hlB;cases dz;obtain⟨b9,o9,rfl,l0,l1,l2,l3,l4⟩:=pg 0 (by omega)
   rw[show m.log.getD 0 aH.zero=y by rw[hy];rfl,Nat.zero_mul,Nat.add_zero] at l0 l1 l2 l3 l4
   have HV:Hid (r.take own m=r.asked own y):=ae (by rw[mE.out,if_pos hk,if_pos ⟨hml,yq.out⟩,hy];rfl)
   have hk1:(m.kind == 1)=true:=by simp[hk]
   have Ii:=ae (fun q=>jN.out q y hy hmem);have Cu:=ae hml;rw[hml] at k9 hB;rw[hml];clear hk pg hy hml;go_enter func172,ntmps172;go_wp2_with fail;go_quiet (fail);go_wp2_with fail;refine (HS.out _).mono ?_
   rintro e W ⟨rfl,q,rfl⟩;go_wp2_with fail;refine (jh.out _).mono ?_
   rintro e W ⟨rfl,q2,rfl⟩;go_wp2_with fail;refine (eU.out _).mono ?_
   rintro e W ⟨rfl,q3,rfl⟩;go_wp2_with fail;refine (Ii.out _).mono ?_
   rintro e W hq;have HW:=ae hq;obtain⟨v,bN,bD,rfl,z1,z2,z3⟩:=hq;obtain⟨a9,c9,dz⟩:=z2.shape;subst dz;clear z1 z2 z3;go_wp2_with fail;go_ret;rw[HV.out];exact HW.out
  ·obtain⟨y,hy⟩:∃ y,m.log=[y]:=List.length_eq_one_iff.1 (se.out (.inr hk))
   have hml:m.log.length=1:=by rw[hy];rfl
   obtain⟨a9,c9,dz,pg⟩:=hlB;cases dz;obtain⟨b9,o9,rfl,l0,l1,l2,l3,l4⟩:=pg 0 (by omega)
   rw[show m.log.getD 0 aH.zero=y by rw[hy];rfl,Nat.zero_mul,Nat.add_zero] at l0 l1 l2 l3 l4
   have lY:Hid (r.take own m=r.gL own m):=ae (by rw[mE.out,if_neg (by omega),if_pos hk])
   have hk1:(m.kind == 1)=false:=by simp[hk]
   have hk2:(m.kind == 2)=true:=by simp[hk]
   have hk3:(m.kind == 3)=false:=by simp[hk]
   have Ic:=ae (fun q=>ye.out q y hy hmem);have HY:Hid (m.log.headD aH.zero=y):=ae (by rw[hy];rfl)
   have Cu:=ae hml;rw[hml] at k9 hB;rw[hml];clear hk pg hy hml;by_cases hs:m.src=P
   ·have hs':(m.src == P)=true:=by simp[hs]
    have yA:=ae hs;clear hs;by_cases he:m.ah=r.ah
    ·have he':(m.ah == r.ah)=true:=by simp[he]
     have oq:Hid (r.take own m=if m.pos=r.log.length/\r.log.length<24 then r.put own y else if m.pos<r.log.length/\(bS r.af own=none\/m.pos<r.aU) then (r,r.c_ own) else (r,[])):=ae (by rw[lY.out,pD.out,if_pos ⟨yq.out,Cz.out.1 yA.out,Cu.out,he⟩,HY.out])
     clear he;by_cases hp1:m.pos=(r.log.length:Int)
     ·have hp1':(m.pos == (r.log.length:Int))=true:=by simp[hp1]
      by_cases mi:m.pos<24
      ·have HV:Hid (r.take own m=r.put own y):=ae (by rw[oq.out,if_pos ⟨hp1,by omega⟩])
       have Ie:=ae (fun q=>Ic.out q (by omega))
       clear hp1;go_enter func172,ntmps172;go_wp2_with fail;go_quiet (fail);go_wp2_with fail;refine (HS.out _).mono ?_
       rintro e W ⟨rfl,q,rfl⟩;go_wp2_with fail;refine (jh.out _).mono ?_
       rintro e W ⟨rfl,q2,rfl⟩;go_wp2_with fail;refine (eU.out _).mono ?_
       rintro e W ⟨rfl,q3,rfl⟩;go_wp2_with fail;go_quiet (fail);go_wp2_with fail;go_quiet (fail);go_wp2_with fail;refine (Ie.out _).mono ?_
       rintro e W hq;have HW:=ae hq;obtain⟨v,bN,bD,rfl,z1,z2,z3⟩:=hq;obtain⟨a9,c9,dz⟩:=z2.shape;subst dz;clear z1 z2 z3;go_wp2_with fail;go_ret;rw[HV.out];exact HW.out
      ·have HV:Hid (r.take own m=(r,[])):=ae (by rw[oq.out,if_neg (by omega),if_neg (by omega)])
       have hp2:¬ m.pos<(r.log.length:Int):=by omega
       have hp3:decide (m.pos<(r.log.length:Int))=false:=ee hp2;have VE:decide (m.pos<24)=false:=ee mi;clear hp1;go_enter func172,ntmps172;go_wp2_with fail;go_quiet (fail);go_wp2_with fail;refine (HS.out _).mono ?_
       rintro e W ⟨rfl,q,rfl⟩;go_wp2_with fail;refine (jh.out _).mono ?_
       rintro e W ⟨rfl,q2,rfl⟩;go_wp2_with fail;refine (eU.out _).mono ?_
       rintro e W ⟨rfl,q3,rfl⟩;go_wp2_with fail;go_quiet (fail);go_wp2_with fail;go_quiet (fail);go_wp2_with fail;go_quiet (fail);go_wp2_with fail;go_ret;rw[HV.out];(try simp only [fi])
       exact kK.out _
     ·have hp1':(m.pos == (r.log.length:Int))=false:=by simp[hp1]
      by_cases hp2:m.pos<(r.log.length:Int)
      ·by_cases hN:N<0
       ·have HV:Hid (r.take own m=(r,r.c_ own)):=ae (by rw[oq.out,if_neg (fun e=>hp1 e.1),if_pos ⟨hp2,.inl (Cx.out.1 hN)⟩])
        clear hp1;go_enter func172,ntmps172;go_wp2_with fail;go_quiet (fail);go_wp2_with fail;refine (HS.out _).mono ?_
        rintro e W ⟨rfl,q,rfl⟩;go_wp2_with fail;refine (jh.out _).mono ?_
        rintro e W ⟨rfl,q2,rfl⟩;go_wp2_with fail;refine (eU.out _).mono ?_
        rintro e W ⟨rfl,q3,rfl⟩;go_wp2_with fail;go_quiet (fail);go_wp2_with fail;go_quiet (fail);go_wp2_with fail;go_quiet (fail);go_wp2_with fail;refine (oN.out _).mono ?_
        rintro e W hq;have HW:=ae hq;obtain⟨v,bN,bD,rfl,z1,z2,z3⟩:=hq;obtain⟨a9,c9,dz⟩:=z2.shape;subst dz;clear z1 z2 z3;go_wp2_with fail;go_ret;rw[HV.out];exact HW.out
       ·by_cases hc:m.pos<(r.aU:Int)
        ·have HV:Hid (r.take own m=(r,r.c_ own)):=ae (by rw[oq.out,if_neg (fun e=>hp1 e.1),if_pos ⟨hp2,.inr hc⟩])
         clear hp1;go_enter func172,ntmps172;go_wp2_with fail;go_quiet (fail);go_wp2_with fail;refine (HS.out _).mono ?_
         rintro e W ⟨rfl,q,rfl⟩;go_wp2_with fail;refine (jh.out _).mono ?_
         rintro e W ⟨rfl,q2,rfl⟩;go_wp2_with fail;refine (eU.out _).mono ?_
         rintro e W ⟨rfl,q3,rfl⟩;go_wp2_with fail;go_quiet (fail);go_wp2_with fail;go_quiet (fail);go_wp2_with fail;go_quiet (fail);go_wp2_with fail;refine (oN.out _).mono ?_
         rintro e W hq;have HW:=ae hq;obtain⟨v,bN,bD,rfl,z1,z2,z3⟩:=hq;obtain⟨a9,c9,dz⟩:=z2.shape;subst dz;clear z1 z2 z3;go_wp2_with fail;go_ret;rw[HV.out];exact HW.out
        ·have HV:Hid (r.take own m=(r,[])):=ae (by rw[oq.out,if_neg (fun e=>hp1 e.1),if_neg (fun e=>e.2.elim (fun z=>hN (Cx.out.2 z)) hc)])
         clear hp1;go_enter func172,ntmps172;go_wp2_with fail;go_quiet (fail);go_wp2_with fail;refine (HS.out _).mono ?_
         rintro e W ⟨rfl,q,rfl⟩;go_wp2_with fail;refine (jh.out _).mono ?_
         rintro e W ⟨rfl,q2,rfl⟩;go_wp2_with fail;refine (eU.out _).mono ?_
         rintro e W ⟨rfl,q3,rfl⟩;go_wp2_with fail;go_quiet (fail);go_wp2_with fail;go_quiet (fail);go_wp2_with fail;go_quiet (fail);go_wp2_with fail;go_ret;rw[HV.out];(try simp only [fi])
         exact kK.out _
      ·have HV:Hid (r.take own m=(r,[])):=ae (by rw[oq.out,if_neg (fun e=>hp1 e.1),if_neg (fun e=>hp2 e.1)])
       have hp3:decide (m.pos<(r.log.length:Int))=false:=ee hp2;clear hp1;go_enter func172,ntmps172;go_wp2_with fail;go_quiet (fail);go_wp2_with fail;refine (HS.out _).mono ?_
       rintro e W ⟨rfl,q,rfl⟩;go_wp2_with fail;refine (jh.out _).mono ?_
       rintro e W ⟨rfl,q2,rfl⟩;go_wp2_with fail;refine (eU.out _).mono ?_
       rintro e W ⟨rfl,q3,rfl⟩;go_wp2_with fail;go_quiet (fail);go_wp2_with fail;go_quiet (fail);go_wp2_with fail;go_quiet (fail);go_wp2_with fail;go_ret;rw[HV.out];(try simp only [fi])
       exact kK.out _
    ·have he':(m.ah == r.ah)=false:=by simp[he]
     have HV:Hid (r.take own m=(r,[])):=ae (by rw[lY.out,pD.out,if_neg (fun e=>he e.2.2.2)])
     clear he;go_enter func172,ntmps172;go_wp2_with fail;go_quiet (fail);go_wp2_with fail;refine (HS.out _).mono ?_
     rintro e W ⟨rfl,q,rfl⟩;go_wp2_with fail;refine (jh.out _).mono ?_
     rintro e W ⟨rfl,q2,rfl⟩;go_wp2_with fail;refine (eU.out _).mono ?_
     rintro e W ⟨rfl,q3,rfl⟩;go_wp2_with fail;go_quiet (fail);go_wp2_with fail;go_quiet (fail);go_wp2_with fail;go_ret;rw[HV.out];(try simp only [fi])
     exact kK.out _
   ·have hs':(m.src == P)=false:=by simp[hs]
    have HV:Hid (r.take own m=(r,[])):=ae (by rw[lY.out,pD.out,if_neg (fun e=>hs (Cz.out.2 e.2.1))])
    clear hs;go_enter func172,ntmps172;go_wp2_with fail;go_quiet (fail);go_wp2_with fail;refine (HS.out _).mono ?_
    rintro e W ⟨rfl,q,rfl⟩;go_wp2_with fail;refine (jh.out _).mono ?_
    rintro e W ⟨rfl,q2,rfl⟩;go_wp2_with fail;refine (eU.out _).mono ?_
    rintro e W ⟨rfl,q3,rfl⟩;go_wp2_with fail;go_quiet (fail);go_wp2_with fail;go_quiet (fail);go_wp2_with fail;go_ret;rw[HV.out];(try simp only [fi])
    exact kK.out _
  ·have lY:Hid (r.take own m=r.jf own m):=ae (by rw[mE.out,if_neg (by omega),if_neg (by omega)])
   have hk1:(m.kind == 1)=false:=by simp[hk]
   have hk2:(m.kind == 2)=false:=by simp[hk]
   have hk3:(m.kind == 3)=true:=by simp[hk]
   clear hk hlB;by_cases hs:m.src=N
   ·have hs':(m.src == N)=true:=by simp[hs]
    have yA:=ae hs;clear hs;by_cases he:m.ah=r.ah
    ·have he':(m.ah == r.ah)=true:=by simp[he]
     have oq:Hid (r.take own m=if (r.aU:Int)<m.pos/\m.pos<=r.log.length then ({ r with aU:=m.pos.toNat }, { r with aU:=m.pos.toNat }.c_ own) else (r,[])):=ae (by
      rw[lY.out,yd.out];by_cases hz:(r.aU:Int)<m.pos/\m.pos<=r.log.length
      ·rw[if_pos hz,if_pos ⟨yq.out,Cy.out.1 yA.out,he,hz⟩]
      ·rw[if_neg hz,if_neg (fun e=>hz e.2.2.2)])
     clear he;by_cases hc:(r.aU:Int)<m.pos
     ·by_cases hp2:m.pos<=(r.log.length:Int)
      ·have HV:Hid (r.take own m=({ r with aU:=m.pos.toNat }, { r with aU:=m.pos.toNat }.c_ own)):=ae (by rw[oq.out,if_pos ⟨hc,hp2⟩])
       have Ig:Hid (∀ q,Calls prog 206 #[b,.int .i64 own] ((B.drewN q).setCell ⟨b,6,none⟩ (.int .i64 m.pos)) fun e w'=>dJ w b (.slice am r.af.length cm) (.slice al r.log.length cl) e w' ({ r with aU:=m.pos.toNat }, { r with aU:=m.pos.toNat }.c_ own)):=ae fun q=>by
        have:=If.out q m.pos.toNat;rw[show ((m.pos.toNat:Nat):Int)=m.pos by omega] at this
        exact this
       go_enter func172,ntmps172;go_wp2_with fail;go_quiet (fail);go_wp2_with fail;refine (HS.out _).mono ?_
       rintro e W ⟨rfl,q,rfl⟩;go_wp2_with fail;refine (jh.out _).mono ?_
       rintro e W ⟨rfl,q2,rfl⟩;go_wp2_with fail;refine (eU.out _).mono ?_
       rintro e W ⟨rfl,q3,rfl⟩;go_wp2_with fail;go_quiet (fail);go_wp2_with fail;go_quiet (fail);go_wp2_with fail;refine (Ig.out _).mono ?_
       rintro e W hq;have HW:=ae hq;obtain⟨v,bN,bD,rfl,z1,z2,z3⟩:=hq;obtain⟨a9,c9,dz⟩:=z2.shape;subst dz;clear z1 z2 z3;go_wp2_with fail;go_ret;rw[HV.out];exact HW.out
      ·have HV:Hid (r.take own m=(r,[])):=ae (by rw[oq.out,if_neg (fun e=>hp2 e.2)])
       go_enter func172,ntmps172;go_wp2_with fail;go_quiet (fail);go_wp2_with fail;refine (HS.out _).mono ?_
       rintro e W ⟨rfl,q,rfl⟩;go_wp2_with fail;refine (jh.out _).mono ?_
       rintro e W ⟨rfl,q2,rfl⟩;go_wp2_with fail;refine (eU.out _).mono ?_
       rintro e W ⟨rfl,q3,rfl⟩;go_wp2_with fail;go_quiet (fail);go_wp2_with fail;go_quiet (fail);go_wp2_with fail;go_ret;rw[HV.out];(try simp only [fi])
       exact kK.out _
     ·have HV:Hid (r.take own m=(r,[])):=ae (by rw[oq.out,if_neg (fun e=>hc e.1)])
      have hc3:decide ((r.aU:Int)<m.pos)=false:=ee hc;go_enter func172,ntmps172;go_wp2_with fail;go_quiet (fail);go_wp2_with fail;refine (HS.out _).mono ?_
      rintro e W ⟨rfl,q,rfl⟩;go_wp2_with fail;refine (jh.out _).mono ?_
      rintro e W ⟨rfl,q2,rfl⟩;go_wp2_with fail;refine (eU.out _).mono ?_
      rintro e W ⟨rfl,q3,rfl⟩;go_wp2_with fail;go_quiet (fail);go_wp2_with fail;go_quiet (fail);go_wp2_with fail;go_ret;rw[HV.out];(try simp only [fi])
      exact kK.out _
    ·have he':(m.ah == r.ah)=false:=by simp[he]
     have HV:Hid (r.take own m=(r,[])):=ae (by rw[lY.out,yd.out,if_neg (fun e=>he e.2.2.1)])
     clear he;go_enter func172,ntmps172;go_wp2_with fail;go_quiet (fail);go_wp2_with fail;refine (HS.out _).mono ?_
     rintro e W ⟨rfl,q,rfl⟩;go_wp2_with fail;refine (jh.out _).mono ?_
     rintro e W ⟨rfl,q2,rfl⟩;go_wp2_with fail;refine (eU.out _).mono ?_
     rintro e W ⟨rfl,q3,rfl⟩;go_wp2_with fail;go_quiet (fail);go_wp2_with fail;go_quiet (fail);go_wp2_with fail;go_ret;rw[HV.out];(try simp only [fi])
     exact kK.out _
   ·have hs':(m.src == N)=false:=by simp[hs]
    have HV:Hid (r.take own m=(r,[])):=ae (by rw[lY.out,yd.out,if_neg (fun e=>hs (Cy.out.2 e.2.1))])
    clear hs;go_enter func172,ntmps172;go_wp2_with fail;go_quiet (fail);go_wp2_with fail;refine (HS.out _).mono ?_
    rintro e W ⟨rfl,q,rfl⟩;go_wp2_with fail;refine (jh.out _).mono ?_
    rintro e W ⟨rfl,q2,rfl⟩;go_wp2_with fail;refine (eU.out _).mono ?_
    rintro e W ⟨rfl,q3,rfl⟩;go_wp2_with fail;go_quiet (fail);go_wp2_with fail;go_quiet (fail);go_wp2_with fail;go_ret;rw[HV.out];(try simp only [fi])
    exact kK.out _
def nr (w:World)(F:Nat->Prop)(b:Nat)(vv:Value)(e:Ending)(w':World)(p:Acc × List aK):Prop :=
 ∃ v v',e=.returned v/\jy w' (Gr F w w') b v' p.1/\a_ w' w.heap.size v p.2/\Moved w w' (fun k=>k=b\/vv.ownBlock=some k)/\∀ k,v'.ownBlock=some k->vv.ownBlock=some k\/w.heap.size<=k
theorem nr.msgs (h:jy w F b vv a)(hb:ai w w')(hm:a_ w' w.heap.size v ms):nr w F b vv (.returned v) w' (a,ms):=by
 refine⟨v,vv,rfl, ?_,hm,(Moved.refl w _).below hb,fun k e=>.inl e⟩
 have hbl:b<w.heap.size:=(aQ h.choose_spec.1);exact h.keep (fun k e=>Gr.old e) (hb.block _ hbl) (fun ho _ _=>aS ho fun k _ hk=>hb.block k hk)
theorem nr.still (h:jy w F b vv a)(hb:ai w w'):nr w F b vv (.returned true) w' (a,[]) :=
 nr.msgs h hb (a_.nil _ _)
theorem UQ : ∀ (vs:List iG) (k:Nat) (u:iG),vs[k]?=some u->∀ t,t<5->(vs.flatMap kh)[k*5+t]?=(kh u)[t]?:=by
 intro vs;induction vs with
 | nil=>intro k u hu;simp at hu
 | cons a r ih =>
  intro k u hu t ht;have hl:(kh a).length=5:=rfl;rw[List.flatMap_cons];cases k with
  | zero =>
   simp at hu;subst hu;rw[Nat.zero_mul,fh,List.getElem?_append_left (by omega)]
  | succ k =>
   rw[kH (by omega),hl,show (k+1)*5+t-5=k*5+t by omega]
   exact ih k u (by simpa using hu) t ht
theorem xV {vs:List iG}{k:Nat}{u:iG}(h:w.ownsRow base 284 5 vv vs.length (vs.flatMap kh))(hk:vs[k]?=some u) :
  ∃ g cap,vv=.slice (some ⟨g,0,none⟩) vs.length cap/\∀ t,t<5->w.cell? ⟨g,k*5+t,none⟩=(kh u)[t]?:=by
 have hkl:k<vs.length:=(dI.1 hk).1;obtain⟨g,cap,hv, -, -⟩:=h.form (by omega)
 subst hv;refine⟨g,cap,rfl,fun t ht => ?_⟩
 rw[ev h (k*5+t) (by omega)]
 exact UQ vs k u hk t ht
theorem UP (h:l.Nodup)(hb:∀ x∈l, -1<=x/\x<=65534):l.length<=65536:=by
 have hsub:l ⊆ (List.range 65536).map (fun i:Nat=>(i:Int)-1):=by
  intro x hx;obtain⟨a,b⟩:=hb x hx;rw[List.mem_map];exact⟨(x+1).toNat,List.mem_range.2 (by omega),by omega⟩
 have:=h.length_le_of_subset hsub
 rwa [fF,List.length_range] at this
theorem jy.below (h:jy w F b vv a)(hb:ai w W):jy W F b vv a :=
 h.keep (fun _ e=>e) (hb.block _ (aQ h.choose_spec.1)) (fun ho _ _=>aS ho fun k _ hk=>hb.block k hk)
theorem Gr.before (hs:w.heap.size<=W.heap.size):∀ k,Gr F W w' k->Gr F w w' k:=fun _ e=>e.imp id (fun q=>⟨bP hs q.1,q.2⟩)
theorem nr.before (h:nr W F b vv e w' p)(hb:ai w W):nr w F b vv e w' p:=by
 obtain⟨v,v',rfl,h1,h2,h3,h4⟩:=h;exact⟨v,v',rfl,h1.keep (Gr.before hb.size) rfl (fun ho _ _=>ho),h2.base hb.size,((Moved.refl w _).below hb).trans h3 (fun _ _ e=>e),fun k e=>(h4 k e).imp id (fun q=>bP hb.size q)⟩
theorem dW.RH {y:Nat}{c:aq}{br ba bm:Nat->Nat}{vr va vb vt:Value}{vv vc:Nat->Value}{i:Nat}(h:dW w F y c br ba bm vr va vm vb vt vv vc)(hi:i<3)(hA:nr w F (ba i) (vv i) e w' p) :
  ∃ v,e=.returned v/\a_ w' w.heap.size v p.2/\bH w F y (c.iu (100+(i:Int)) p.1) w':=by
 obtain⟨v,v',rfl,h1,h2,h3,h4⟩:=hA;obtain⟨_,_,_,q1,_,_,_,q2,_⟩:=h.di i hi;exact⟨v,rfl,h2,⟨br,ba,bm,vr,va,vm,vb,vt,_,vc,h.CQ i hi p.1 v' h3 (fun k e=>.inl e) (Gr.lt h.lt h3.size) h1 h4⟩,h3.wider (fun k e=>by
  rcases e with e|e
  ·rw[e];exact q1
  ·exact q2 k e)⟩
def Fi (F:Nat->Prop)(w:World)(k:Nat):Prop:=F k\/w.heap.size<=k
theorem bA.fit {size n:Nat}{e:TypeId}{xs:List Value}(h:bA (Fi F w) v)(ho:W.ownsRow base e size v n xs):bA (Gr F w W) v:=fun k hk=>(h k hk).imp id fun q=>⟨q,(dL.1 (bK ho hk).choose_spec.1).1⟩
theorem SQ (n:Int)(w:World)(hn:¬ (1<=n/\n<=5)):Calls prog 81 #[.agg #[.int .i64 n]] w fun e w'=>e=.returned (.tuple #[.pointer none,.int .i64 3])/\ai w w':=by
 obtain⟨C,hC,hbC,lE⟩:=ch w #[.int .i64 n] 75;have cC:=au lE 0;clear lE;by_cases h1:n<1
 ·go_enter func81,ntmps81
  go_wp2_with fail;go_ret2;exact⟨rfl,hbC⟩
 ·have h5:5<n:=by omega
  go_enter func81,ntmps81;go_wp2_with fail;go_ret2;exact⟨rfl,hbC⟩
theorem Lx (n:Int)(w:World)(hn:¬ (1<=n/\n<=5)):Calls prog 26 #[.agg #[.int .i64 n]] w fun e w'=>e=.returned (.tuple #[.pointer none,.int .i64 3])/\ai w w':=by
 obtain⟨C,hC,hbC,lE⟩:=ch w #[.int .i64 n] 75;have cC:=au lE 0;clear lE;by_cases h1:n<1
 ·go_enter func26,ntmps26
  go_wp2_with fail;go_ret2;exact⟨rfl,hbC⟩
 ·have h5:5<n:=by omega
  go_enter func26,ntmps26;go_wp2_with fail;go_ret2;exact⟨rfl,hbC⟩
end Go.Proofs.YtgieeeeeiggoeaaGreat
