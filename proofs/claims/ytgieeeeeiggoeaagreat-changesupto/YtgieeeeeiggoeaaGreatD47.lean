import Derived.Test.YtgieeeeeiggoeaaGreatD46
set_option maxRecDepth 100000
set_option maxHeartbeats 8000000
namespace Go.Proofs.YtgieeeeeiggoeaaGreat
open Go.RowKit Go.Shelf
open Tryz
theorem QH (b:Nat)(vc:Value)(s:aN)(F:Nat->Prop)(m:aK)(a1:Option Addr)(d1:Nat)(a2:Option Addr)(d2:Nat)(w:World){n:Nat}{E:Int}(h:ea w F b vc s)(hms:bd w (.slice a1 m.af.length d1) m.af)(bR:bw w (.slice a2 m.log.length d2) m.log)(hF1:bA F (.slice a1 m.af.length d1))(hF2:bA F (.slice a2 m.log.length d2))(hS:d_ n E s)(hm:cU n E m)(hn:n<=5)(_hE:E<=2000)(hfit:s.fits m=true)(hd:s.does=3) :
  Calls prog 174 #[b,.agg #[m.kind,m.src,m.dst,m.ah,m.ak,m.aO,m.pos,m.value,.slice a1 m.af.length d1,.slice a2 m.log.length d2]] w fun e w'=>ij w F b vc e w' (s.take m):=by
 obtain⟨B,hB,bz,bf⟩:=dk w m (.slice a1 m.af.length d1) (.slice a2 m.log.length d2);obtain⟨K,hK,i_,iZ⟩:=ch B #[(),.int .i64 6,.int .i64 8,.int .i64 10,.int .i64 12,.int .i64 14,.int .i64 16] 3;have eb:B.heap.size=w.heap.size+1:=by rw[<- hB];simp
 have hKs:K.heap.size=w.heap.size+2:=by rw[<- hK];simp[eb]
 have hbw:ai w K:=bz.trans (i_.mono bz.size);have kU:=h.pM;have HR:=ae h;have df:K.heap[w.heap.size]?=some (.cells #[m.kind,m.src,m.dst,m.ah,m.ak,m.aO,m.pos,m.value,.slice a1 m.af.length d1,.slice a2 m.log.length d2] 134):=(i_.block _ (by omega)).trans bf
 have i4:K.heap[w.heap.size+1]?=some (.cells #[(),.int .i64 6,.int .i64 8,.int .i64 10,.int .i64 12,.int .i64 14,.int .i64 16] 3):=by rw[<- eb];exact iZ
 obtain⟨vw,vo,vm,vl,hI⟩:=cP.of h;obtain⟨xw,yw,mq⟩:=aM hI.own.1;obtain⟨xo,yo,hxo⟩:=aM hI.own.2.1;obtain⟨xm,ym,hxm⟩:=aM hI.own.2.2.1;obtain⟨xl,yl,hxl⟩:=aM hI.own.2.2.2;obtain⟨xc,yc,mo⟩:∃ a c,vc=.slice a s.came.length c:=by
  obtain⟨ws,_,c2,_⟩:=hI.came;exact aM c2
 subst mq;subst hxo;subst hxm;subst hxl;subst mo;have dF:=hI.below hbw;have hd6:=hS.does;have b2:=au dF.blk 2;have b3:=au dF.blk 3;have b4:=au dF.blk 4;have k0:=au df 0;have k1:=au df 1;have k3:=au df 3;have k4:=au df 4;have f_:Hid (∀ W,ai w W->Calls prog 176 #[b] W fun e w'=>∃ a c,e=.returned (.slice a s.all.length c)/\ai w w'/\ai W w'/\∀ V,ai w' V->Calls prog 212 #[.slice a s.all.length c,m.src] V fun e w2=>e=.returned (.bool (decide (m.src∈s.all)))/\w2=V):=ae fun W hb=>by
  refine (qx b _ s F W (h.below hb) hd6).mono ?_
  rintro e w' ⟨v,rfl,h1,h2⟩;obtain⟨x,c,rfl⟩:=aM h1;refine⟨x,c,rfl,hb.trans (h2.mono hb.size),h2,fun V hV => ?_⟩
  exact rO _ s.all m.src V (bJ.cM (aS h1 fun z _ hz=>hV.block z hz)) (by have:=hS.oW hn;omega)
 have eS:Hid (∀ W,ai w W->Calls prog 177 #[b,m.src] W fun e w'=>e=.returned (.bool (s.du m.src))/\w'=W):=ae fun W hb=>qy b _ s F m.src W (h.below hb) (hS.kP hn);have mixed:prog.follows Departure.mixedOrders=true:=by kernel_rfl
 have jw:Hid (∀ V,Moved w V (fun k=>k=b\/(Value.slice xc s.came.length yc).ownBlock=some k)->bw V (.slice a2 m.log.length d2) m.log):=ae fun V hM=>hM.owns bR fun k hk hS=>hS.elim (fun e=>aY hI.blk bR (by decide) (e ▸ hk)) (fun e=>by
  obtain⟨ws,_,c2,_⟩:=hI.came;exact bM bR c2 (by decide) k hk e)
 have lW:Hid (∀ V,Moved w V (fun k=>k=b\/(Value.slice xc s.came.length yc).ownBlock=some k)->Calls prog 208 #[.slice a2 m.log.length d2] V fun e w1=>∃ x c,e=.returned (.slice x m.log.length c)/\w1.ownsRow V.heap.size 42 5 (.slice x m.log.length c) m.log.length (aJ (bk m.log))/\ai V w1):=ae fun V hM=>by
  refine (nh _ m.log V (jw.out V hM) (by have:=hm.log.1;omega)).mono ?_
  rintro e w1 ⟨v',rfl,h1,h2⟩;obtain⟨x,c,rfl⟩:=aM h1;exact⟨x,c,rfl,h1,h2⟩
 have iV:Hid ((Value.slice xc s.came.length yc).ownBlock≠some w.heap.size):=ae fun e=>by
  obtain⟨ws,_,c2,_⟩:=hI.came;have:=(dL.1 (bK c2 e).choose_spec.1).1;omega
 have gd:=ae (aP dF (aP df (aP i4 hbw)));clear h hI dF df i4 iZ bf;have hfp:=qR s m;rw[hfit,hd] at hfp;have hmk:m.kind=10:=by
  by_cases e:m.kind=10
  ·exact e
  ·exfalso;simp[jC,e] at hfp
 have hme:m.ah=s.ah:=by
  by_cases e:m.ah=s.ah
  ·exact e
  ·exfalso;simp[e] at hfp
 have hmb:m.ak=s.ak:=by
  by_cases e:m.ak=s.ak
  ·exact e
  ·exfalso;simp[e] at hfp
 have hkn:m.src∈s.all:=by
  by_cases e:m.src∈s.all
  ·exact e
  ·exfalso;simp[e] at hfp
 have hcf:s.du m.src=false:=by
  cases e:s.du m.src with
  | false=>rfl
  | true=>exfalso;simp[e] at hfp
 rw[hcf] at eS;simp only [eR hkn] at f_;have b2:K.cell? (b,2)=some (.int .i64 3):=by rw[hd] at b2;exact b2
 rw[hmk] at k0;rw[hme] at k3;rw[hmb] at k4;have heq:∀ z:Int,(z == z)=true:=fun z=>by simp
 clear hfp hmk hkn hcf hme hmb;go_enter func174,ntmps174;go_upto_region 2 with fail
 go_quiet (fail);go_upto_region 3 with fail
 go_quiet (fail);have ef:Hid (∀ W,ai K W->ai w W):=ae fun W hb=>hbw.trans (hb.mono hbw.size);go_upto_region 4 with fail
 go_cut [3,5,6,7,8] (fun p3 p5 p6 p7 p8 wx=>p3=.pointer (some w.heap.size)/\p5=.slice (some ⟨w.heap.size+1,0,none⟩) 7 7/\p6=.bool true/\p7=.bool true/\p8=.bool true/\ai K wx)
 case first=>as_aux_lemma =>
  go_region_law (first|(rw[if_pos (by simp[Region.wanted])];go_simp;go_at_call 176;refine (f_.out _ (ef.out _ (by first|exact aV (ax _ _) _|exact (aV (ax _ _) _).drew))).mono ?_;rintro e W1 ⟨x5,c5,rfl,fq,hbW1,iY⟩;have lU:=ae iY;have y1:=aF hbW1 k1;have HB1:Hid (ai K W1):=ae (((by first|exact aV (ax K.heap.size K) _|exact (aV (ax K.heap.size K) _).drew):ai K _).trans hbW1);clear iY fq hbW1)|(rw[if_pos (by simp[Region.wanted])];go_simp;go_at_call 212;refine (lU.out _ (by first|exact ax _ _|exact (ax _ _).drew)).mono ?_;rintro e W2 ⟨rfl,rfl⟩))
  all_goals (
   go_wp2_with fail;go_meet;exact⟨rfl,rfl,rfl,rfl,rfl,by first|exact HB1.out|exact HB1.out.drew⟩)
 case rest =>
  obtain⟨rfl,rfl,rfl,rfl,rfl,hbx⟩:=hcut;have x2:=aF hbx b2;have x0:=aF hbx k0;have x1:=aF hbx k1;have xk:wc.cell? (w.heap.size+1,3)=some (.int .i64 10):=aF hbx (aj gd.out.2.2.1 3);have iU:=ae (eS.out wc (ef.out _ hbx));clear k0 k1 k3 k4 b2 b3 b4 eS f_;go_wp2_with fail;refine iU.out.mono ?_
  rintro e W2 ⟨rfl,rfl⟩;go_upto_region 6 with fail
  go_quiet (fail);have jz:=ae (gd.out.1.below (aV hbx nq));have cj:=(hbx.block _ (by omega)).trans gd.out.2.1
  have cj:(W2.drewN nq).heap[w.heap.size]?=some (.cells #[m.kind,m.src,m.dst,m.ah,m.ak,m.aO,m.pos,m.value,.slice a1 m.af.length d1,.slice a2 m.log.length d2] 134):=cj;have hbw2:=ef.out _ (aV hbx nq);clear x0 x1 x2 xk hbx iU;generalize W2.drewN nq=wd at *;obtain⟨V,dO⟩:∃ V,V=(wd.alloc (.cells #[m.kind,m.src,m.dst,m.ah,m.ak,m.aO,m.pos,m.value,.slice a1 m.af.length d1,.slice a2 m.log.length d2] 134)).drew:=⟨_,rfl⟩;have zw:∀ o,ai wd (wd.alloc o):=fun o=>(ax _ wd).alloc (aG _) o;have bF:ai wd V:=by rw[dO];exact (zw _).drew
  have il:ai w V:=hbw2.trans (bF.mono hbw2.size);have jU:∀ k,F k->Fi F w k:=fun k e=>.inl e;obtain⟨g',cap',W1,hrun,hb1,hI1,bI⟩:=(jz.out.below bF).add (g:=wd.heap.size) (m:=m) (v1:=.slice a1 m.af.length d1) (v2:=.slice a2 m.log.length d2) (by rw[dO];exact hnw _ _) (aS hms fun z _ hz=>il.block z hz) (aS bR fun z _ hz=>il.block z hz) (hF1.wider jU) (hF2.wider jU) (by have:=hS.kP hn;omega)
  have hM1:=(bI.block _ (by have:=bF.size;have:=(aQ cj);omega) iV.out).trans ((bF.block _ (aQ cj)).trans cj)
  have ik:=(cJ W1 ⟨b,9,none⟩ (.slice (some g') (s.came.length+1) cap') w.heap.size (by show w.heap.size≠b;omega)).trans hM1
  obtain⟨W6,iK⟩:∃ W6,W1.setCell ⟨b,9,none⟩ (.slice (some g') (s.came.length+1) cap')=W6:=⟨_,rfl⟩;rw[iK] at hI1 ik;have d9:=aj hb1 9;have e9:=aW hb1 9;have i9:=aj jz.out.blk 9;have w9:=fun o=>aF (zw o) i9;have mM:∀ j,wd.cell? ⟨w.heap.size,j,none⟩=(#[.int .i64 m.kind,.int .i64 m.src,.int .i64 m.dst,.int .i64 m.ah,.int .i64 m.ak,.int .i64 m.aO,.int .i64 m.pos,.int .i64 m.value,.slice a1 m.af.length d1,.slice a2 m.log.length d2]:Array Value)[j]?:=fun j=>aj cj j;have nO:∀ o j,(wd.alloc o).cell? ⟨w.heap.size,j,none⟩=(#[.int .i64 m.kind,.int .i64 m.src,.int .i64 m.dst,.int .i64 m.ah,.int .i64 m.ak,.int .i64 m.aO,.int .i64 m.pos,.int .i64 m.value,.slice a1 m.af.length d1,.slice a2 m.log.length d2]:Array Value)[j]?:=fun o j=>aj (((zw o).block _ (aQ cj)).trans cj) j;have eV:=ae hrun;rw[dO] at eV;have f2:=aj hI1.blk 2;have f9:=aj hI1.blk 9;have H6:=ae (aP hI1 ik);clear hrun hI1 ik hM1 bI hb1 cj hbw2 dO bF il;go_upto_region 8 with fail
  go_cut [3] (fun p3 wx=>p3=.pointer (some w.heap.size)/\wx=W6)
  case first =>
   go_region_law (first|(refine jq rfl (.tmp 87) (.tmp 89) 97 rfl _ _ _ _ (by simp[Act.eval]) (by simp[Act.eval]) eV.out ?_))
   all_goals (
    go_wp2_with fail;go_meet;exact⟨rfl,rfl⟩)
  case rest =>
   obtain⟨rfl,rfl⟩:=hcut;have f5:=aj H6.out.1.blk 5;have f7:=aj H6.out.1.blk 7;have me:=aW H6.out.1.blk 3;have mf:=aW H6.out.1.blk 6;have mg:=aW H6.out.1.blk 7;have mh:=aW H6.out.1.blk 8;have f3:=aj H6.out.1.blk 3;have f6:=aj H6.out.1.blk 6;have f8:=aj H6.out.1.blk 8;have m2:=au H6.out.2 2;have m9:=au H6.out.2 9;have hn1:¬ b=w.heap.size:=by omega
   have hn2:¬ w.heap.size=b:=by omega
   have hsw:=H6.out.1.mv.size;clear d9 e9 i9 w9 mM nO zw eV iK;have f2:wc.cell? (b,2)=some (.int .i64 3):=by rw[hd] at f2;exact f2
   have eC:s.af.length<=5:=bP (qi hS.mw) hn;generalize wc=wz at *;go_upto_block 0 with fail
   go_cut [3] from 10 (fun p3 wx=>p3=.pointer (some w.heap.size)/\sh w wx F b s m (.slice xc s.came.length yc) #[m.kind,m.src,m.dst,m.ah,m.ak,m.aO,m.pos,m.value,.slice a1 m.af.length d1,.slice a2 m.log.length d2])
   case first =>
    by_cases hce:s.came=[]
    ·as_aux_lemma =>
     have HT:Hid (s.take m=({ s with came:=s.came++[m] },[])):=ae (by unfold aN.take;rw[if_pos hfit,hd];rw[show s.came++[m]=[m] by rw[hce];rfl];exact if_pos hce)
     have h2:(s.came.length:Int)+1<2:=by rw[hce];simp
     clear hce;go_wp2_with fail;go_ret;rw[HT.out];exact H6.out.1.fin (ax _ _) (a_.nil _ _)
    ·obtain⟨c0,hc0⟩:∃ c0,s.came=[c0]:=by
      have hq:=hS.few.1 (by omega)
      match hcm:s.came with
      | []=>exact absurd hcm hce
      | [c0]=>exact⟨c0,rfl⟩
      | a :: b :: r=>rw[hcm] at hq;simp at hq
     have hl1:s.came.length=1:=by rw[hc0];rfl
     have hbw0:=Dd (f:=aK.aO) hc0 (hS.came c0 (by rw[hc0];exact fS ..)).1 hm
     obtain⟨p1,p2,p3,p4,r1,r2,r3,r4,⟨q1,q3,q4⟩,q2,q5,q6⟩:=Du H6.out.1.came hc0;have y0:wz.cell? (g',0)=some (.int .i64 c0.kind):=q1 0 (by omega)
     have y1:wz.cell? (g',1)=some (.int .i64 c0.src):=q1 1 (by omega)
     have y2:wz.cell? (g',2)=some (.int .i64 c0.dst):=q1 2 (by omega)
     have y3:wz.cell? (g',3)=some (.int .i64 c0.ah):=q1 3 (by omega)
     have y4:wz.cell? (g',4)=some (.int .i64 c0.ak):=q1 4 (by omega)
     have y5:wz.cell? (g',5)=some (.int .i64 c0.aO):=q1 5 (by omega)
     have y6:wz.cell? (g',6)=some (.int .i64 c0.pos):=q1 6 (by omega)
     have y7:wz.cell? (g',7)=some (.int .i64 c0.value):=q1 7 (by omega)
     have y8:wz.cell? (g',8)=some (.slice p1 c0.af.length p2):=q1 8 (by omega)
     have y9:wz.cell? (g',9)=some (.slice p3 c0.log.length p4):=q1 9 (by omega)
     have zw:∀ o,ai wz (wz.alloc o):=fun o=>(ax _ wz).alloc (aG _) o;have z0:=fun o=>aF (zw o) (show wz.cell? (g',10)=some (.int .i64 m.kind) from q2 0 (by omega))
     have z1:=fun o=>aF (zw o) (show wz.cell? (g',11)=some (.int .i64 m.src) from q2 1 (by omega))
     have z2:=fun o=>aF (zw o) (show wz.cell? (g',12)=some (.int .i64 m.dst) from q2 2 (by omega))
     have z3:=fun o=>aF (zw o) (show wz.cell? (g',13)=some (.int .i64 m.ah) from q2 3 (by omega))
     have z4:=fun o=>aF (zw o) (show wz.cell? (g',14)=some (.int .i64 m.ak) from q2 4 (by omega))
     have z5:=fun o=>aF (zw o) (show wz.cell? (g',15)=some (.int .i64 m.aO) from q2 5 (by omega))
     have z6:=fun o=>aF (zw o) (show wz.cell? (g',16)=some (.int .i64 m.pos) from q2 6 (by omega))
     have z7:=fun o=>aF (zw o) (show wz.cell? (g',17)=some (.int .i64 m.value) from q2 7 (by omega))
     have z8:=fun o=>aF (zw o) (show wz.cell? (g',18)=some (.slice r1 m.af.length r2) from q2 8 (by omega))
     have z9:=fun o=>aF (zw o) (show wz.cell? (g',19)=some (.slice r3 m.log.length r4) from q2 9 (by omega))
     have w9:=fun o=>aF (zw o) f9;have HB:Hid (∀ V,ai wz V->(bd V (.slice p1 c0.af.length p2) c0.af/\bw V (.slice p3 c0.log.length p4) c0.log)/\bd V (.slice r1 m.af.length r2) m.af/\bw V (.slice r3 m.log.length r4) m.log):=ae fun V hb=>⟨⟨aS q3 fun z _ hz=>hb.block z hz,aS q4 fun z _ hz=>hb.block z hz⟩,aS q5 fun z _ hz=>hb.block z hz,aS q6 fun z _ hz=>hb.block z hz⟩;have h2:¬ (s.came.length:Int)+1<2:=by omega
     rw[hl1] at f9 w9;have qD:=ae (aP hce hc0);have oP:=ae hbw0;clear q1 q2 q3 q4 q5 q6 hce hc0 hbw0;go_upto_region 27 with fail
     go_quiet (fail);go_upto_if 169 with fail
     go_cut [3,10,12] from 13 (fun p3 _p10 pb wx=>p3=.pointer (some w.heap.size)/\pb=.pointer (some wz.heap.size)/\Cd wz wx (cu aK.aO s.came m))
     case first =>
      by_cases hgt:c0.aO<m.aO
      ·have od:Hid (cu aK.aO s.came m=m):=ae (by unfold cu;rw[qD.out.2];exact if_pos hgt)
       go_wp2_with fail;go_meet;rw[od.out];have hbz:=aV (zw (.cells (cd (c0,.slice p1 c0.af.length p2,.slice p3 c0.log.length p4)).toArray 134)) nq;have e1:=GU (.int .i64 m.kind) (.int .i64 m.src) (.int .i64 m.dst) (.int .i64 m.ah) (.int .i64 m.ak) (.int .i64 m.aO) (.int .i64 m.pos) (.int .i64 m.value) (.slice r1 m.af.length r2) (.slice r3 m.log.length r4) (show ((wz.alloc (.cells (cd (c0,.slice p1 c0.af.length p2,.slice p3 c0.log.length p4)).toArray 134)).drewN nq).heap[wz.heap.size]?=_ from hnw wz _);have e2:=Db (.int .i64 m.kind) (.int .i64 m.src) (.int .i64 m.dst) (.int .i64 m.ah) (.int .i64 m.ak) (.int .i64 m.aO) (.int .i64 m.pos) (.int .i64 m.value) (.slice r1 m.af.length r2) (.slice r3 m.log.length r4) hbz;exact⟨rfl,rfl,_,_,e1,e2,(HB.out _ e2).2.1,(HB.out _ e2).2.2⟩
      ·have od:Hid (cu aK.aO s.came m=c0):=ae (by unfold cu;rw[qD.out.2];exact if_neg hgt)
       go_wp2_with fail;go_meet;rw[od.out];have hbz:=aV (zw (.cells (cd (c0,.slice p1 c0.af.length p2,.slice p3 c0.log.length p4)).toArray 134)) nq;exact⟨rfl,rfl,_,_,hnw wz _,hbz,(HB.out _ hbz).1.1,(HB.out _ hbz).1.2⟩
     case rest =>
      obtain⟨rfl,rfl,v1,v2,mT,hbl,i1,i2⟩:=hcut;obtain⟨s1,s2,rfl⟩:=aM i1;obtain⟨s3,s4,rfl⟩:=aM i2;have ri:=oP.out;have hbe:=ri.ah;have z_:=qi ri.af;have Nu:=ri.log.1;have I7:=H6.out.1.below hbl;have M7:=(hbl.block _ (aQ H6.out.2)).trans H6.out.2;have hzs:=hbl.size;have hnz:¬ wz.heap.size=b:=by omega
      have Ou:¬ b=wz.heap.size:=by omega
      have sg:Hid (s.take m=if 0<=(cu aK.aO s.came m).aO then aN.b_ { s with af:=(cu aK.aO s.came m).af,log:=(cu aK.aO s.came m).log } m.dst else aN.b_ { s with af:=s.want } m.dst):=ae (by unfold aN.take;rw[if_pos hfit,hd];exact if_neg qD.out.1)
      generalize cu aK.aO s.came m=bs at *;have k3:=au mT 3;have k5:=au mT 5;have k8:=au mT 8;have k9:=au mT 9;clear y0 y1 y2 y3 y4 y5 y6 y7 y8 y9 z0 z1 z2 z3 z4 z5 z6 z7 z8 z9 zw w9 f2 f3 f5 f6 f7 f8 f9 me mf mg mh m2 m9;have b5:=aj I7.blk 5;have b7:=aj I7.blk 7;have KG:=aW I7.blk 7;have iB:=e_ (hS.old (by omega))
      have AG:=e_ (hS.want (by omega))
      have I8:=I7.xK I7.own.1 I7.inf.1;have i8:=bu (a:=⟨b,7,none⟩) i1 (aY I7.blk i1 (by decide)) (.slice xw s.want.length yw)
      have j8:=bu (a:=⟨b,7,none⟩) i2 (aY I7.blk i2 (by decide)) (.slice xw s.want.length yw)
      have M8:=(cJ wc ⟨b,7,none⟩ (.slice xw s.want.length yw) w.heap.size hn2).trans M7;have K8:=(cJ wc ⟨b,7,none⟩ (.slice xw s.want.length yw) wz.heap.size hnz).trans mT;have yh:=ae (Bw _ bs.af _ i8 (by omega))
      have H8:=ae (aP I8 (aP M8 (aP K8 j8)));have s8:=I8.mv.size;clear I7 I8 M7 M8 i8 i1 i2 mT K8 j8;as_aux_lemma =>
      by_cases hv:0<=bs.aO
      ·rw[if_pos hv] at sg
       go_wp2_with fail;refine yh.out.mono ?_
       rintro e W9 ⟨v9,rfl,o9,gT⟩;obtain⟨x9,y9,rfl⟩:=aM o9;obtain⟨I8,M8,K8,j8⟩:=H8.out;have I9:=I8.below gT;have c7:=aj I9.blk 7;have KZ:=aW I9.blk 7;have K9:=(gT.block _ (aQ K8)).trans K8;have PI:=au K9 9;have j9:=aS j8 fun z _ hz=>gT.block z hz;have mF:=I9.xK (obs o9 (bl _)) (fun k hk=>.inr (by have:=(o9.lt k hk).1;omega))
       have j10:=bu (a:=⟨b,7,none⟩) j9 (aY I9.blk j9 (by decide)) (.slice x9 bs.af.length y9)
       have tv:=(cJ W9 ⟨b,7,none⟩ (.slice x9 bs.af.length y9) w.heap.size hn2).trans ((gT.block _ (aQ M8)).trans M8);have It:=ae (nh _ bs.log _ j10 (by omega))
       have s10:=mF.mv.size;have pC:=ae (aP mF tv);clear I8 M8 K8 j8 I9 K9 j9 mF j10 tv o9 gT k3 k5 k8 k9 b5 b7 KG H8;go_wp2_with fail;refine It.out.mono ?_
       rintro e JK ⟨v11,rfl,xy,zU⟩;obtain⟨U3,U9,rfl⟩:=aM xy;have vU:=pC.out.1.below zU;have c8:=aj vU.blk 8;have K0:=aW vU.blk 8;have CJ:=vU.G8 (obs xy (bl _)) (fun k hk=>.inr (by have:=(xy.lt k hk).1;omega))
       have CL:=(cJ JK ⟨b,8,none⟩ (.slice U3 bs.log.length U9) w.heap.size hn2).trans ((zU.block _ (aQ pC.out.2)).trans pC.out.2);have Cj:=ae (aP CJ CL);clear vU CJ CL xy zU c7 KZ PI;go_wp2_with fail;go_meet;exact⟨rfl, { s with came:=s.came++[m],af:=bs.af,log:=bs.log },_,_,_,_,_,sg.out,rfl,Cj.out.1,Cj.out.2,bP iB hn,bP z_ hn⟩
      ·rw[if_neg hv] at sg
       go_wp2_with fail;go_meet;exact⟨rfl, { s with came:=s.came++[m],af:=s.want },_,_,_,_,_,sg.out,rfl,H8.out.1,H8.out.2.1,bP iB hn,bP AG hn⟩
   case rest =>
    obtain⟨rfl,sX,w5,o5,m5,l5,c5,ht,im,hI,hM,jX,jW⟩:=hcut;have t2:wc.cell? (b,2)=some (.int .i64 3):=by
     have:=aj hI.blk 2;rw[im,hd] at this;exact this
    have vk:=aW hI.blk 2;have t9:=aj hI.blk 9;have vn:=aW hI.blk 9;have md:=au hM 2;have H2:Hid (∀ V,V=(wc.setCell ⟨b,2,none⟩ (.int .i64 4)).setCell ⟨b,9,none⟩ (.slice none 0 0)->cP w V F b (.slice xc s.came.length yc) { sX with does:=4,came:=[] } w5 o5 m5 l5 (.slice none 0 0)):=ae fun V hV=>by
     subst hV;exact (hI.rV 4).s_
    have HT:Hid (s.take m=({ sX with does:=4,came:=[] },aN.asks { sX with does:=4,came:=[] } m.dst)):=ae (by rw[ht];unfold aN.b_;rw[im,hd];rfl)
    have jN:Hid (∀ W,cP w W F b (.slice xc s.came.length yc) { sX with does:=4,came:=[] } w5 o5 m5 l5 (.slice none 0 0)->Calls prog 145 #[b,m.dst] W fun e w'=>∃ x y,e=.returned (.slice x (aN.asks { sX with does:=4,came:=[] } m.dst).length y)/\ij w F b (.slice xc s.came.length yc) e w' ({ sX with does:=4,came:=[] },aN.asks { sX with does:=4,came:=[] } m.dst)):=ae fun W hR=>sN hR (show (4:Nat)<=6 by decide) jX jW rfl
    clear ht hI hM im jX jW f2 f3 f5 f6 f7 f8 f9 me mf mg mh m2 m9 H6;go_wp2_with fail;refine (jN.out _ (H2.out _ rfl)).mono ?_
    rintro e W9 ⟨x9,y9,rfl,h9⟩;have H9:=ae h9;clear h9;go_wp2_with fail;go_ret;rw[HT.out];exact H9.out
end Go.Proofs.YtgieeeeeiggoeaaGreat
