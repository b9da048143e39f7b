import Derived.Test.YtgieeeeeiggoeaaGreatD46
set_option maxRecDepth 100000
set_option maxHeartbeats 8000000
namespace Go.Proofs.YtgieeeeeiggoeaaGreat
open Go.RowKit Go.Shelf
open Tryz
variable {E:Int}{n:Nat}
theorem QI (b:Nat)(vc:Value)(s:aN)(F:Nat->Prop)(m:aK)(a1:Option Addr)(d1:Nat)(a2:Option Addr)(d2:Nat)(w:World)(h:ea w F b vc s)(hms:bd w (.slice a1 m.af.length d1) m.af)(bR:bw w (.slice a2 m.log.length d2) m.log)(hF1:bA F (.slice a1 m.af.length d1))(hF2:bA F (.slice a2 m.log.length d2))(hS:d_ n E s)(hm:cU n E m)(hn:n<=5)(_hE:E<=2000)(hfit:s.fits m=true)(hd:s.does=4) :
  Calls prog 174 #[b,.agg #[m.kind,m.src,m.dst,m.ah,m.ak,m.aO,m.pos,m.value,.slice a1 m.af.length d1,.slice a2 m.log.length d2]] w fun e w'=>ij w F b vc e w' (s.take m):=by
 obtain⟨B,hB,bz,bf⟩:=dk w m (.slice a1 m.af.length d1) (.slice a2 m.log.length d2);obtain⟨K,hK,i_,iZ⟩:=ch B #[(),.int .i64 6,.int .i64 8,.int .i64 10,.int .i64 12,.int .i64 14,.int .i64 16] 3;have eb:B.heap.size=w.heap.size+1:=by rw[<- hB];simp
 have hKs:K.heap.size=w.heap.size+2:=by rw[<- hK];simp[eb]
 have hbw:ai w K:=bz.trans (i_.mono bz.size);have kU:=h.pM;have HR:=ae h;have df:K.heap[w.heap.size]?=some (.cells #[m.kind,m.src,m.dst,m.ah,m.ak,m.aO,m.pos,m.value,.slice a1 m.af.length d1,.slice a2 m.log.length d2] 134):=(i_.block _ (by omega)).trans bf
 have i4:K.heap[w.heap.size+1]?=some (.cells #[(),.int .i64 6,.int .i64 8,.int .i64 10,.int .i64 12,.int .i64 14,.int .i64 16] 3):=by rw[<- eb];exact iZ
 obtain⟨vw,vo,vm,vl,hI⟩:=cP.of h;obtain⟨xw,yw,mq⟩:=aM hI.own.1;obtain⟨xo,yo,hxo⟩:=aM hI.own.2.1;obtain⟨xm,ym,hxm⟩:=aM hI.own.2.2.1;obtain⟨xl,yl,hxl⟩:=aM hI.own.2.2.2;obtain⟨xc,yc,mo⟩:∃ a c,vc=.slice a s.came.length c:=by
  obtain⟨ws,_,c2,_⟩:=hI.came;exact aM c2
 subst mq;subst hxo;subst hxm;subst hxl;subst mo;have dF:=hI.below hbw;have hd6:=hS.does;have b2:=au dF.blk 2;have b3:=au dF.blk 3;have b4:=au dF.blk 4;have k0:=au df 0;have k1:=au df 1;have k3:=au df 3;have k4:=au df 4;have f_:Hid (∀ W,ai w W->Calls prog 176 #[b] W fun e w'=>∃ a c,e=.returned (.slice a s.all.length c)/\ai w w'/\ai W w'/\∀ V,ai w' V->Calls prog 212 #[.slice a s.all.length c,m.src] V fun e w2=>e=.returned (.bool (decide (m.src∈s.all)))/\w2=V):=ae fun W hb=>by
  refine (qx b _ s F W (h.below hb) hd6).mono ?_
  rintro e w' ⟨v,rfl,h1,h2⟩;obtain⟨x,c,rfl⟩:=aM h1;refine⟨x,c,rfl,hb.trans (h2.mono hb.size),h2,fun V hV => ?_⟩
  exact rO _ s.all m.src V (bJ.cM (aS h1 fun z _ hz=>hV.block z hz)) (by have:=hS.oW hn;omega)
 have eS:Hid (∀ W,ai w W->Calls prog 177 #[b,m.src] W fun e w'=>e=.returned (.bool (s.du m.src))/\w'=W):=ae fun W hb=>qy b _ s F m.src W (h.below hb) (hS.kP hn);have mixed:prog.follows Departure.mixedOrders=true:=by kernel_rfl
 have jw:Hid (∀ V,Moved w V (fun k=>k=b\/(Value.slice xc s.came.length yc).ownBlock=some k)->bw V (.slice a2 m.log.length d2) m.log):=ae fun V hM=>hM.owns bR fun k hk hS=>hS.elim (fun e=>aY hI.blk bR (by decide) (e ▸ hk)) (fun e=>by
  obtain⟨ws,_,c2,_⟩:=hI.came;exact bM bR c2 (by decide) k hk e)
 have lW:Hid (∀ V,Moved w V (fun k=>k=b\/(Value.slice xc s.came.length yc).ownBlock=some k)->Calls prog 208 #[.slice a2 m.log.length d2] V fun e w1=>∃ x c,e=.returned (.slice x m.log.length c)/\w1.ownsRow V.heap.size 42 5 (.slice x m.log.length c) m.log.length (aJ (bk m.log))/\ai V w1):=ae fun V hM=>by
  refine (nh _ m.log V (jw.out V hM) (by have:=hm.log.1;omega)).mono ?_
  rintro e w1 ⟨v',rfl,h1,h2⟩;obtain⟨x,c,rfl⟩:=aM h1;exact⟨x,c,rfl,h1,h2⟩
 have iV:Hid ((Value.slice xc s.came.length yc).ownBlock≠some w.heap.size):=ae fun e=>by
  obtain⟨ws,_,c2,_⟩:=hI.came;have:=(dL.1 (bK c2 e).choose_spec.1).1;omega
 have gd:=ae (aP dF (aP df (aP i4 hbw)));clear h hI dF df i4 iZ bf;have hfp:=qR s m;rw[hfit,hd] at hfp;have hmk:m.kind=12:=by
  by_cases e:m.kind=12
  ·exact e
  ·exfalso;simp[jC,e] at hfp
 have hme:m.ah=s.ah:=by
  by_cases e:m.ah=s.ah
  ·exact e
  ·exfalso;simp[e] at hfp
 have hmb:m.ak=s.ak:=by
  by_cases e:m.ak=s.ak
  ·exact e
  ·exfalso;simp[e] at hfp
 have hkn:m.src∈s.all:=by
  by_cases e:m.src∈s.all
  ·exact e
  ·exfalso;simp[e] at hfp
 have hcf:s.du m.src=false:=by
  cases e:s.du m.src with
  | false=>rfl
  | true=>exfalso;simp[e] at hfp
 rw[hcf] at eS;simp only [eR hkn] at f_;have b2:K.cell? (b,2)=some (.int .i64 4):=by rw[hd] at b2;exact b2
 rw[hmk] at k0;rw[hme] at k3;rw[hmb] at k4;have heq:∀ z:Int,(z == z)=true:=fun z=>by simp
 clear hfp hmk hkn hcf hme hmb;go_enter func174,ntmps174;go_upto_region 2 with fail
 go_quiet (fail);go_upto_region 3 with fail
 go_quiet (fail);have ef:Hid (∀ W,ai K W->ai w W):=ae fun W hb=>hbw.trans (hb.mono hbw.size);go_upto_region 4 with fail
 go_cut [3,5,6,7,8] (fun p3 p5 p6 p7 p8 wx=>p3=.pointer (some w.heap.size)/\p5=.slice (some ⟨w.heap.size+1,0,none⟩) 7 7/\p6=.bool true/\p7=.bool true/\p8=.bool true/\ai K wx)
 case first=>as_aux_lemma =>
  go_region_law (first|(rw[if_pos (by simp[Region.wanted])];go_simp;go_at_call 176;refine (f_.out _ (ef.out _ (by first|exact aV (ax _ _) _|exact (aV (ax _ _) _).drew))).mono ?_;rintro e W1 ⟨x5,c5,rfl,fq,hbW1,iY⟩;have lU:=ae iY;have y1:=aF hbW1 k1;have HB1:Hid (ai K W1):=ae (((by first|exact aV (ax K.heap.size K) _|exact (aV (ax K.heap.size K) _).drew):ai K _).trans hbW1);clear iY fq hbW1)|(rw[if_pos (by simp[Region.wanted])];go_simp;go_at_call 212;refine (lU.out _ (by first|exact ax _ _|exact (ax _ _).drew)).mono ?_;rintro e W2 ⟨rfl,rfl⟩))
  all_goals (
   go_wp2_with fail;go_meet;exact⟨rfl,rfl,rfl,rfl,rfl,by first|exact HB1.out|exact HB1.out.drew⟩)
 case rest =>
  obtain⟨rfl,rfl,rfl,rfl,rfl,hbx⟩:=hcut;have x2:=aF hbx b2;have x0:=aF hbx k0;have x1:=aF hbx k1;have xk:wc.cell? (w.heap.size+1,4)=some (.int .i64 12):=aF hbx (aj gd.out.2.2.1 4);have iU:=ae (eS.out wc (ef.out _ hbx));clear k0 k1 k3 k4 b2 b3 b4 eS f_;go_wp2_with fail;refine iU.out.mono ?_
  rintro e W2 ⟨rfl,rfl⟩;go_upto_region 6 with fail
  go_quiet (fail);have jz:=ae (gd.out.1.below (aV hbx nq));have cj:=(hbx.block _ (by omega)).trans gd.out.2.1
  have cj:(W2.drewN nq).heap[w.heap.size]?=some (.cells #[m.kind,m.src,m.dst,m.ah,m.ak,m.aO,m.pos,m.value,.slice a1 m.af.length d1,.slice a2 m.log.length d2] 134):=cj;have hbw2:=ef.out _ (aV hbx nq);clear x0 x1 x2 xk hbx iU;generalize W2.drewN nq=wd at *;obtain⟨V,dO⟩:∃ V,V=(wd.alloc (.cells #[m.kind,m.src,m.dst,m.ah,m.ak,m.aO,m.pos,m.value,.slice a1 m.af.length d1,.slice a2 m.log.length d2] 134)).drew:=⟨_,rfl⟩;have zw:∀ o,ai wd (wd.alloc o):=fun o=>(ax _ wd).alloc (aG _) o;have bF:ai wd V:=by rw[dO];exact (zw _).drew
  have il:ai w V:=hbw2.trans (bF.mono hbw2.size);have jU:∀ k,F k->Fi F w k:=fun k e=>.inl e;obtain⟨g',cap',W1,hrun,hb1,hI1,bI⟩:=(jz.out.below bF).add (g:=wd.heap.size) (m:=m) (v1:=.slice a1 m.af.length d1) (v2:=.slice a2 m.log.length d2) (by rw[dO];exact hnw _ _) (aS hms fun z _ hz=>il.block z hz) (aS bR fun z _ hz=>il.block z hz) (hF1.wider jU) (hF2.wider jU) (by have:=hS.kP hn;omega)
  have hM1:=(bI.block _ (by have:=bF.size;have:=(aQ cj);omega) iV.out).trans ((bF.block _ (aQ cj)).trans cj)
  have ik:=(cJ W1 ⟨b,9,none⟩ (.slice (some g') (s.came.length+1) cap') w.heap.size (by show w.heap.size≠b;omega)).trans hM1
  obtain⟨W6,iK⟩:∃ W6,W1.setCell ⟨b,9,none⟩ (.slice (some g') (s.came.length+1) cap')=W6:=⟨_,rfl⟩;rw[iK] at hI1 ik;have d9:=aj hb1 9;have e9:=aW hb1 9;have i9:=aj jz.out.blk 9;have w9:=fun o=>aF (zw o) i9;have mM:∀ j,wd.cell? ⟨w.heap.size,j,none⟩=(#[.int .i64 m.kind,.int .i64 m.src,.int .i64 m.dst,.int .i64 m.ah,.int .i64 m.ak,.int .i64 m.aO,.int .i64 m.pos,.int .i64 m.value,.slice a1 m.af.length d1,.slice a2 m.log.length d2]:Array Value)[j]?:=fun j=>aj cj j;have nO:∀ o j,(wd.alloc o).cell? ⟨w.heap.size,j,none⟩=(#[.int .i64 m.kind,.int .i64 m.src,.int .i64 m.dst,.int .i64 m.ah,.int .i64 m.ak,.int .i64 m.aO,.int .i64 m.pos,.int .i64 m.value,.slice a1 m.af.length d1,.slice a2 m.log.length d2]:Array Value)[j]?:=fun o j=>aj (((zw o).block _ (aQ cj)).trans cj) j;have eV:=ae hrun;rw[dO] at eV;have f2:=aj hI1.blk 2;have f9:=aj hI1.blk 9;have H6:=ae (aP hI1 ik);clear hrun hI1 ik hM1 bI hb1 cj hbw2 dO bF il;go_upto_region 8 with fail
  go_cut [3] (fun p3 wx=>p3=.pointer (some w.heap.size)/\wx=W6)
  case first =>
   go_region_law (first|(refine jq rfl (.tmp 87) (.tmp 89) 97 rfl _ _ _ _ (by simp[Act.eval]) (by simp[Act.eval]) eV.out ?_))
   all_goals (
    go_wp2_with fail;go_meet;exact⟨rfl,rfl⟩)
  case rest =>
   obtain⟨rfl,rfl⟩:=hcut;have f5:=aj H6.out.1.blk 5;have f7:=aj H6.out.1.blk 7;have me:=aW H6.out.1.blk 3;have mf:=aW H6.out.1.blk 6;have mg:=aW H6.out.1.blk 7;have mh:=aW H6.out.1.blk 8;have f3:=aj H6.out.1.blk 3;have f6:=aj H6.out.1.blk 6;have f8:=aj H6.out.1.blk 8;have m2:=au H6.out.2 2;have m9:=au H6.out.2 9;have hn1:¬ b=w.heap.size:=by omega
   have hn2:¬ w.heap.size=b:=by omega
   have hsw:=H6.out.1.mv.size;clear d9 e9 i9 w9 mM nO zw eV iK;have f2:wc.cell? (b,2)=some (.int .i64 4):=by rw[hd] at f2;exact f2
   have eC:s.af.length<=5:=bP (qi hS.mw) hn;generalize wc=wz at *;go_upto_block 0 with fail
   go_cut [3] from 10 (fun p3 wx=>p3=.pointer (some w.heap.size)/\sh w wx F b s m (.slice xc s.came.length yc) #[m.kind,m.src,m.dst,m.ah,m.ak,m.aO,m.pos,m.value,.slice a1 m.af.length d1,.slice a2 m.log.length d2])
   case first =>
    by_cases hce:s.came=[]
    ·have HT:Hid (s.take m=({ s with came:=s.came++[m] },[])):=ae (by unfold aN.take;rw[if_pos hfit,hd];rw[show s.came++[m]=[m] by rw[hce];rfl];exact if_pos hce)
     have h2:(s.came.length:Int)+1<2:=by rw[hce];simp
     clear hce;go_wp2_with fail;go_ret;rw[HT.out];exact H6.out.1.fin (ax _ _) (a_.nil _ _)
    ·have HT:Hid (s.take m=aN.b_ { s with came:=s.came++[m] } m.dst):=ae (show s.take m=s.b_ m.dst by unfold aN.take;rw[if_pos hfit,hd];exact if_neg hce)
     have iB:=e_ (hS.old (by omega))
     have h2:¬ (s.came.length:Int)+1<2:=by have:=List.length_pos_iff.2 hce;omega
     clear hce;go_wp2_with fail;go_meet;exact⟨rfl,_,_,_,_,_,_,HT.out,rfl,H6.out.1,H6.out.2,bP iB hn,eC⟩
   case rest =>
    obtain⟨rfl,sX,w5,o5,m5,l5,c5,ht,im,hI,hM,jX,jW⟩:=hcut;have t2:wc.cell? (b,2)=some (.int .i64 4):=by
     have:=aj hI.blk 2;rw[im,hd] at this;exact this
    have vk:=aW hI.blk 2;have t9:=aj hI.blk 9;have vn:=aW hI.blk 9;have md:=au hM 2;have H2:Hid (∀ V,V=(wc.setCell ⟨b,2,none⟩ (.int .i64 5)).setCell ⟨b,9,none⟩ (.slice none 0 0)->cP w V F b (.slice xc s.came.length yc) { sX with does:=5,came:=[] } w5 o5 m5 l5 (.slice none 0 0)):=ae fun V hV=>by
     subst hV;exact (hI.rV 5).s_
    have HT:Hid (s.take m=({ sX with does:=5,came:=[] },aN.asks { sX with does:=5,came:=[] } m.dst)):=ae (by rw[ht];unfold aN.b_;rw[im,hd];rfl)
    have jN:Hid (∀ W,cP w W F b (.slice xc s.came.length yc) { sX with does:=5,came:=[] } w5 o5 m5 l5 (.slice none 0 0)->Calls prog 145 #[b,m.dst] W fun e w'=>∃ x y,e=.returned (.slice x (aN.asks { sX with does:=5,came:=[] } m.dst).length y)/\ij w F b (.slice xc s.came.length yc) e w' ({ sX with does:=5,came:=[] },aN.asks { sX with does:=5,came:=[] } m.dst)):=ae fun W hR=>sN hR (show (5:Nat)<=6 by decide) jX jW rfl
    clear ht hI hM im jX jW f2 f3 f5 f6 f7 f8 f9 me mf mg mh m2 m9 H6;go_wp2_with fail;refine (jN.out _ (H2.out _ rfl)).mono ?_
    rintro e W9 ⟨x9,y9,rfl,h9⟩;have H9:=ae h9;clear h9;go_wp2_with fail;go_ret;rw[HT.out];exact H9.out
theorem QK (b:Nat)(vc:Value)(s:aN)(F:Nat->Prop)(m:aK)(a1:Option Addr)(d1:Nat)(a2:Option Addr)(d2:Nat)(w:World)(h:ea w F b vc s)(hms:bd w (.slice a1 m.af.length d1) m.af)(bR:bw w (.slice a2 m.log.length d2) m.log)(hF1:bA F (.slice a1 m.af.length d1))(hF2:bA F (.slice a2 m.log.length d2))(hS:d_ n E s)(hm:cU n E m)(hn:n<=5)(_hE:E<=2000)(hfit:s.fits m=true)(hd:s.does=6) :
  Calls prog 174 #[b,.agg #[m.kind,m.src,m.dst,m.ah,m.ak,m.aO,m.pos,m.value,.slice a1 m.af.length d1,.slice a2 m.log.length d2]] w fun e w'=>ij w F b vc e w' (s.take m):=by
 obtain⟨B,hB,bz,bf⟩:=dk w m (.slice a1 m.af.length d1) (.slice a2 m.log.length d2);obtain⟨K,hK,i_,iZ⟩:=ch B #[(),.int .i64 6,.int .i64 8,.int .i64 10,.int .i64 12,.int .i64 14,.int .i64 16] 3;have eb:B.heap.size=w.heap.size+1:=by rw[<- hB];simp
 have hKs:K.heap.size=w.heap.size+2:=by rw[<- hK];simp[eb]
 have hbw:ai w K:=bz.trans (i_.mono bz.size);have kU:=h.pM;have HR:=ae h;have df:K.heap[w.heap.size]?=some (.cells #[m.kind,m.src,m.dst,m.ah,m.ak,m.aO,m.pos,m.value,.slice a1 m.af.length d1,.slice a2 m.log.length d2] 134):=(i_.block _ (by omega)).trans bf
 have i4:K.heap[w.heap.size+1]?=some (.cells #[(),.int .i64 6,.int .i64 8,.int .i64 10,.int .i64 12,.int .i64 14,.int .i64 16] 3):=by rw[<- eb];exact iZ
 obtain⟨vw,vo,vm,vl,hI⟩:=cP.of h;obtain⟨xw,yw,mq⟩:=aM hI.own.1;obtain⟨xo,yo,hxo⟩:=aM hI.own.2.1;obtain⟨xm,ym,hxm⟩:=aM hI.own.2.2.1;obtain⟨xl,yl,hxl⟩:=aM hI.own.2.2.2;obtain⟨xc,yc,mo⟩:∃ a c,vc=.slice a s.came.length c:=by
  obtain⟨ws,_,c2,_⟩:=hI.came;exact aM c2
 subst mq;subst hxo;subst hxm;subst hxl;subst mo;have dF:=hI.below hbw;have hd6:=hS.does;have b2:=au dF.blk 2;have b3:=au dF.blk 3;have b4:=au dF.blk 4;have k0:=au df 0;have k1:=au df 1;have k3:=au df 3;have k4:=au df 4;have f_:Hid (∀ W,ai w W->Calls prog 176 #[b] W fun e w'=>∃ a c,e=.returned (.slice a s.all.length c)/\ai w w'/\ai W w'/\∀ V,ai w' V->Calls prog 212 #[.slice a s.all.length c,m.src] V fun e w2=>e=.returned (.bool (decide (m.src∈s.all)))/\w2=V):=ae fun W hb=>by
  refine (qx b _ s F W (h.below hb) hd6).mono ?_
  rintro e w' ⟨v,rfl,h1,h2⟩;obtain⟨x,c,rfl⟩:=aM h1;refine⟨x,c,rfl,hb.trans (h2.mono hb.size),h2,fun V hV => ?_⟩
  exact rO _ s.all m.src V (bJ.cM (aS h1 fun z _ hz=>hV.block z hz)) (by have:=hS.oW hn;omega)
 have eS:Hid (∀ W,ai w W->Calls prog 177 #[b,m.src] W fun e w'=>e=.returned (.bool (s.du m.src))/\w'=W):=ae fun W hb=>qy b _ s F m.src W (h.below hb) (hS.kP hn);have mixed:prog.follows Departure.mixedOrders=true:=by kernel_rfl
 have jw:Hid (∀ V,Moved w V (fun k=>k=b\/(Value.slice xc s.came.length yc).ownBlock=some k)->bw V (.slice a2 m.log.length d2) m.log):=ae fun V hM=>hM.owns bR fun k hk hS=>hS.elim (fun e=>aY hI.blk bR (by decide) (e ▸ hk)) (fun e=>by
  obtain⟨ws,_,c2,_⟩:=hI.came;exact bM bR c2 (by decide) k hk e)
 have lW:Hid (∀ V,Moved w V (fun k=>k=b\/(Value.slice xc s.came.length yc).ownBlock=some k)->Calls prog 208 #[.slice a2 m.log.length d2] V fun e w1=>∃ x c,e=.returned (.slice x m.log.length c)/\w1.ownsRow V.heap.size 42 5 (.slice x m.log.length c) m.log.length (aJ (bk m.log))/\ai V w1):=ae fun V hM=>by
  refine (nh _ m.log V (jw.out V hM) (by have:=hm.log.1;omega)).mono ?_
  rintro e w1 ⟨v',rfl,h1,h2⟩;obtain⟨x,c,rfl⟩:=aM h1;exact⟨x,c,rfl,h1,h2⟩
 have iV:Hid ((Value.slice xc s.came.length yc).ownBlock≠some w.heap.size):=ae fun e=>by
  obtain⟨ws,_,c2,_⟩:=hI.came;have:=(dL.1 (bK c2 e).choose_spec.1).1;omega
 have gd:=ae (aP dF (aP df (aP i4 hbw)));clear h hI dF df i4 iZ bf;have hfp:=qR s m;rw[hfit,hd] at hfp;have hmk:m.kind=16:=by
  by_cases e:m.kind=16
  ·exact e
  ·exfalso;simp[jC,e] at hfp
 have hme:m.ah=s.ah:=by
  by_cases e:m.ah=s.ah
  ·exact e
  ·exfalso;simp[e] at hfp
 have hkn:m.src∈s.all:=by
  by_cases e:m.src∈s.all
  ·exact e
  ·exfalso;simp[e] at hfp
 have hcf:s.du m.src=false:=by
  cases e:s.du m.src with
  | false=>rfl
  | true=>exfalso;simp[e] at hfp
 rw[hcf] at eS;simp only [eR hkn] at f_;have b2:K.cell? (b,2)=some (.int .i64 6):=by rw[hd] at b2;exact b2
 rw[hmk] at k0;rw[hme] at k3;have heq:∀ z:Int,(z == z)=true:=fun z=>by simp
 clear hfp hmk hkn hcf hme;go_enter func174,ntmps174;go_upto_region 2 with fail
 go_quiet (fail);go_upto_region 3 with fail
 go_quiet (fail);have ef:Hid (∀ W,ai K W->ai w W):=ae fun W hb=>hbw.trans (hb.mono hbw.size);go_upto_region 4 with fail
 go_cut [3,5,6,7,8] (fun p3 p5 p6 p7 p8 wx=>p3=.pointer (some w.heap.size)/\p5=.slice (some ⟨w.heap.size+1,0,none⟩) 7 7/\p6=.bool true/\p7=.bool true/\p8=.bool true/\ai K wx)
 case first=>as_aux_lemma =>
  go_region_law (first|(rw[if_pos (by simp[Region.wanted])];go_simp;go_at_call 176;refine (f_.out _ (ef.out _ (by first|exact aV (ax _ _) _|exact (aV (ax _ _) _).drew))).mono ?_;rintro e W1 ⟨x5,c5,rfl,fq,hbW1,iY⟩;have lU:=ae iY;have y1:=aF hbW1 k1;have HB1:Hid (ai K W1):=ae (((by first|exact aV (ax K.heap.size K) _|exact (aV (ax K.heap.size K) _).drew):ai K _).trans hbW1);clear iY fq hbW1)|(rw[if_pos (by simp[Region.wanted])];go_simp;go_at_call 212;refine (lU.out _ (by first|exact ax _ _|exact (ax _ _).drew)).mono ?_;rintro e W2 ⟨rfl,rfl⟩))
  all_goals (
   go_wp2_with fail;go_meet;exact⟨rfl,rfl,rfl,rfl,rfl,by first|exact HB1.out|exact HB1.out.drew⟩)
 case rest =>
  obtain⟨rfl,rfl,rfl,rfl,rfl,hbx⟩:=hcut;have x2:=aF hbx b2;have x0:=aF hbx k0;have x1:=aF hbx k1;have xk:wc.cell? (w.heap.size+1,6)=some (.int .i64 16):=aF hbx (aj gd.out.2.2.1 6);have iU:=ae (eS.out wc (ef.out _ hbx));clear k0 k1 k3 k4 b2 b3 b4 eS f_;go_wp2_with fail;refine iU.out.mono ?_
  rintro e W2 ⟨rfl,rfl⟩;go_upto_region 6 with fail
  go_quiet (fail);have jz:=ae (gd.out.1.below (aV hbx nq));have cj:=(hbx.block _ (by omega)).trans gd.out.2.1
  have cj:(W2.drewN nq).heap[w.heap.size]?=some (.cells #[m.kind,m.src,m.dst,m.ah,m.ak,m.aO,m.pos,m.value,.slice a1 m.af.length d1,.slice a2 m.log.length d2] 134):=cj;have hbw2:=ef.out _ (aV hbx nq);clear x0 x1 x2 xk hbx iU;generalize W2.drewN nq=wd at *;obtain⟨V,dO⟩:∃ V,V=(wd.alloc (.cells #[m.kind,m.src,m.dst,m.ah,m.ak,m.aO,m.pos,m.value,.slice a1 m.af.length d1,.slice a2 m.log.length d2] 134)).drew:=⟨_,rfl⟩;have zw:∀ o,ai wd (wd.alloc o):=fun o=>(ax _ wd).alloc (aG _) o;have bF:ai wd V:=by rw[dO];exact (zw _).drew
  have il:ai w V:=hbw2.trans (bF.mono hbw2.size);have jU:∀ k,F k->Fi F w k:=fun k e=>.inl e;obtain⟨g',cap',W1,hrun,hb1,hI1,bI⟩:=(jz.out.below bF).add (g:=wd.heap.size) (m:=m) (v1:=.slice a1 m.af.length d1) (v2:=.slice a2 m.log.length d2) (by rw[dO];exact hnw _ _) (aS hms fun z _ hz=>il.block z hz) (aS bR fun z _ hz=>il.block z hz) (hF1.wider jU) (hF2.wider jU) (by have:=hS.kP hn;omega)
  have hM1:=(bI.block _ (by have:=bF.size;have:=(aQ cj);omega) iV.out).trans ((bF.block _ (aQ cj)).trans cj)
  have ik:=(cJ W1 ⟨b,9,none⟩ (.slice (some g') (s.came.length+1) cap') w.heap.size (by show w.heap.size≠b;omega)).trans hM1
  obtain⟨W6,iK⟩:∃ W6,W1.setCell ⟨b,9,none⟩ (.slice (some g') (s.came.length+1) cap')=W6:=⟨_,rfl⟩;rw[iK] at hI1 ik;have d9:=aj hb1 9;have e9:=aW hb1 9;have i9:=aj jz.out.blk 9;have w9:=fun o=>aF (zw o) i9;have mM:∀ j,wd.cell? ⟨w.heap.size,j,none⟩=(#[.int .i64 m.kind,.int .i64 m.src,.int .i64 m.dst,.int .i64 m.ah,.int .i64 m.ak,.int .i64 m.aO,.int .i64 m.pos,.int .i64 m.value,.slice a1 m.af.length d1,.slice a2 m.log.length d2]:Array Value)[j]?:=fun j=>aj cj j;have nO:∀ o j,(wd.alloc o).cell? ⟨w.heap.size,j,none⟩=(#[.int .i64 m.kind,.int .i64 m.src,.int .i64 m.dst,.int .i64 m.ah,.int .i64 m.ak,.int .i64 m.aO,.int .i64 m.pos,.int .i64 m.value,.slice a1 m.af.length d1,.slice a2 m.log.length d2]:Array Value)[j]?:=fun o j=>aj (((zw o).block _ (aQ cj)).trans cj) j;have eV:=ae hrun;rw[dO] at eV;have f2:=aj hI1.blk 2;have f9:=aj hI1.blk 9;have H6:=ae (aP hI1 ik);clear hrun hI1 ik hM1 bI hb1 cj hbw2 dO bF il;go_upto_region 8 with fail
  go_cut [3] (fun p3 wx=>p3=.pointer (some w.heap.size)/\wx=W6)
  case first =>
   go_region_law (first|(refine jq rfl (.tmp 87) (.tmp 89) 97 rfl _ _ _ _ (by simp[Act.eval]) (by simp[Act.eval]) eV.out ?_))
   all_goals (
    go_wp2_with fail;go_meet;exact⟨rfl,rfl⟩)
  case rest =>
   obtain⟨rfl,rfl⟩:=hcut;have f5:=aj H6.out.1.blk 5;have f7:=aj H6.out.1.blk 7;have me:=aW H6.out.1.blk 3;have mf:=aW H6.out.1.blk 6;have mg:=aW H6.out.1.blk 7;have mh:=aW H6.out.1.blk 8;have f3:=aj H6.out.1.blk 3;have f6:=aj H6.out.1.blk 6;have f8:=aj H6.out.1.blk 8;have m2:=au H6.out.2 2;have m9:=au H6.out.2 9;have hn1:¬ b=w.heap.size:=by omega
   have hn2:¬ w.heap.size=b:=by omega
   have hsw:=H6.out.1.mv.size;clear d9 e9 i9 w9 mM nO zw eV iK;have f2:wc.cell? (b,2)=some (.int .i64 6):=by rw[hd] at f2;exact f2
   have eC:s.af.length<=5:=bP (qi hS.mw) hn;generalize wc=wz at *;go_upto_block 0 with fail
   go_cut [3] from 10 (fun p3 wx=>p3=.pointer (some w.heap.size)/\sh w wx F b s m (.slice xc s.came.length yc) #[m.kind,m.src,m.dst,m.ah,m.ak,m.aO,m.pos,m.value,.slice a1 m.af.length d1,.slice a2 m.log.length d2])
   case first =>
    by_cases hce:s.came=[]
    ·have HT:Hid (s.take m=({ s with came:=s.came++[m] },[])):=ae (by unfold aN.take;rw[if_pos hfit,hd];rw[show s.came++[m]=[m] by rw[hce];rfl];exact if_pos hce)
     have h2:(s.came.length:Int)+1<2:=by rw[hce];simp
     clear hce;go_wp2_with fail;go_ret;rw[HT.out];exact H6.out.1.fin (ax _ _) (a_.nil _ _)
    ·have HT:Hid (s.take m=aN.b_ { s with came:=s.came++[m] } m.dst):=ae (show s.take m=s.b_ m.dst by unfold aN.take;rw[if_pos hfit,hd];exact if_neg hce)
     have iB:=e_ (hS.old (by omega))
     have h2:¬ (s.came.length:Int)+1<2:=by have:=List.length_pos_iff.2 hce;omega
     clear hce;go_wp2_with fail;go_meet;exact⟨rfl,_,_,_,_,_,_,HT.out,rfl,H6.out.1,H6.out.2,bP iB hn,eC⟩
   case rest =>
    obtain⟨rfl,sX,w5,o5,m5,l5,c5,ht,im,hI,hM,jX,jW⟩:=hcut;have t2:wc.cell? (b,2)=some (.int .i64 6):=by
     have:=aj hI.blk 2;rw[im,hd] at this;exact this
    have vk:=aW hI.blk 2;have t9:=aj hI.blk 9;have vn:=aW hI.blk 9;have md:=au hM 2;have H2:Hid (∀ V,V=((wc.setCell ⟨b,2,none⟩ (.int .i64 7)).setCell ⟨b,2,none⟩ (.int .i64 0)).setCell ⟨b,9,none⟩ (.slice none 0 0)->cP w V F b (.slice xc s.came.length yc) { sX with does:=0,came:=[] } w5 o5 m5 l5 (.slice none 0 0)):=ae fun V hV=>by
     subst hV;exact ((hI.rV 7).rV 0).s_
    have HT:Hid (s.take m=({ sX with does:=0,came:=[] },aN.asks { sX with does:=0,came:=[] } m.dst)):=ae (by rw[ht];unfold aN.b_;rw[im,hd];rfl)
    have jN:Hid (∀ W,cP w W F b (.slice xc s.came.length yc) { sX with does:=0,came:=[] } w5 o5 m5 l5 (.slice none 0 0)->Calls prog 145 #[b,m.dst] W fun e w'=>∃ x y,e=.returned (.slice x (aN.asks { sX with does:=0,came:=[] } m.dst).length y)/\ij w F b (.slice xc s.came.length yc) e w' ({ sX with does:=0,came:=[] },aN.asks { sX with does:=0,came:=[] } m.dst)):=ae fun W hR=>sN hR (show (0:Nat)<=6 by decide) jX jW rfl
    clear ht hI hM im jX jW f2 f3 f5 f6 f7 f8 f9 me mf mg mh m2 m9 H6;go_wp2_with fail;refine (jN.out _ (H2.out _ rfl)).mono ?_
    rintro e W9 ⟨x9,y9,rfl,h9⟩;have H9:=ae h9;clear h9;go_wp2_with fail;go_ret;rw[HT.out];exact H9.out
end Go.Proofs.YtgieeeeeiggoeaaGreat
