import Derived.Test.YtgieeeeeiggoeaaGreatD48
import Derived.Test.YtgieeeeeiggoeaaGreatD47
import Derived.Test.YtgieeeeeiggoeaaGreatD49
import Derived.Test.YtgieeeeeiggoeaaGreatD50
import Derived.Test.YtgieeeeeiggoeaaGreatD45
import Derived.Test.YtgieeeeeiggoeaaGreatD44
set_option maxRecDepth 100000
set_option maxHeartbeats 16000000
namespace Go.Proofs.YtgieeeeeiggoeaaGreat
open Go.RowKit Go.Shelf
open Tryz
variable {c c':aq}{g:Gh}{E:Int}{ps:List Pr}{B M T y:Nat}{F:Nat->Prop}{p:Pr}{x5:Value}{w w' w0:World}
theorem SN (b:Nat)(vc:Value)(s:aN)(F:Nat->Prop)(m:aK)(a1:Option Addr)(d1:Nat)(a2:Option Addr)(d2:Nat)(w:World){n:Nat}(h:ea w F b vc s)(hms:bd w (.slice a1 m.af.length d1) m.af)(bR:bw w (.slice a2 m.log.length d2) m.log)(hF1:bA F (.slice a1 m.af.length d1))(hF2:bA F (.slice a2 m.log.length d2))(hS:d_ n E s)(hm:cU n E m)(hn:n<=5)(hE:E<=2000) :
  Calls prog 174 #[b,.agg #[m.kind,m.src,m.dst,m.ah,m.ak,m.aO,m.pos,m.value,.slice a1 m.af.length d1,.slice a2 m.log.length d2]] w fun e w'=>ij w F b vc e w' (s.take m):=by
 cases hfit:s.fits m with
 | false=>exact QL b vc s F m a1 d1 a2 d2 w h hms bR hF1 hF2 hS hm hn hfit
 | true =>
  have hd6:=hS.does;have h0:s.does≠0:=fun e=>by unfold aN.fits at hfit;rw[e] at hfit;simp at hfit
  rcases (show s.does=1\/s.does=2\/s.does=3\/s.does=4\/s.does=5\/s.does=6 by omega) with hd|hd|hd|hd|hd|hd
  ·exact QF b vc s F m a1 d1 a2 d2 w h hms bR hF1 hF2 hS hm hn hE hfit hd
  ·exact QG b vc s F m a1 d1 a2 d2 w h hms bR hF1 hF2 hS hm hn hE hfit hd
  ·exact QH b vc s F m a1 d1 a2 d2 w h hms bR hF1 hF2 hS hm hn hE hfit hd
  ·exact QI b vc s F m a1 d1 a2 d2 w h hms bR hF1 hF2 hS hm hn hE hfit hd
  ·exact QJ b vc s F m a1 d1 a2 d2 w h hms bR hF1 hF2 hS hm hn hE hfit hd
  ·exact QK b vc s F m a1 d1 a2 d2 w h hms bR hF1 hF2 hS hm hn hE hfit hd
theorem S7 (d:Int)(h:cK w F y c)(hg:Good c E g)(hi : -9223372036854775808<=d/\d<=9223372036854775807) :
  Calls prog 137 #[y,.int .i64 d] w fun e w'=>∃ v,e=.returned v/\a_ w' w.heap.size v (c.gO d)/\ai w w':=by
 obtain⟨br,ba,bm,vr,va,vm,vb,vt,vv,vc,h⟩:=h;have hn:=hg.nodes.n5;obtain⟨ar,cr,dp⟩:=aM h.rr;subst dp;have c0:=au h.blk 0;have c2:=au h.blk 2;have HK:=ae (mB y c.aD.length _ cr d w c0 hn hi);rcases who c d hn with ⟨i,hil,rfl,hk,hu⟩|⟨i,hil,rfl,hk,hu⟩|⟨i,hil,rfl,hk,hu⟩|⟨hk,hu⟩
 ·rw[hk] at HK
  have iL:c.cN (i:Int):=⟨by omega,by omega⟩
  have HV:Hid (c.gO (i:Int)=(c.bq i).tick i):=ae (by unfold aq.gO;rw[if_pos iL])
  obtain⟨g1,cap,hv,hgl,hcell⟩:=h.v_ hil;cases hv;obtain⟨um,ul,hR, -⟩:=h.rr' hil;have hf:=pH.of (own:=i) (hg.nodes.R i iL) hn hg.nodes.jM;have HT:=ae (SR (br i) (c.bq i) um ul (i:Int) w hR.ka hf.ml hf.nd hf.pos hf.Fz hf.cm);have hi1:(i:Int)<(c.aD.length:Int):=by omega
  have hi0:(0:Int)<=(i:Int):=by omega
  clear h hk hu hR hf;go_enter func137,ntmps137;go_wp2_with fail;refine HK.out.mono ?_
  rintro e W ⟨rfl,rfl⟩;go_wp2_with fail;refine HT.out.mono ?_
  rintro e W2 ⟨v,rfl,hm,hb⟩;obtain⟨a9,c9,dz⟩:=hm.shape;subst dz;have HM:=ae (aP hm hb);clear hm hb;go_wp2_with fail;go_ret;rw[HV.out];exact⟨_,rfl,HM.out.1,HM.out.2⟩
 ·rw[hk] at HK
  have HV:Hid (c.gO (100+(i:Int))=[]):=ae (by unfold aq.gO;rw[if_neg (fun e=>by have:=e.2;omega),if_neg (fun e=>by have:=e.1;omega)])
  clear h hk hu;go_enter func137,ntmps137;go_wp2_with fail;refine HK.out.mono ?_
  rintro e W ⟨rfl,rfl⟩;go_wp2_with fail;go_ret;rw[HV.out];exact⟨_,rfl,a_.nil _ _,ax _ _⟩
 ·rw[hk] at HK
  have hms:b8 (200+(i:Int)):=by unfold b8;omega
  have HV:Hid (c.gO (200+(i:Int))=(c.aX (200+(i:Int))).asks (200+(i:Int))):=ae (by unfold aq.gO;rw[if_neg (fun e=>by have:=e.2;omega),if_pos hms])
  obtain⟨g1,cap,hv,hgl,hcell⟩:=h.tE hil;subst hv;have hS:=hg.nodes.S _ hms;have HT:=ae (Bv (bm i) (vc i) (c.aX (200+(i:Int))) F (200+(i:Int)) w (h.dH i hil) hS.does (hS.oW hn) (hS.kP hn));have hi1:(i:Int)<2:=by omega
  have hi0:(0:Int)<=(i:Int):=by omega
  clear h hk hu hS;go_enter func137,ntmps137;go_wp2_with fail;refine HK.out.mono ?_
  rintro e W ⟨rfl,rfl⟩;go_wp2_with fail;refine HT.out.mono ?_
  rintro e W2 ⟨v,rfl,hm,hb⟩;obtain⟨a9,c9,dz⟩:=hm.shape;subst dz;have HM:=ae (aP hm hb);clear hm hb;go_wp2_with fail;go_ret;rw[HV.out];exact⟨_,rfl,HM.out.1,HM.out.2⟩
 ·rw[hk] at HK
  have HV:Hid (c.gO d=[]):=ae (by
   unfold aq.gO;unfold aq.cO at hu;split at hu
   ·cases hu
   ·rename_i h1
    rw[if_neg h1];split at hu
    ·cases hu
    ·split at hu
     ·cases hu
     ·rename_i h2
      rw[if_neg h2])
  clear h hk hu;go_enter func137,ntmps137;go_wp2_with fail;refine HK.out.mono ?_
  rintro e W ⟨rfl,rfl⟩;go_wp2_with fail;go_ret;rw[HV.out];exact⟨_,rfl,a_.nil _ _,ax _ _⟩
theorem S3 (m:aK)(a1:Option Addr)(d1:Nat)(a2:Option Addr)(d2:Nat)(h:cK w F y c)(hg:Good c E g)(hwf:cU c.aD.length E m)(hup:c.cO m.dst=some true)(iL:c.cN m.dst)(hms:bd w (.slice a1 m.af.length d1) m.af)(bR:bw w (.slice a2 m.log.length d2) m.log)(_hF1:bA F (.slice a1 m.af.length d1))(_hF2:bA F (.slice a2 m.log.length d2)) :
  Calls prog 141 #[y,.agg #[m.kind,m.src,m.dst,m.ah,m.ak,m.aO,m.pos,m.value,.slice a1 m.af.length d1,.slice a2 m.log.length d2]] w fun e w'=>∃ v,e=.returned v/\a_ w' w.heap.size v (c.takes m).2/\bH w F y (c.takes m).1 w':=by
 have hn:=hg.nodes.n5;obtain⟨B,hB,bz,bf⟩:=dk w m (.slice a1 m.af.length d1) (.slice a2 m.log.length d2);have gM:=fun j=>aj bf j;have k2:=au bf 2;have hdi : -9223372036854775808<=m.dst/\m.dst<=9223372036854775807:=by have:=hwf.dst;omega
 have HU:=ae (sW m.dst (h.below bz) hn hdi);rw[hup] at HU;obtain⟨br,ba,bm,vr,va,vm,vb,vt,vv,vc,hI⟩:=h;have h1a:=iL.1;have h1b:=iL.2;obtain⟨i,hd⟩:∃ i:Nat,m.dst=(i:Int):=⟨m.dst.toNat,by omega⟩
 have hil:i<c.aD.length:=by omega
 have HV:Hid (c.takes m=(c.fJ i ((c.bq i).take i m).1,((c.bq i).take i m).2)):=ae (by unfold aq.takes;rw[if_pos hup,if_pos iL,hd])
 obtain⟨um,ul,hR,sE,Az,qf⟩:=hI.rr' hil;have pj:=hg.nodes.R i (hd ▸ iL);have hE:=hg.nodes.jM;have hf:=pH.of (own:=i) pj hn hE;obtain⟨g1,cap,hv,hgl,hcell⟩:=hI.v_ hil;subst hv;have c0:B.cell? (y,0)=some (.slice (some g1) c.aD.length cap):=aF bz (aj hI.blk 0);have cg:=aF bz hcell;have hkk:cE c.aD.length m.dst=(1,(i:Int)):=by unfold cE;rw[if_pos ⟨iL.1,iL.2⟩,hd]
 have HK:Hid (∀ q,Calls prog 133 #[y,m.dst] (B.drewN q) fun e w'=>e=.returned (.tuple #[.int .i64 1,.int .i64 (i:Int)])/\w'=B.drewN q):=ae fun q=>by
  have:=mB y c.aD.length _ cap m.dst (B.drewN q) c0 hn hdi;rw[hkk] at this;exact this
 have HT2:Hid (∀ q W,W=(B.drewN q).drew->Calls prog 172 #[.pointer (some ⟨br i,0,none⟩),.int .i64 (i:Int),.agg #[m.kind,m.src,m.dst,m.ah,m.ak,m.aO,m.pos,m.value,.slice a1 m.af.length d1,.slice a2 m.log.length d2]] W fun e w'=>∃ v,e=.returned v/\a_ w' w.heap.size v ((c.bq i).take i m).2/\bH w F y (c.fJ i ((c.bq i).take i m).1) w'):=ae fun q W hW=>by
  subst hW;have hbd:ai w (B.drewN q).drew:=(aV bz q).drew;refine (S0 (br i) (c.bq i) um ul (i:Int) m a1 d1 a2 d2 _ (hR.below hbd) hf hwf hn (by have:=pj.ah;omega) (aS hms fun z _ hz=>hbd.block z hz) (aS bR fun z _ hz=>hbd.block z hz)).mono ?_
  intro e w' hq;obtain⟨v,xS,xR,rfl,q1,q2,q3,q4,q5⟩:=dJ.before hbd hq;exact⟨v,rfl,q2,hI.F_ hil Az qf q1 q3 q4 q5 sE⟩
 have hi1:(i:Int)<(c.aD.length:Int):=by omega
 have hi0:(0:Int)<=(i:Int):=by omega
 clear hI bf hkk hR hf hcell bR hd hup iL hms _hF1 _hF2 pj;go_enter func141,ntmps141;go_wp2_with fail;refine HU.out.mono ?_
 rintro e W ⟨rfl,q,rfl⟩;go_wp2_with fail;refine (HK.out q).mono ?_
 rintro e W ⟨rfl,rfl⟩;go_wp2_with fail;go_region_law (first|(rw[if_pos (by simp[Region.wanted])];go_simp;go_at_call 172;refine (HT2.out q _ rfl).mono ?_;rintro e W ⟨v,rfl,hm,hC⟩;obtain⟨a9,c9,dz⟩:=hm.shape;subst dz;have HM:=ae (aP hm hC);clear hm hC))
 all_goals (
  go_wp2_with fail;go_ret;rw[HV.out];exact⟨_,rfl,HM.out.1,HM.out.2⟩)
theorem SZ (m:aK)(a1:Option Addr)(d1:Nat)(a2:Option Addr)(d2:Nat)(h:cK w F y c)(hg:Good c E g)(hwf:cU c.aD.length E m)(hup:c.cO m.dst=some true)(iL:dC m.dst)(hms:bd w (.slice a1 m.af.length d1) m.af)(bR:bw w (.slice a2 m.log.length d2) m.log)(hF1:bA F (.slice a1 m.af.length d1))(hF2:bA F (.slice a2 m.log.length d2)) :
  Calls prog 141 #[y,.agg #[m.kind,m.src,m.dst,m.ah,m.ak,m.aO,m.pos,m.value,.slice a1 m.af.length d1,.slice a2 m.log.length d2]] w fun e w'=>∃ v,e=.returned v/\a_ w' w.heap.size v (c.takes m).2/\bH w F y (c.takes m).1 w':=by
 have hn:=hg.nodes.n5;obtain⟨B,hB,bz,bf⟩:=dk w m (.slice a1 m.af.length d1) (.slice a2 m.log.length d2);have gM:=fun j=>aj bf j;have k2:=au bf 2;have hdi : -9223372036854775808<=m.dst/\m.dst<=9223372036854775807:=by have:=hwf.dst;omega
 have HU:=ae (sW m.dst (h.below bz) hn hdi);rw[hup] at HU;obtain⟨br,ba,bm,vr,va,vm,vb,vt,vv,vc,hI⟩:=h;have h1a:=iL.1;have h1b:=iL.2;obtain⟨i,hd⟩:∃ i:Nat,m.dst=100+(i:Int):=⟨(m.dst-100).toNat,by omega⟩
 have hil:i<3:=by omega
 have hnr:¬ c.cN m.dst:=fun e=>by have:=e.2;omega
 have HV:Hid (c.takes m=(c.iu (100+(i:Int)) ((c.acc (100+(i:Int))).take m).1,((c.acc (100+(i:Int))).take m).2)):=ae (by unfold aq.takes;rw[if_pos hup,if_neg hnr,if_pos iL,hd])
 have pj:=hg.nodes.A (100+(i:Int)) (hd ▸ iL);have hE:=hg.nodes.jM;obtain⟨g1,cap,hv,hgl,hcell⟩:=hI.yV hil;obtain⟨ar,cr,dp⟩:=aM hI.rr;subst dp;subst hv;have c0:B.cell? (y,0)=some (.slice ar c.aD.length cr):=aF bz (aj hI.blk 0);have c1:B.cell? (y,1)=some (.slice (some g1) 3 cap):=aF bz (aj hI.blk 1);have cg:=aF bz hcell;have hkk:cE c.aD.length m.dst=(2,(i:Int)):=by unfold cE;rw[if_neg (fun e=>hnr ⟨e.1,e.2⟩),if_pos ⟨h1a,h1b⟩,hd];congr 1;omega
 have HK:Hid (∀ q,Calls prog 133 #[y,m.dst] (B.drewN q) fun e w'=>e=.returned (.tuple #[.int .i64 2,.int .i64 (i:Int)])/\w'=B.drewN q):=ae fun q=>by
  have:=mB y c.aD.length _ cr m.dst (B.drewN q) c0 hn hdi;rw[hkk] at this;exact this
 have HT2:Hid (∀ W,ai w W->Calls prog 173 #[.pointer (some ⟨ba i,0,none⟩),.agg #[m.kind,m.src,m.dst,m.ah,m.ak,m.aO,m.pos,m.value,.slice a1 m.af.length d1,.slice a2 m.log.length d2]] W fun e w'=>∃ v,e=.returned v/\a_ w' w.heap.size v ((c.acc (100+(i:Int))).take m).2/\bH w F y (c.iu (100+(i:Int)) ((c.acc (100+(i:Int))).take m).1) w'):=ae fun W hbd=>by
  refine (Sr (ba i) (vv i) (c.acc (100+(i:Int))) F m a1 d1 a2 d2 W ((hI.di i hil).below hbd) (aS hms fun z _ hz=>hbd.block z hz) (aS bR fun z _ hz=>hbd.block z hz) hF1 hF2 pj hwf hn hE).mono ?_
  intro e w' hq;exact hI.RH hil (hq.before hbd)
 have hi1:(i:Int)<3:=by omega
 have hi0:(0:Int)<=(i:Int):=by omega
 clear hI bf hkk hcell bR hd hup iL hms hF1 hF2 pj hnr;go_enter func141,ntmps141;go_wp2_with fail;refine HU.out.mono ?_
 rintro e W ⟨rfl,q,rfl⟩;go_wp2_with fail;refine (HK.out q).mono ?_
 rintro e W ⟨rfl,rfl⟩;go_wp2_with fail;go_region_law (first|(rw[if_pos (by simp[Region.wanted])];go_simp;go_at_call 173;refine (HT2.out _ (aV bz q).drew).mono ?_;rintro e W ⟨v,rfl,hm,hC⟩;obtain⟨a9,c9,dz⟩:=hm.shape;subst dz;have HM:=ae (aP hm hC);clear hm hC))
 all_goals (
  go_wp2_with fail;go_ret;rw[HV.out];exact⟨_,rfl,HM.out.1,HM.out.2⟩)
theorem S1 (m:aK)(a1:Option Addr)(d1:Nat)(a2:Option Addr)(d2:Nat)(h:cK w F y c)(hg:Good c E g)(hwf:cU c.aD.length E m)(hup:c.cO m.dst=some true)(iL:b8 m.dst)(hms:bd w (.slice a1 m.af.length d1) m.af)(bR:bw w (.slice a2 m.log.length d2) m.log)(hF1:bA F (.slice a1 m.af.length d1))(hF2:bA F (.slice a2 m.log.length d2)) :
  Calls prog 141 #[y,.agg #[m.kind,m.src,m.dst,m.ah,m.ak,m.aO,m.pos,m.value,.slice a1 m.af.length d1,.slice a2 m.log.length d2]] w fun e w'=>∃ v,e=.returned v/\a_ w' w.heap.size v (c.takes m).2/\bH w F y (c.takes m).1 w':=by
 have hn:=hg.nodes.n5;obtain⟨B,hB,bz,bf⟩:=dk w m (.slice a1 m.af.length d1) (.slice a2 m.log.length d2);have gM:=fun j=>aj bf j;have k2:=au bf 2;have hdi : -9223372036854775808<=m.dst/\m.dst<=9223372036854775807:=by have:=hwf.dst;omega
 have HU:=ae (sW m.dst (h.below bz) hn hdi);rw[hup] at HU;obtain⟨br,ba,bm,vr,va,vm,vb,vt,vv,vc,hI⟩:=h;have h1a:=iL.1;have h1b:=iL.2;obtain⟨i,hd⟩:∃ i:Nat,m.dst=200+(i:Int):=⟨(m.dst-200).toNat,by omega⟩
 have hil:i<2:=by omega
 have hnr:¬ c.cN m.dst:=fun e=>by have:=e.2;omega
 have HV:Hid (c.takes m=(c.ej (200+(i:Int)) ((c.aX (200+(i:Int))).take m).1,((c.aX (200+(i:Int))).take m).2)):=ae (by unfold aq.takes;rw[if_pos hup,if_neg hnr,if_neg (fun e=>by have:=e.2;omega),hd])
 have pj:=hg.nodes.S (200+(i:Int)) (hd ▸ iL);have hE:=hg.nodes.jM;obtain⟨g1,cap,hv,hgl,hcell⟩:=hI.tE hil;obtain⟨ar,cr,dp⟩:=aM hI.rr;subst dp;subst hv;have c0:B.cell? (y,0)=some (.slice ar c.aD.length cr):=aF bz (aj hI.blk 0);have c1:B.cell? (y,2)=some (.slice (some g1) 2 cap):=aF bz (aj hI.blk 2);have cg:=aF bz hcell;have hkk:cE c.aD.length m.dst=(3,(i:Int)):=by unfold cE;rw[if_neg (fun e=>hnr ⟨e.1,e.2⟩),if_neg (fun e=>by have:=e.2;omega),if_pos (by omega),hd];congr 1;omega
 have HK:Hid (∀ q,Calls prog 133 #[y,m.dst] (B.drewN q) fun e w'=>e=.returned (.tuple #[.int .i64 3,.int .i64 (i:Int)])/\w'=B.drewN q):=ae fun q=>by
  have:=mB y c.aD.length _ cr m.dst (B.drewN q) c0 hn hdi;rw[hkk] at this;exact this
 have HT2:Hid (∀ W,ai w W->Calls prog 174 #[.pointer (some ⟨bm i,0,none⟩),.agg #[m.kind,m.src,m.dst,m.ah,m.ak,m.aO,m.pos,m.value,.slice a1 m.af.length d1,.slice a2 m.log.length d2]] W fun e w'=>∃ v,e=.returned v/\a_ w' w.heap.size v ((c.aX (200+(i:Int))).take m).2/\bH w F y (c.ej (200+(i:Int)) ((c.aX (200+(i:Int))).take m).1) w'):=ae fun W hbd=>by
  refine (SN (bm i) (vc i) (c.aX (200+(i:Int))) F m a1 d1 a2 d2 W ((hI.dH i hil).below hbd) (aS hms fun z _ hz=>hbd.block z hz) (aS bR fun z _ hz=>hbd.block z hz) hF1 hF2 pj hwf hn hE).mono ?_
  intro e w' hq;exact hI.RI hil (hq.before hbd)
 have hi1:(i:Int)<2:=by omega
 have hi0:(0:Int)<=(i:Int):=by omega
 clear hI bf hkk hcell bR hd hup iL hms hF1 hF2 pj hnr;go_enter func141,ntmps141;go_wp2_with fail;refine HU.out.mono ?_
 rintro e W ⟨rfl,q,rfl⟩;go_wp2_with fail;refine (HK.out q).mono ?_
 rintro e W ⟨rfl,rfl⟩;go_wp2_with fail;go_region_law (first|(rw[if_pos (by simp[Region.wanted])];go_simp;go_at_call 174;refine (HT2.out _ (aV bz q).drew).mono ?_;rintro e W ⟨v,rfl,hm,hC⟩;obtain⟨a9,c9,dz⟩:=hm.shape;subst dz;have HM:=ae (aP hm hC);clear hm hC))
 all_goals (
  go_wp2_with fail;go_ret;rw[HV.out];exact⟨_,rfl,HM.out.1,HM.out.2⟩)
theorem SY (m:aK)(a1:Option Addr)(d1:Nat)(a2:Option Addr)(d2:Nat)(h:cK w F y c)(hg:Good c E g)(hwf:cU c.aD.length E m)(hms:bd w (.slice a1 m.af.length d1) m.af)(bR:bw w (.slice a2 m.log.length d2) m.log)(hF1:bA F (.slice a1 m.af.length d1))(hF2:bA F (.slice a2 m.log.length d2)) :
  Calls prog 141 #[y,.agg #[m.kind,m.src,m.dst,m.ah,m.ak,m.aO,m.pos,m.value,.slice a1 m.af.length d1,.slice a2 m.log.length d2]] w fun e w'=>∃ v,e=.returned v/\a_ w' w.heap.size v (c.takes m).2/\bH w F y (c.takes m).1 w':=by
 have hn:=hg.nodes.n5;by_cases hup:c.cO m.dst=some true
 ·by_cases h1:c.cN m.dst
  ·exact S3 m a1 d1 a2 d2 h hg hwf hup h1 hms bR hF1 hF2
  by_cases h2:dC m.dst
  ·exact SZ m a1 d1 a2 d2 h hg hwf hup h2 hms bR hF1 hF2
  by_cases h3:b8 m.dst
  ·exact S1 m a1 d1 a2 d2 h hg hwf hup h3 hms bR hF1 hF2
  unfold aq.cO at hup;rw[if_neg h1,if_neg h2,if_neg h3] at hup;cases hup
 ·have HA:=ae h
  obtain⟨B,hB,bz,bf⟩:=dk w m (.slice a1 m.af.length d1) (.slice a2 m.log.length d2);have gM:=fun j=>aj bf j;have k2:=au bf 2;have hdi : -9223372036854775808<=m.dst/\m.dst<=9223372036854775807:=by have:=hwf.dst;omega
  have HU:=ae (sW m.dst (h.below bz) hn hdi);have HV:Hid (c.takes m=(c,[])):=ae (by unfold aq.takes;rw[if_neg hup])
  have hu2:(c.cO m.dst).getD false=false:=by
   cases e:c.cO m.dst with
   | none=>rfl
   | some b =>
    cases b with
    | false=>rfl
    | true=>exact absurd e hup
  rw[hu2] at HU;generalize (c.cO m.dst).isSome=is at *;clear h bf hup hu2 bR hms hF1 hF2;go_enter func141,ntmps141;go_wp2_with fail;refine HU.out.mono ?_
  rintro e W ⟨rfl,q,rfl⟩;go_wp2_with fail;go_ret;rw[HV.out];exact⟨_,rfl,a_.nil _ _,bH.still HA.out (aV bz q)⟩
theorem S6 (d:Int)(h:cK w F y c)(hg:Good c E g)(hi : -9223372036854775808<=d/\d<=9223372036854775807) :
  Calls prog 83 #[y,.int .i64 d] w fun r w'=>r=.returned (.int .i64 (c.tick d).2)/\bH w F y (c.tick d).1 w':=by
 have HA:=ae h;have HU:=ae (sW d h hg.nodes.n5 hi);have mE:Hid (c.tick d=match c.cO d with|none=>(c,4)|some false=>(c,5)|some true=>(c.send (c.gO d),0)):=ae rfl
 cases hu:c.cO d with
 | none =>
  have HV:Hid (c.tick d=(c,4)):=ae (by rw[mE.out,hu])
  rw[hu] at HU;clear h hu;go_enter func83,ntmps83;go_wp2_with fail;refine HU.out.mono ?_
  rintro e W ⟨rfl,q,rfl⟩;go_wp2_with fail;go_ret;rw[HV.out];exact⟨rfl,bH.still HA.out (aV (ax _ _) q)⟩
 | some b =>
  cases b with
  | false =>
   have HV:Hid (c.tick d=(c,5)):=ae (by rw[mE.out,hu])
   rw[hu] at HU;clear h hu;go_enter func83,ntmps83;go_wp2_with fail;refine HU.out.mono ?_
   rintro e W ⟨rfl,q,rfl⟩;go_wp2_with fail;go_ret;rw[HV.out];exact⟨rfl,bH.still HA.out (aV (ax _ _) q)⟩
  | true =>
   have HV:Hid (c.tick d=(c.send (c.gO d),0)):=ae (by rw[mE.out,hu])
   have hok:Hid (∀ m∈c.gO d,m.ok=true):=ae fun m hm=>(hg.nodes.gO d m hm).1.ok hg.nodes.n5 hg.nodes.jM;have hlen:Hid ((c.gO d).length<=100):=ae (by
    have hu2:=lQ c d;rw[hu] at hu2;cases hp:dD c.aD.length d with
    | none=>rw[hp] at hu2;cases hu2
    | some j =>
     rw[BU hp];have:=F3 (rH hg j (mW hp));rw[my hp] at this;exact this)
   rw[hu] at HU;have HT:Hid (∀ q,Calls prog 137 #[y,.int .i64 d] (w.drewN q) fun e w'=>∃ v,e=.returned v/\a_ w' w.heap.size v (c.gO d)/\ai w w'):=ae fun q=>by
    refine (S7 d (h.below (aV (ax _ _) q)) hg hi).mono ?_
    rintro e w' ⟨v,rfl,h1,h2⟩;exact⟨v,rfl,h1,(aV (ax w.heap.size w) q).trans h2⟩
   have HS:Hid (∀ W v,ai w W->a_ W w.heap.size v (c.gO d)->Calls prog 135 #[y,v] W fun e w'=>(∃ v,e=.returned v)/\bH w F y (c.send (c.gO d)) w'):=ae fun W v hb hm=>by
    refine (xG _ v _ (HA.out.below hb) hg.aE hm hok.out (by have:=hlen.out;omega)).mono ?_
    rintro e w' ⟨h1,h2⟩;exact⟨h1,bH.before HA.out hb h2.after⟩
   clear h hu;go_enter func83,ntmps83;go_wp2_with fail;refine HU.out.mono ?_
   rintro e W ⟨rfl,q,rfl⟩;go_wp2_with fail;refine (HT.out q).mono ?_
   rintro e W ⟨v,rfl,hm,hb⟩;obtain⟨a9,c9,dz⟩:=hm.shape;subst dz;have HM:=ae (aP hm hb);clear hm hb;go_wp2_with fail;refine (HS.out _ _ HM.out.2 HM.out.1).mono ?_
   rintro e W2 ⟨⟨v2,rfl⟩,hC⟩;have HC:=ae hC;clear hC;go_wp2_with fail;go_ret;rw[HV.out];exact⟨rfl,HC.out⟩
theorem Good.told' (h:Good c E g)(m:aK):Good (c.tell m) E g:=by
 have ht:gi (c.tell m) E g:=by unfold aq.tell;split;exact h.nodes.aE _ _;exact h.nodes
 have hst:ey (c.tell m)=ey c:=by unfold aq.tell;split<;>rfl
 have hrl:(c.tell m).aD=c.aD:=by unfold aq.tell;split<;>rfl
 have hbg:(c.tell m).aE=c.aE:=by unfold aq.tell;split<;>rfl
 refine⟨ht,by rw[hbg];exact h.aE,fun f hf => ?_⟩
 rw[hbg] at hf;obtain⟨m0,h1,h2⟩:=h.frames f hf;exact⟨m0,by unfold iw;rw[hst,hrl];exact h1,h2⟩
theorem Uo (hg:Good c E g){m:aK}(hs:iw c E g m):(∀ z∈(c.takes m).2,z.ok=true)/\(c.takes m).2.length<=100/\(c.takes m).1.aE=c.aE:=by
 have hb:(c.takes m).1.aE=c.aE:=by
  unfold aq.takes;split
  ·split
   ·rfl
   ·split<;>rfl
  ·rfl
 obtain⟨E',g',hl,ho⟩:=hg.nodes.takes hs;refine⟨fun z hz=>(ho z hz).1.ok hl.nodes.n5 hl.nodes.jM, ?_,hb⟩
 by_cases hup:c.cO m.dst=some true
 ·have hu2:=lQ c m.dst
  rw[hup] at hu2;cases hp:dD c.aD.length m.dst with
  | none=>rw[hp] at hu2;cases hu2
  | some j =>
   rw[hp] at hu2;have hu3:(c.bj j).up=true:=by simpa using hu2.symm
   have hj:=mW hp;rw[BS hp hu3] at hl |-;have hk:=rH hg j hj;rw[my hp] at hk;refine F0 hk fun s hsm=>⟨E', ?_⟩
   rcases oJ hp with ⟨_,h2,_⟩|⟨_,_,h3,_⟩|⟨h1,h2,h3,h4,h5⟩
   ·rw[h2] at hsm;cases hsm
   ·rw[h3] at hsm;cases hsm
   ·have hS:=hl.nodes.S m.dst h3
    rw[h4] at hsm;cases hsm;rw[h4] at hS;simp only [bT.take] at hS;rw[h5,sO hg.nodes.m2 h3 h3,if_pos rfl] at hS;exact hS
 ·unfold aq.takes
  rw[if_neg hup];simp
theorem SG (d:Int)(h:cK w F y c)(hg:Good c E g)(ht:c.told.length<=2999999999999) :
  Calls prog 84 #[y,.int .i64 d] w fun r w'=>r=.returned (.int .i64 (c.gI d).2)/\bH w F y (c.gI d).1 w':=by
 have HA:=ae h;have jP:Hid (∀ k,F k->k<w.heap.size):=ae fun k e=>h.lt' e;obtain⟨br,ba,bm,vr,va,vm,vb,vt,vv,vc,h⟩:=h;obtain⟨ab,cb,rfl⟩:=aM h.aE;have c3:=au h.blk 3;by_cases hh:c.kT d
 ·have EL:=hh.1
  have EM:=hh.2;have hfm:=wA hh;have hfl:=D6 hg hfm;have EU:∀ m,lN (c.dX d).1=some m->iw c E g m:=fun m hm=>hg.msg hfm hm;have Co:Hid (c.gI d=match lN (c.dX d).1 with|none=>(c.gone d,0)|some m=>((c.gone d).kO m,0)):=ae (by unfold aq.gI;rw[if_pos hh];cases lN (c.dX d).1<;>rfl)
  obtain⟨k,rfl⟩:∃ k:Nat,d=(k:Int):=⟨d.toNat,by omega⟩
  have hkl:k<c.aE.length:=by omega
  obtain⟨g1,cap,hv, -, -⟩:=h.aE.form (by omega)
  cases hv;have hf:c.aE[k]?=some (c.dX (k:Int)):=by
   unfold aq.dX;rw[Int.toNat_natCast,ew,bU hkl];rfl
  have f0:=ev h.aE (k*2) (by omega)
  rw[(zu c.aE k _ hf).1] at f0;have HG:=ae (GG k HA.out hg.aE hkl);have hg2:=hg.gone (k:Int);have HD:Hid (∀ W,Calls prog 139 #[.string (bs (c.dX (k:Int)).1)] W fun e w'=>ai W w'/\∃ mem log,e=.returned ((cH (c.dX (k:Int)).1).value mem log)/\w'.ownsRow (W.heap.size+1) 3 1 mem (cH (c.dX (k:Int)).1).ms.length (aJ (cH (c.dX (k:Int)).1).ms)/\w'.ownsRow (W.heap.size+1) 42 5 log (cH (c.dX (k:Int)).1).es.length (aJ (bk (cH (c.dX (k:Int)).1).es))):=ae fun W=>SD (c.dX (k:Int)).1 W (by omega)
  have hmo:=FV (c.dX (k:Int)).1;have CD:Hid (∀ mem log,(cH (c.dX (k:Int)).1).value mem log=.tuple #[bL (o_ (c.dX (k:Int)).1) mem log,.int .i64 (cH (c.dX (k:Int)).1).err]/\(cH (c.dX (k:Int)).1).ms=(o_ (c.dX (k:Int)).1).af/\(cH (c.dX (k:Int)).1).es=(o_ (c.dX (k:Int)).1).log):=ae fun mem log=>⟨rfl,rfl,rfl⟩;generalize o_ (c.dX (k:Int)).1=m at *;generalize (cH (c.dX (k:Int)).1).err=er at *;have hrep:(c.gone (k:Int)).aD=c.aD:=rfl;have hbg:(c.gone (k:Int)).aE.length<=200:=hg2.aE;generalize (c.dX (k:Int)).1=L at *;have h3:¬ (k:Int)<0:=by omega
  have h5:(0:Int)<=(k:Int):=by omega
  clear hh h hf;go_enter func84,ntmps84;go_wp2_with fail;refine HG.out.mono ?_
  rintro e W ⟨⟨v,rfl⟩,hC⟩;have HC:=ae hC;clear hC f0 c3;go_wp2_with fail;refine (HD.out W).mono ?_
  rintro e Y ⟨bt,mem,log,rfl,o1,o2⟩;obtain⟨z1,z2,z3⟩:=CD.out mem log;rw[z2] at o1;rw[z3] at o2;rw[z1];clear z1 z2 z3;obtain⟨a1,d1,rfl⟩:=aM o1;obtain⟨a2,d2,rfl⟩:=aM o2;have HO:=ae (aP o1 o2);clear o1 o2 HD CD;unfold bL;go_upto_region 6 with fail
  obtain⟨X,hX,rh,hM⟩:=dk Y m (.slice a1 m.af.length d1) (.slice a2 m.log.length d2);rw[hX];clear hX;have hbX:=bt.trans (rh.mono bt.size);have gM:=fun j=>aj hM j;have HM:=ae hM;have Jc:=ae (HC.out.1.below hbX);clear hM;cases her:(er == 0) with
  | false =>
   have N0:Hid (¬ er=0):=ae (by simpa using her)
   have H:Hid (c.gI (k:Int)=(c.gone (k:Int),0)):=ae (by rw[Co.out,hmo,if_neg N0.out])
   go_wp2_with fail;go_ret;rw[H.out];exact⟨rfl,bH.trans jP.out HC.out.2.1 (bH.still HC.out.1 hbX)⟩
  | true =>
   have P0:er=0:=by simpa using her
   subst P0;rw[if_pos rfl] at hmo;have mU:=EU m hmo;have hwf:=mU.1;have H:Hid (c.gI (k:Int)=((c.gone (k:Int)).kO m,0)):=ae (by rw[Co.out,hmo])
   have hg1:=hg2.told' m;obtain⟨c1,hc1⟩:∃ c1,c1=(c.gone (k:Int)).tell m:=⟨_,rfl⟩;have hr1:c1.aD=c.aD:=by rw[hc1];unfold aq.tell;split<;>rfl
   have E_:ey c1=ey c:=by rw[hc1];unfold aq.tell;split<;>rfl
   have hs1:iw c1 E g m:=by unfold iw;rw[E_,hr1];exact mU
   have harr:(c.gone (k:Int)).kO m=(c1.takes m).1.send (c1.takes m).2:=by rw[hc1];rfl
   rw[<- hc1] at hg1;rw[harr] at H;have km:Hid (Calls prog 140 #[y,.agg #[m.kind,m.src,m.dst,m.ah,m.ak,m.aO,m.pos,m.value,.slice a1 m.af.length d1,.slice a2 m.log.length d2]] X fun r w'=>(∃ v,r=.returned v)/\eO X (Gr F w W) y c1 w'):=ae (by rw[hc1];exact S8 m a1 d1 a2 d2 Jc.out ht)
   have hfit:=Uo hg1 hs1;have yH:Hid (∀ k,Gr F w W k->k<W.heap.size):=ae (Gr.lt jP.out HC.out.2.1.size);have ud:=hbX.size;have hYs:=bt.size;have HK:Hid (∀ X2,eO X (Gr F w W) y c1 X2->(∀ j,X2.cell? ⟨Y.heap.size,j,none⟩=(#[.int .i64 m.kind,.int .i64 m.src,.int .i64 m.dst,.int .i64 m.ah,.int .i64 m.ak,.int .i64 m.aO,.int .i64 m.pos,.int .i64 m.value,.slice a1 m.af.length d1,.slice a2 m.log.length d2]:Array Value)[j]?)/\X2.ownsRow (W.heap.size+1) 3 1 (.slice a1 m.af.length d1) m.af.length (aJ m.af)/\X2.ownsRow (W.heap.size+1) 42 5 (.slice a2 m.log.length d2) m.log.length (aJ (bk m.log))/\bH W (Gr F w W) y c1 X2):=ae fun X2 hO=>by
    have key:∀ z,W.heap.size<=z->z<X.heap.size->X2.heap[z]?=X.heap[z]?:=fun z h1 h2=>hO.2.1.block z h2 (fun e=>by have:=yH.out z e;omega)
    have h0:=aS HO.out.1 (w':=X) fun z _ hz=>rh.block z hz;have h1:=aS HO.out.2 (w':=X) fun z _ hz=>rh.block z hz;exact⟨fun j=>aj ((key _ hYs (aQ HM.out)).trans HM.out) j,cG h0 fun z e=>key z (by have:=(h0.lt z e).1;omega) (dL.1 (bK h0 e).choose_spec.1).1,cG h1 fun z e=>key z (by have:=(h1.lt z e).1;omega) (dL.1 (bK h1 e).choose_spec.1).1,bH.before HC.out.1 hbX hO.after⟩
   have mE:Hid (∀ X2,eO X (Gr F w W) y c1 X2->Calls prog 141 #[y,.agg #[m.kind,m.src,m.dst,m.ah,m.ak,m.aO,m.pos,m.value,.slice a1 m.af.length d1,.slice a2 m.log.length d2]] X2 fun e w'=>∃ v,e=.returned v/\a_ w' X2.heap.size v (c1.takes m).2/\bH W (Gr F w W) y (c1.takes m).1 w'):=ae fun X2 hO=>by
    obtain⟨-,q1,q2,q3⟩:=HK.out X2 hO;refine (SY m a1 d1 a2 d2 q3.1 hg1 (by rw[hr1];exact hwf) (obs q1 (bl _)) (obs q2 (bl _)) (bA.new q1 (Nat.le_succ _)) (bA.new q2 (Nat.le_succ _))).mono ?_
    rintro e w' ⟨v,rfl,h1,h2⟩;exact⟨v,rfl,h1,bH.trans yH.out q3.2 h2⟩
   have sf:Hid (∀ X3 v base,a_ X3 base v (c1.takes m).2->bH W (Gr F w W) y (c1.takes m).1 X3->Calls prog 135 #[y,v] X3 fun e w'=>(∃ v,e=.returned v)/\bH w F y ((c1.takes m).1.send (c1.takes m).2) w'):=ae fun X3 v base hm hR=>by
    refine (xG base v _ hR.1 (by rw[hfit.2.2];exact hg1.aE) hm hfit.1 (by have:=hfit.2.1;omega)).mono ?_
    rintro e w' ⟨h1,h2⟩;exact⟨h1,bH.trans jP.out HC.out.2.1 (bH.trans yH.out hR.2 h2.after)⟩
   clear hfit hg1 hs1 harr hc1 hr1 E_ mU hwf EU;go_wp2_with fail;refine km.out.mono ?_
   rintro e X2 ⟨⟨v2,rfl⟩,hO⟩;have IU:=ae hO;have gN:=(HK.out X2 hO).1;clear hO gM;go_wp2_with fail;refine (mE.out X2 IU.out).mono ?_
   rintro e X3 ⟨v3,rfl,jB,oy⟩;obtain⟨a9,c9,dz⟩:=jB.shape;subst dz;have H3:=ae (aP jB oy);clear jB oy gN;go_wp2_with fail;refine (sf.out X3 _ _ H3.out.1 H3.out.2).mono ?_
   rintro e X4 ⟨⟨v4,rfl⟩,En⟩;have H4:=ae En;clear En;go_wp2_with fail;go_ret;rw[H.out];exact⟨rfl,H4.out⟩
 ·have H:Hid (c.gI d=(c,8)):=ae (by unfold aq.gI;rw[if_neg hh])
  by_cases h3:d<0
  ·clear hh h
   go_enter func84,ntmps84;go_wp2_with fail;go_ret;rw[H.out];exact⟨rfl,bH.still HA.out (ax _ _)⟩
  ·have h4:(c.aE.length:Int)<=d:=by
    unfold aq.kT at hh;omega
   clear hh h;go_enter func84,ntmps84;go_wp2_with fail;go_ret;rw[H.out];exact⟨rfl,bH.still HA.out (ax _ _)⟩
theorem kM.stepped {b:Bk}{qs:List Pr}{p':Pr}{vC vI vL vT vA:Value}(h:kM w0 w B x5 M b (ps++p :: qs) vC vI vL vT vA)(hq:p'.q=p.q)(hM:Moved w w' p.F)(hP:eX w' p')(hF:∀ k,p'.F k->p.F k\/w.heap.size<=k) :
  kM w0 w' B x5 M b (ps++p' :: qs) vC vI vL vT vA:=by
 have hpm:p∈ps++p :: qs:=List.mem_append_right _ (fS ..);have hs:=hM.size;have hoff:=h.off p hpm;have old:∀ r∈ps++p :: qs,∀ k,r.F k->k<w.heap.size:=fun r hr k hk=>h.xi r hr k hk;have hap:=List.pairwise_append.1 h.apart;have zS:=List.pairwise_cons.1 hap.2.1;have sub:∀ r,r∈ps++p' :: qs->r=p'\/r∈ps\/r∈qs:=fun r hr=>by
  rcases fE.1 hr with e|e
  ·exact .inr (.inl e)
  ·rcases gK.1 e with e|e
   ·exact .inl e
   ·exact .inr (.inr e)
 have others:∀ r,r∈ps\/r∈qs->r∈ps++p :: qs/\∀ k,r.F k->¬ p.F k:=fun r hr=>by
  rcases hr with e|e
  ·exact⟨List.mem_append_left _ e,fun k hk hk2=>hap.2.2 r e p (fS ..) k hk hk2⟩
  ·exact⟨List.mem_append_right _ (List.mem_cons_of_mem _ e),fun k hk hk2=>zS.1 r e k hk2 hk⟩
 refine⟨?_, ?_,fun r hr => ?_,fun r hr k hk => ?_,h.small, ?_,h.new, ?_⟩
 ·exact h.book.keep hs fun k hk=>hM.block k (hk.elim (fun e=>by rw[e];exact (aQ h.book.blk)) (fun e=>Bk.lt h.book e)) (fun e=>by
   have:=hoff k e;rcases hk with q|q
   ·omega
   ·exact this.2.1 q)
 ·have hrow:w'.ownsRow (B+1) 104 1 vC (ps++p :: qs).length ((ps++p :: qs).map fun p=>Value.pointer (some p.q)):=hM.owns h.row fun k hk hS=>(hoff k hS).2.2 hk
  have e1:(ps++p' :: qs).length=(ps++p :: qs).length:=by simp
  have e2:(ps++p' :: qs).map (fun p=>Value.pointer (some p.q))=(ps++p :: qs).map (fun p=>Value.pointer (some p.q)):=by simp[hq]
  rw[e1,e2];exact hrow
 ·rcases sub r hr with e|e
  ·rw[e];exact hP
  ·obtain⟨o1,o2⟩:=others r e
   exact (h.jd r o1).keep fun k hk=>hM.block k (old r o1 k hk) (o2 k hk)
 ·rcases sub r hr with e|e
  ·subst e
   rcases hF k hk with q|q
   ·exact hoff k q
   ·refine⟨by have:=h.book.bs;omega,fun e => ?_,fun e => ?_⟩
    ·have:=Bk.lt h.book e
     omega
    ·have:=(dL.1 (bK h.row e).choose_spec.1).1
     omega
  ·exact h.off r (others r e).1 k hk
 ·exact h.be.trans (hM.jg (fun k q=>by have:=(hoff k q).1;have:=h.new;omega) h.be.size)
 ·refine List.pairwise_append.2 ⟨hap.1,List.pairwise_cons.2 ⟨fun r hr k hk hk2 => ?_,zS.2⟩,fun r hr s hs2 k hk hk2 => ?_⟩
  ·rcases hF k hk with q|q
   ·exact zS.1 r hr k q hk2
   ·have:=old r (others r (.inr hr)).1 k hk2
    omega
  ·rcases gK.1 hs2 with e|e
   ·subst e
    rcases hF k hk2 with q|q
    ·exact (others r (.inl hr)).2 k hk q
    ·have:=old r (others r (.inl hr)).1 k hk
     omega
   ·exact hap.2.2 r hr s (List.mem_cons_of_mem _ e) k hk hk2
theorem eX.both {W1 W2:World}(hq:w.heap[p.q]?=some (.cells #[p.x,p.y] 123)){FX FY:Nat->Prop}(hlt:∀ k,p.F k->k<w.heap.size)(hF:∀ k,k=p.q\/FX k\/FY k->p.F k)(i6:∀ k,FX k->¬ FY k)(nL:¬ FX p.q)(oC:¬ FY p.q){F':Nat->Prop}
  (hX:dM W1 F' p.x c') (dx:Moved w W1 FX) (hF':∀ k,F' k->FX k\/w.heap.size<=k) (hY:bH W1 FY p.y c' W2) :
  eX W2 { p with c:=c',F:=fun k=>p.F k\/(w.heap.size<=k/\k<W2.heap.size) }/\Moved w W2 p.F:=by
 have s1:=dx.size;have s2:=hY.2.size;have zI:∀ k,FX k->k<w.heap.size:=fun k e=>hlt k (hF k (.inr (.inl e)));have pV:∀ k,FY k->k<w.heap.size:=fun k e=>hlt k (hF k (.inr (.inr e)));have pZ:p.q<w.heap.size:=hlt _ (hF _ (.inl rfl));have hM:Moved w W2 p.F:=(dx.wider (fun k e=>hF k (.inr (.inl e)))).trans (hY.2.wider (fun k e=>hF k (.inr (.inr e)))) (fun k _ e=>e);have hX2:dM W2 F' p.x c':=by
  have Er:=hX;obtain⟨gs,cap,b,Fn,vr,va,vm,vb,vt,h2⟩:=hX;refine⟨gs,cap,b,Fn,vr,va,vm,vb,vt,h2.keep fun k e=>hY.2.block k (h2.lt k e) (fun q => ?_)⟩
  rcases hF' k e with z|z
  ·exact i6 k z q
  ·have:=pV k q
   omega
 refine⟨⟨F',Gr FY W1 W2, ?_,hX2,hY.1,fun k e => ?_,⟨fun k e1 e2 => ?_,fun e => ?_,fun e => ?_⟩,fun k e => ?_⟩,hM⟩
 ·exact (hY.2.block _ (by omega) oC).trans ((dx.block _ pZ nL).trans hq)
 ·rcases e with e|e|e
  ·exact .inl (hF k (.inl e))
  ·rcases hF' k e with z|z
   ·exact .inl (hF k (.inr (.inl z)))
   ·exact .inr ⟨z,hX2.lt' e⟩
  ·rcases e with e|e
   ·exact .inl (hF k (.inr (.inr e)))
   ·exact .inr ⟨by omega,e.2⟩
 ·rcases e2 with e2|e2
  ·rcases hF' k e1 with z|z
   ·exact i6 k z e2
   ·have:=pV k e2
    omega
  ·have:=hX.lt' e1
   omega
 ·rcases hF' p.q e with z|z
  ·exact nL z
  ·omega
 ·rcases e with e|e
  ·exact oC e
  ·have h9:W1.heap.size<=p.q:=e.1
   omega
 ·rcases e with e|e
  ·have:=hlt k e
   show k<W2.heap.size;omega
  ·exact e.2
structure dN where
 kind:Int
 cl:Int
 n:Int
 i:Int
 e:aH
 a:Option Addr
 len:Nat
 cap:Nat
 l:List Int
def dN.next (o:dN)(c:aq):aq × Int :=
 if o.kind=2 then c.ask o.n o.e else if o.kind=4 then c.tick o.n else if o.kind=5 then c.gI o.i else if o.kind=6 then c.drop o.i else if o.kind=7 then c.double o.i
 else if o.kind=9 then c.dc o.n else if o.kind=10 then c.cF o.n else (c,0)
structure dN.Fit (o:dN):Prop where
 n : -9223372036854775808<=o.n/\o.n<=9223372036854775807
 i : -9223372036854775808<=o.i/\o.i<=9223372036854775807
structure pB (c:aq):Prop where
 good:∃ E g,Good c E g
theorem dM.below' {x:Nat}(h:dM w F x c)(hb:ai w w'):dM w' F x c:=by
 obtain⟨gs,cap,b,Fn,vr,va,vm,vb,vt,h2⟩:=h;exact⟨gs,cap,b,Fn,vr,va,vm,vb,vt,h2.below hb⟩
theorem SB (d:Int)(h:cK w F y c)(hg:Good c E g)(hi : -9223372036854775808<=d/\d<=9223372036854775807) :
  Calls prog 87 #[y,.int .i64 d] w fun r w'=>r=.returned (.int .i64 (c.dc d).2)/\bH w F y (c.dc d).1 w':=by
 have HT:Hid (Calls prog 143 #[y,.int .i64 d,.bool false] w fun r w'=>r=.returned (.int .i64 (c.dc d).2)/\bH w F y (c.dc d).1 w'):=ae (GJ d false h hg hi);clear h hg;go_enter func87,ntmps87;go_wp2_with fail;refine HT.out.mono ?_
 rintro e W ⟨rfl,hC⟩;have HC:=ae hC;clear hC;go_wp2_with fail;go_ret;exact⟨rfl,HC.out⟩
theorem SS (d:Int)(h:cK w F y c)(hg:Good c E g)(hi : -9223372036854775808<=d/\d<=9223372036854775807) :
  Calls prog 88 #[y,.int .i64 d] w fun r w'=>r=.returned (.int .i64 (c.cF d).2)/\bH w F y (c.cF d).1 w':=by
 have HT:Hid (Calls prog 143 #[y,.int .i64 d,.bool true] w fun r w'=>r=.returned (.int .i64 (c.cF d).2)/\bH w F y (c.cF d).1 w'):=ae (GJ d true h hg hi);clear h hg;go_enter func88,ntmps88;go_wp2_with fail;refine HT.out.mono ?_
 rintro e W ⟨rfl,hC⟩;have HC:=ae hC;clear hC;go_wp2_with fail;go_ret;exact⟨rfl,HC.out⟩
theorem rM {cn:aq}{en:Value}{fx fy:FuncId}{tx ty:List Value}(o:dN)(h:eX w p)
  (hx:∀ W F,dM W F p.x p.c->Calls prog fx (.mk (.pointer (some p.x) :: tx)) W fun r w1=>r=.returned en/\bW W F p.x cn w1)
  (hy:∀ W F,cK W F p.y p.c->Calls prog fy (.mk (.pointer (some p.y) :: ty)) W fun r w2=>r=.returned en/\bH W F p.y cn w2) :
  ∃ B FX,w.alloc (.cells #[o.kind,o.cl,o.n,o.i,o.e.client,o.e.seq,o.e.kind,o.e.key,o.e.value,.slice o.a o.len o.cap] 71)=B/\B.cell? (p.q,0)=some (.pointer (some p.x))/\B.heap[w.heap.size]?=some (.cells #[o.kind,o.cl,o.n,o.i,o.e.client,o.e.seq,o.e.kind,o.e.key,o.e.value,.slice o.a o.len o.cap] 71) /\
   Hid (∀ W,W=B.drew->Calls prog fx (.mk (.pointer (some p.x) :: tx)) W fun r w1=>r=.returned en/\bW B FX p.x cn w1) /\
   Hid (∀ W1,bW B FX p.x cn W1->W1.cell? (p.q,1)=some (.pointer (some p.y))/\W1.heap[w.heap.size]?=some (.cells #[o.kind,o.cl,o.n,o.i,o.e.client,o.e.seq,o.e.kind,o.e.key,o.e.value,.slice o.a o.len o.cap] 71)) /\
   Hid (∀ W1,bW B FX p.x cn W1->∀ W,W=W1.drew->Calls prog fy (.mk (.pointer (some p.y) :: ty)) W fun r w2=>r=.returned en/\eX w2 { p with c:=cn,F:=fun k=>p.F k\/(w.heap.size<=k/\k<w2.heap.size) }/\Moved w w2 p.F):=by
 obtain⟨B,hB,bz,bf⟩:=ch w #[o.kind,o.cl,o.n,o.i,o.e.client,o.e.seq,o.e.kind,o.e.key,o.e.value,.slice o.a o.len o.cap] 71;obtain⟨FX,FY,hq,hX0,hY0,hF,⟨i6,nL,oC⟩,hlt⟩:=h;have eb:B.heap.size=w.heap.size+1:=by rw[<- hB];simp
 have hX:dM B FX p.x p.c:=hX0.below' bz;have hY:cK B FY p.y p.c:=hY0.below bz;have pZ:p.q<w.heap.size:=(aQ hq);have Av:=(bz.block _ pZ).trans hq;have Om:∀ k,p.F k->k<B.heap.size:=fun k e=>by have:=hlt k e;omega
 have HK:∀ W1,bW B FX p.x cn W1->W1.heap[p.q]?=some (.cells #[p.x,p.y] 123)/\W1.heap[w.heap.size]?=some (.cells #[o.kind,o.cl,o.n,o.i,o.e.client,o.e.seq,o.e.kind,o.e.key,o.e.value,.slice o.a o.len o.cap] 71)/\cK W1 FY p.y p.c:=fun W1 hC=>by
  obtain⟨F',a1,a2,a3⟩:=hC;refine⟨(a2.block _ (by omega) nL).trans Av,(a2.block _ (by omega) (fun e => ?_)).trans bf,hY.keep fun k hk=>a2.block k (hY.lt' hk) (fun e=>i6 k e hk)⟩
  have:=hlt _ (hF _ (.inr (.inl e)));omega
 refine⟨B,FX,hB,aj Av 0,bf,ae fun W hW => ?_,ae fun W1 hC=>⟨aj (HK W1 hC).1 1,(HK W1 hC).2.1⟩,ae fun W1 hC W hW => ?_⟩
 ·subst hW
  have hb:ai B B.drew:=(ax _ B).drew;refine (hx _ _ (hX.below' hb)).mono ?_
  rintro e w1 ⟨h1,h2⟩;exact⟨h1,bW.trans ((Moved.refl B FX).below hb) (fun _ e=>.inl e) h2⟩
 ·subst hW
  have wJ:=(HK W1 hC).2.2;have hb1:ai W1 W1.drew:=(ax _ W1).drew;obtain⟨F',a1,a2,a3⟩:=hC;refine (hy _ _ (wJ.below hb1)).mono ?_
  rintro e w2 ⟨h1,h2⟩;have EB:=eX.both Av Om hF i6 nL oC a1 a2 a3 (bH.before wJ hb1 h2);refine⟨h1, ?_,((Moved.refl w p.F).below bz).trans EB.2 (fun k _ e=>e)⟩
  obtain⟨GX,GY,z1,z2,z3,z4,z5,z6⟩:=EB.1;refine⟨GX,GY,z1,z2,z3,fun k e => ?_,z5,fun k e => ?_⟩
  ·rcases z4 k e with q|q
   ·exact .inl q
   ·exact .inr ⟨by omega,q.2⟩
  ·rcases e with q|q
   ·exact z6 k (.inl q)
   ·exact q.2
set_option linter.unusedVariables false in
theorem R9 (o:dN)(h:eX w p)(hch:pB p.c)(ht:p.c.told.length<=2999999999999)(hfit:o.Fit)(hk:o.kind=2) :
  Calls prog 42 #[p.q,.agg #[o.kind,o.cl,o.n,o.i,o.e.client,o.e.seq,o.e.kind,o.e.key,o.e.value,.slice o.a o.len o.cap]] w fun e w'=>e=.returned (.bool true)/\eX w' { p with c:=(p.c.ask o.n o.e).1,F:=fun k=>p.F k\/(w.heap.size<=k/\k<w'.heap.size) }/\Moved w w' p.F:=by
 obtain⟨E,g,hg⟩:=hch.good;obtain⟨B,FX,hB,q0,bf,HX,HK,HY⟩:=rM (cn:=(p.c.ask o.n o.e).1) (en:=.int .i64 (p.c.ask o.n o.e).2) (fx:=28) (fy:=82) (tx:=[.int .i64 o.n,.agg #[o.e.client,o.e.seq,o.e.kind,o.e.key,o.e.value]]) (ty:=[.int .i64 o.n,.agg #[o.e.client,o.e.seq,o.e.kind,o.e.key,o.e.value]]) o h (fun W F hX=>Ln o.n o.e hX hg) (fun W F hR=>Su o.n o.e hR hg hfit.n);have m0:=au bf 0;have m2:=au bf 2;have m4:=au bf 4;have m5:=au bf 5;have m6:=au bf 6;have m7:=au bf 7;have m8:=au bf 8;have mixed:prog.follows Departure.mixedOrders=true:=by kernel_rfl
 rw[hk] at m0 hB |-;generalize (p.c.ask o.n o.e).2=en at *;generalize (p.c.ask o.n o.e).1=cn at *;clear bf;go_enter func42,ntmps42;go_upto_region 5 with fail
 go_cut [3,5,6] (fun p3 p5 p6 wx=>p3=.pointer (some w.heap.size)/\p5=.int .i64 en/\p6=.int .i64 0/\bW B FX p.x cn wx)
 case first =>
  go_region_law (first|(rw[if_pos (by simp[Region.wanted])];go_simp;go_at_call 28;refine (HX.out _ rfl).mono ?_;rintro e W1 ⟨rfl,hC⟩;have HC:=ae hC;clear hC))
  all_goals (
   go_wp2_with fail;go_meet;exact⟨rfl,rfl,rfl,HC.out⟩)
 case rest =>
  obtain⟨rfl,rfl,rfl,hC⟩:=hcut;have hz:=(HK.out wc hC).2;have q1:=(HK.out wc hC).1;have n2:=aj hz 2;have n4:=aj hz 4;have n5:=aj hz 5;have n6:=aj hz 6;have n7:=aj hz 7;have n8:=aj hz 8;have lZ:=ae (HY.out wc hC);clear hC hz m0 m2 m4 m5 m6 m7 m8 q0 HX HK HY;go_wp2_with fail;go_region_law (first|(rw[if_pos (by simp[Region.wanted])];go_simp;go_at_call 82;refine (lZ.out _ rfl).mono ?_;rintro e W2 ⟨rfl,hC⟩;have HC:=ae hC;clear hC))
  all_goals (
   go_wp2_with fail;go_ret;exact⟨by simp,HC.out⟩)
set_option linter.unusedVariables false in
theorem Se (o:dN)(h:eX w p)(hch:pB p.c)(ht:p.c.told.length<=2999999999999)(hfit:o.Fit)(hk:o.kind=4) :
  Calls prog 42 #[p.q,.agg #[o.kind,o.cl,o.n,o.i,o.e.client,o.e.seq,o.e.kind,o.e.key,o.e.value,.slice o.a o.len o.cap]] w fun e w'=>e=.returned (.bool true)/\eX w' { p with c:=(p.c.tick o.n).1,F:=fun k=>p.F k\/(w.heap.size<=k/\k<w'.heap.size) }/\Moved w w' p.F:=by
 obtain⟨E,g,hg⟩:=hch.good;obtain⟨B,FX,hB,q0,bf,HX,HK,HY⟩:=rM (cn:=(p.c.tick o.n).1) (en:=.int .i64 (p.c.tick o.n).2) (fx:=73) (fy:=83) (tx:=[.int .i64 o.n]) (ty:=[.int .i64 o.n]) o h (fun W F hX=>LC o.n hX hg) (fun W F hR=>S6 o.n hR hg hfit.n);have m0:=au bf 0;have m2:=au bf 2;have mixed:prog.follows Departure.mixedOrders=true:=by kernel_rfl
 rw[hk] at m0 hB |-;generalize (p.c.tick o.n).2=en at *;generalize (p.c.tick o.n).1=cn at *;clear bf;go_enter func42,ntmps42;go_upto_region 8 with fail
 go_cut [3,5,6] (fun p3 p5 p6 wx=>p3=.pointer (some w.heap.size)/\p5=.int .i64 en/\p6=.int .i64 0/\bW B FX p.x cn wx)
 case first =>
  go_region_law (first|(rw[if_pos (by simp[Region.wanted])];go_simp;go_at_call 73;refine (HX.out _ rfl).mono ?_;rintro e W1 ⟨rfl,hC⟩;have HC:=ae hC;clear hC))
  all_goals (
   go_wp2_with fail;go_meet;exact⟨rfl,rfl,rfl,HC.out⟩)
 case rest =>
  obtain⟨rfl,rfl,rfl,hC⟩:=hcut;have hz:=(HK.out wc hC).2;have q1:=(HK.out wc hC).1;have n2:=aj hz 2;have lZ:=ae (HY.out wc hC);clear hC hz m0 m2 q0 HX HK HY;go_wp2_with fail;go_region_law (first|(rw[if_pos (by simp[Region.wanted])];go_simp;go_at_call 83;refine (lZ.out _ rfl).mono ?_;rintro e W2 ⟨rfl,hC⟩;have HC:=ae hC;clear hC))
  all_goals (
   go_wp2_with fail;go_ret;exact⟨by simp,HC.out⟩)
set_option linter.unusedVariables false in
theorem Sa (o:dN)(h:eX w p)(hch:pB p.c)(ht:p.c.told.length<=2999999999999)(hfit:o.Fit)(hk:o.kind=5) :
  Calls prog 42 #[p.q,.agg #[o.kind,o.cl,o.n,o.i,o.e.client,o.e.seq,o.e.kind,o.e.key,o.e.value,.slice o.a o.len o.cap]] w fun e w'=>e=.returned (.bool true)/\eX w' { p with c:=(p.c.gI o.i).1,F:=fun k=>p.F k\/(w.heap.size<=k/\k<w'.heap.size) }/\Moved w w' p.F:=by
 obtain⟨E,g,hg⟩:=hch.good;obtain⟨B,FX,hB,q0,bf,HX,HK,HY⟩:=rM (cn:=(p.c.gI o.i).1) (en:=.int .i64 (p.c.gI o.i).2) (fx:=31) (fy:=84) (tx:=[.int .i64 o.i]) (ty:=[.int .i64 o.i]) o h (fun W F hX=>Lt o.i hX hg ht) (fun W F hR=>SG o.i hR hg ht);have m0:=au bf 0;have m3:=au bf 3;have mixed:prog.follows Departure.mixedOrders=true:=by kernel_rfl
 rw[hk] at m0 hB |-;generalize (p.c.gI o.i).2=en at *;generalize (p.c.gI o.i).1=cn at *;clear bf;go_enter func42,ntmps42;go_upto_region 11 with fail
 go_cut [3,5,6] (fun p3 p5 p6 wx=>p3=.pointer (some w.heap.size)/\p5=.int .i64 en/\p6=.int .i64 0/\bW B FX p.x cn wx)
 case first =>
  go_region_law (first|(rw[if_pos (by simp[Region.wanted])];go_simp;go_at_call 31;refine (HX.out _ rfl).mono ?_;rintro e W1 ⟨rfl,hC⟩;have HC:=ae hC;clear hC))
  all_goals (
   go_wp2_with fail;go_meet;exact⟨rfl,rfl,rfl,HC.out⟩)
 case rest =>
  obtain⟨rfl,rfl,rfl,hC⟩:=hcut;have hz:=(HK.out wc hC).2;have q1:=(HK.out wc hC).1;have n2:=aj hz 3;have lZ:=ae (HY.out wc hC);clear hC hz m0 m3 q0 HX HK HY;go_wp2_with fail;go_region_law (first|(rw[if_pos (by simp[Region.wanted])];go_simp;go_at_call 84;refine (lZ.out _ rfl).mono ?_;rintro e W2 ⟨rfl,hC⟩;have HC:=ae hC;clear hC))
  all_goals (
   go_wp2_with fail;go_ret;exact⟨by simp,HC.out⟩)
set_option linter.unusedVariables false in
theorem Sc (o:dN)(h:eX w p)(hch:pB p.c)(ht:p.c.told.length<=2999999999999)(hfit:o.Fit)(hk:o.kind=6) :
  Calls prog 42 #[p.q,.agg #[o.kind,o.cl,o.n,o.i,o.e.client,o.e.seq,o.e.kind,o.e.key,o.e.value,.slice o.a o.len o.cap]] w fun e w'=>e=.returned (.bool true)/\eX w' { p with c:=(p.c.drop o.i).1,F:=fun k=>p.F k\/(w.heap.size<=k/\k<w'.heap.size) }/\Moved w w' p.F:=by
 obtain⟨E,g,hg⟩:=hch.good;obtain⟨B,FX,hB,q0,bf,HX,HK,HY⟩:=rM (cn:=(p.c.drop o.i).1) (en:=.int .i64 (p.c.drop o.i).2) (fx:=78) (fy:=85) (tx:=[.int .i64 o.i]) (ty:=[.int .i64 o.i]) o h (fun W F hX=>Lv o.i hX hg) (fun W F hR=>SI o.i hR hg.aE);have m0:=au bf 0;have m3:=au bf 3;have mixed:prog.follows Departure.mixedOrders=true:=by kernel_rfl
 rw[hk] at m0 hB |-;generalize (p.c.drop o.i).2=en at *;generalize (p.c.drop o.i).1=cn at *;clear bf;go_enter func42,ntmps42;go_upto_region 14 with fail
 go_cut [3,5,6] (fun p3 p5 p6 wx=>p3=.pointer (some w.heap.size)/\p5=.int .i64 en/\p6=.int .i64 0/\bW B FX p.x cn wx)
 case first =>
  go_region_law (first|(rw[if_pos (by simp[Region.wanted])];go_simp;go_at_call 78;refine (HX.out _ rfl).mono ?_;rintro e W1 ⟨rfl,hC⟩;have HC:=ae hC;clear hC))
  all_goals (
   go_wp2_with fail;go_meet;exact⟨rfl,rfl,rfl,HC.out⟩)
 case rest =>
  obtain⟨rfl,rfl,rfl,hC⟩:=hcut;have hz:=(HK.out wc hC).2;have q1:=(HK.out wc hC).1;have n2:=aj hz 3;have lZ:=ae (HY.out wc hC);clear hC hz m0 m3 q0 HX HK HY;go_wp2_with fail;go_region_law (first|(rw[if_pos (by simp[Region.wanted])];go_simp;go_at_call 85;refine (lZ.out _ rfl).mono ?_;rintro e W2 ⟨rfl,hC⟩;have HC:=ae hC;clear hC))
  all_goals (
   go_wp2_with fail;go_ret;exact⟨by simp,HC.out⟩)
set_option linter.unusedVariables false in
theorem Sb (o:dN)(h:eX w p)(hch:pB p.c)(ht:p.c.told.length<=2999999999999)(hfit:o.Fit)(hk:o.kind=7) :
  Calls prog 42 #[p.q,.agg #[o.kind,o.cl,o.n,o.i,o.e.client,o.e.seq,o.e.kind,o.e.key,o.e.value,.slice o.a o.len o.cap]] w fun e w'=>e=.returned (.bool true)/\eX w' { p with c:=(p.c.double o.i).1,F:=fun k=>p.F k\/(w.heap.size<=k/\k<w'.heap.size) }/\Moved w w' p.F:=by
 obtain⟨E,g,hg⟩:=hch.good;obtain⟨B,FX,hB,q0,bf,HX,HK,HY⟩:=rM (cn:=(p.c.double o.i).1) (en:=.int .i64 (p.c.double o.i).2) (fx:=79) (fy:=86) (tx:=[.int .i64 o.i]) (ty:=[.int .i64 o.i]) o h (fun W F hX=>Lu o.i hX hg) (fun W F hR=>SH o.i hR hg.aE);have m0:=au bf 0;have m3:=au bf 3;have mixed:prog.follows Departure.mixedOrders=true:=by kernel_rfl
 rw[hk] at m0 hB |-;generalize (p.c.double o.i).2=en at *;generalize (p.c.double o.i).1=cn at *;clear bf;go_enter func42,ntmps42;go_upto_region 17 with fail
 go_cut [3,5,6] (fun p3 p5 p6 wx=>p3=.pointer (some w.heap.size)/\p5=.int .i64 en/\p6=.int .i64 0/\bW B FX p.x cn wx)
 case first =>
  go_region_law (first|(rw[if_pos (by simp[Region.wanted])];go_simp;go_at_call 79;refine (HX.out _ rfl).mono ?_;rintro e W1 ⟨rfl,hC⟩;have HC:=ae hC;clear hC))
  all_goals (
   go_wp2_with fail;go_meet;exact⟨rfl,rfl,rfl,HC.out⟩)
 case rest =>
  obtain⟨rfl,rfl,rfl,hC⟩:=hcut;have hz:=(HK.out wc hC).2;have q1:=(HK.out wc hC).1;have n2:=aj hz 3;have lZ:=ae (HY.out wc hC);clear hC hz m0 m3 q0 HX HK HY;go_wp2_with fail;go_region_law (first|(rw[if_pos (by simp[Region.wanted])];go_simp;go_at_call 86;refine (lZ.out _ rfl).mono ?_;rintro e W2 ⟨rfl,hC⟩;have HC:=ae hC;clear hC))
  all_goals (
   go_wp2_with fail;go_ret;exact⟨by simp,HC.out⟩)
set_option linter.unusedVariables false in
theorem R_ (o:dN)(h:eX w p)(hch:pB p.c)(ht:p.c.told.length<=2999999999999)(hfit:o.Fit)(hk:o.kind=9) :
  Calls prog 42 #[p.q,.agg #[o.kind,o.cl,o.n,o.i,o.e.client,o.e.seq,o.e.kind,o.e.key,o.e.value,.slice o.a o.len o.cap]] w fun e w'=>e=.returned (.bool true)/\eX w' { p with c:=(p.c.dc o.n).1,F:=fun k=>p.F k\/(w.heap.size<=k/\k<w'.heap.size) }/\Moved w w' p.F:=by
 obtain⟨E,g,hg⟩:=hch.good;obtain⟨B,FX,hB,q0,bf,HX,HK,HY⟩:=rM (cn:=(p.c.dc o.n).1) (en:=.int .i64 (p.c.dc o.n).2) (fx:=75) (fy:=87) (tx:=[.int .i64 o.n]) (ty:=[.int .i64 o.n]) o h (fun W F hX=>Ls o.n hX) (fun W F hR=>SB o.n hR hg hfit.n);have m0:=au bf 0;have m2:=au bf 2;have mixed:prog.follows Departure.mixedOrders=true:=by kernel_rfl
 rw[hk] at m0 hB |-;generalize (p.c.dc o.n).2=en at *;generalize (p.c.dc o.n).1=cn at *;clear bf;go_enter func42,ntmps42;go_upto_region 20 with fail
 go_cut [3,5,6] (fun p3 p5 p6 wx=>p3=.pointer (some w.heap.size)/\p5=.int .i64 en/\p6=.int .i64 0/\bW B FX p.x cn wx)
 case first =>
  go_region_law (first|(rw[if_pos (by simp[Region.wanted])];go_simp;go_at_call 75;refine (HX.out _ rfl).mono ?_;rintro e W1 ⟨rfl,hC⟩;have HC:=ae hC;clear hC))
  all_goals (
   go_wp2_with fail;go_meet;exact⟨rfl,rfl,rfl,HC.out⟩)
 case rest =>
  obtain⟨rfl,rfl,rfl,hC⟩:=hcut;have hz:=(HK.out wc hC).2;have q1:=(HK.out wc hC).1;have n2:=aj hz 2;have lZ:=ae (HY.out wc hC);clear hC hz m0 m2 q0 HX HK HY;go_wp2_with fail;go_region_law (first|(rw[if_pos (by simp[Region.wanted])];go_simp;go_at_call 87;refine (lZ.out _ rfl).mono ?_;rintro e W2 ⟨rfl,hC⟩;have HC:=ae hC;clear hC))
  all_goals (
   go_wp2_with fail;go_ret;exact⟨by simp,HC.out⟩)
set_option linter.unusedVariables false in
theorem Sd (o:dN)(h:eX w p)(hch:pB p.c)(ht:p.c.told.length<=2999999999999)(hfit:o.Fit)(hk:o.kind=10) :
  Calls prog 42 #[p.q,.agg #[o.kind,o.cl,o.n,o.i,o.e.client,o.e.seq,o.e.kind,o.e.key,o.e.value,.slice o.a o.len o.cap]] w fun e w'=>e=.returned (.bool true)/\eX w' { p with c:=(p.c.cF o.n).1,F:=fun k=>p.F k\/(w.heap.size<=k/\k<w'.heap.size) }/\Moved w w' p.F:=by
 obtain⟨E,g,hg⟩:=hch.good;obtain⟨B,FX,hB,q0,bf,HX,HK,HY⟩:=rM (cn:=(p.c.cF o.n).1) (en:=.int .i64 (p.c.cF o.n).2) (fx:=76) (fy:=88) (tx:=[.int .i64 o.n]) (ty:=[.int .i64 o.n]) o h (fun W F hX=>Ly o.n hX hg) (fun W F hR=>SS o.n hR hg hfit.n);have m0:=au bf 0;have m2:=au bf 2;have mixed:prog.follows Departure.mixedOrders=true:=by kernel_rfl
 rw[hk] at m0 hB |-;generalize (p.c.cF o.n).2=en at *;generalize (p.c.cF o.n).1=cn at *;clear bf;go_enter func42,ntmps42;go_upto_region 23 with fail
 go_cut [3,5,6] (fun p3 p5 p6 wx=>p3=.pointer (some w.heap.size)/\p5=.int .i64 en/\p6=.int .i64 0/\bW B FX p.x cn wx)
 case first =>
  go_region_law (first|(rw[if_pos (by simp[Region.wanted])];go_simp;go_at_call 76;refine (HX.out _ rfl).mono ?_;rintro e W1 ⟨rfl,hC⟩;have HC:=ae hC;clear hC))
  all_goals (
   go_wp2_with fail;go_meet;exact⟨rfl,rfl,rfl,HC.out⟩)
 case rest =>
  obtain⟨rfl,rfl,rfl,hC⟩:=hcut;have hz:=(HK.out wc hC).2;have q1:=(HK.out wc hC).1;have n2:=aj hz 2;have lZ:=ae (HY.out wc hC);clear hC hz m0 m2 q0 HX HK HY;go_wp2_with fail;go_region_law (first|(rw[if_pos (by simp[Region.wanted])];go_simp;go_at_call 88;refine (lZ.out _ rfl).mono ?_;rintro e W2 ⟨rfl,hC⟩;have HC:=ae hC;clear hC))
  all_goals (
   go_wp2_with fail;go_ret;exact⟨by simp,HC.out⟩)
structure Kept (c:aq)(T:Nat):Prop where
 good:∃ E g,Good c E g
 told:c.told.length<=T
theorem Kept.Lj (h:Kept c T):pB c:=⟨h.good⟩
theorem Kept.first (n:Nat)(h1:1<=n)(h5:n<=5):Kept (aq.first n) 0 :=
 ⟨⟨_,_,Ms n h1 h5⟩,by simp[aq.first]⟩
theorem gk.kept (h:gk c E g c')(ht:c'.told.length<=T):Kept c' T:=by
 obtain⟨E',g',hg,_⟩:=h;exact⟨⟨E',g',hg⟩,ht⟩
theorem Uq (c:aq)(m:aK):(c.takes m).1.told=c.told:=by
 unfold aq.takes;split
 ·split
  ·rfl
  ·split<;>rfl
 ·rfl
theorem UA (o:dN)(c:aq):(o.next c).1.told.length<=c.told.length+1:=by
 have hsame:c.told.length<=c.told.length+1:=Nat.le_succ _;unfold dN.next;split
 ·unfold aq.ask
  split
  ·exact hsame
  ·split<;>exact hsame
 ·split
  ·unfold aq.tick
   split<;>exact hsame
  ·split
   ·unfold aq.gI
    split
    ·split
     ·exact hsame
     ·rename_i m _
      have h1:((c.gone o.i).kO m).told=((c.gone o.i).tell m).told:=Uq _ m;show ((c.gone o.i).kO m).told.length<=_;rw[h1];unfold aq.tell;split
      ·show (c.told++[_]).length<=_
       rw[bG];exact aG _
      ·exact hsame
    ·exact hsame
   ·split
    ·unfold aq.drop
     split<;>exact hsame
    ·split
     ·unfold aq.double
      split<;>exact hsame
     ·split
      ·unfold aq.dc
       repeat' split
       all_goals exact hsame
      ·split
       ·unfold aq.cF
        repeat' split
        all_goals exact hsame
       ·exact hsame
theorem Kept.next (h:Kept c T)(o:dN):Kept (o.next c).1 (T+1):=by
 obtain⟨⟨E,g,hg⟩,ht⟩:=h;have htl:=UA o c;have hsame:Kept c (T+1):=⟨⟨E,g,hg⟩,by omega⟩
 have iM:(o.next c).1.told.length<=T+1:=by omega
 clear htl;unfold dN.next at iM |-;split
 ·rename_i e
  rw[if_pos e] at iM;by_cases hr:c.cN o.n
  ·by_cases he:o.e.ok=true
   ·exact⟨⟨E,_,(hg.ask o.n o.e hr he).1⟩,iM⟩
   ·have:c.ask o.n o.e=(c,6):=by unfold aq.ask;rw[if_neg (by simpa using hr),if_pos (by simpa using he)]
    rw[this];exact hsame
  ·have:c.ask o.n o.e=(c,4):=by unfold aq.ask;rw[if_pos hr]
   rw[this];exact hsame
 ·rename_i e
  rw[if_neg e] at iM;split
  ·rename_i e
   rw[if_pos e] at iM;exact (hg.tick o.n).kept iM
  ·rename_i e
   rw[if_neg e] at iM;split
   ·rename_i e
    rw[if_pos e] at iM;exact (hg.gI o.i).kept iM
   ·rename_i e
    rw[if_neg e] at iM;split
    ·rename_i e
     rw[if_pos e] at iM;exact (hg.drop o.i).kept iM
    ·rename_i e
     rw[if_neg e] at iM;split
     ·rename_i e
      rw[if_pos e] at iM;exact (hg.double o.i).kept iM
     ·rename_i e
      rw[if_neg e] at iM;split
      ·rename_i e
       rw[if_pos e] at iM;exact (hg.dc o.n).kept iM
      ·rename_i e
       rw[if_neg e] at iM;split
       ·rename_i e
        rw[if_pos e] at iM;exact (hg.cF o.n).kept iM
       ·exact hsame
theorem Kept.change (h:Kept c T)(d:Int)(l:List Int):Kept (c.change d l).1 (T+1):=by
 obtain⟨⟨E,g,hg⟩,ht⟩:=h;refine (hg.change d l).kept ?_
 have hsame:c.told.length<=T+1:=by omega
 unfold aq.change;split
 ·exact hsame
 ·split
  ·exact hsame
  ·split<;>exact hsame
theorem Bl (c n:Int)(w:World)(hn:0<n)(hn2:n<=10000000)(h0 : -9223372036854775808<=c)(h1:c<=9223372036854775807) :
  Calls prog 44 #[.int .i64 c,.int .i64 n] w fun e w'=>e=.returned (.int .i64 (lO c n))/\w'=w:=by
 by_cases hc:c<0
 ·have H:Hid (lO c n=(-(c+1)) % n):=ae (by unfold lO;rw[if_pos hc])
  go_enter func44,ntmps44;go_wp2;go_ret;refine⟨ni ?_,rfl⟩
  rw[H.out, <- Int.neg_tmod,Int.tmod_eq_emod_of_nonneg (by omega)]
 ·have H:Hid (lO c n=c % n):=ae (by unfold lO;rw[if_neg hc])
  go_enter func44,ntmps44;go_wp2;go_ret;exact⟨ni (by rw[H.out]),rfl⟩
theorem Bj (c n:Int)(hn:0<n):0<=lO c n/\lO c n<n:=by
 unfold lO;split
 ·exact⟨Int.emod_nonneg _ (by omega),Int.emod_lt_of_pos _ hn⟩
 ·exact⟨Int.emod_nonneg _ (by omega),Int.emod_lt_of_pos _ hn⟩
theorem He {α : Type}(l:List α)(j:Nat)(x : α)(h:l[j]?=some x):l=l.take j++x :: l.drop (j+1):=by
 have hj:=(dI.1 h).1;have hx:=(dI.1 h).2
 conv=>lhs;rw[<- List.take_append_drop j l]
 rw[List.drop_eq_getElem_cons hj,hx]
theorem FD {j:Nat}(o:dN)(h:bZ w0 w B x5 M ps)(hj:ps[j]?=some p)(hk:∀ p∈ps,Kept p.c T)(hT:T<=2999999999999)(hfit:o.Fit)(hkd:o.kind=2\/o.kind=4\/o.kind=5\/o.kind=6\/o.kind=7\/o.kind=9\/o.kind=10) :
  Calls prog 42 #[p.q,.agg #[o.kind,o.cl,o.n,o.i,o.e.client,o.e.seq,o.e.kind,o.e.key,o.e.value,.slice o.a o.len o.cap]] w fun e w'=>e=.returned (.bool true)/\∃ ps',bZ w0 w' B x5 M ps'/\(∀ p∈ps',Kept p.c (T+1))/\ps'.length=ps.length/\ps'.map Pr.q=ps.map Pr.q:=by
 have hp:p∈ps:=dU hj;have hkp:=hk p hp;have ht:=hkp.told;have hch:=hkp.Lj;obtain⟨b,vC,vI,vL,vT,vA,h⟩:=h;have hP:=h.jd p hp;have key:Calls prog 42 #[p.q,.agg #[o.kind,o.cl,o.n,o.i,o.e.client,o.e.seq,o.e.kind,o.e.key,o.e.value,.slice o.a o.len o.cap]] w fun e w'=>e=.returned (.bool true)/\eX w' { p with c:=(o.next p.c).1,F:=fun k=>p.F k\/(w.heap.size<=k/\k<w'.heap.size) }/\Moved w w' p.F:=by
  unfold dN.next;rcases hkd with e|e|e|e|e|e|e
  ·rw[if_pos e]
   exact R9 o hP hch (by omega) hfit e
  ·rw[if_neg (by omega),if_pos e]
   exact Se o hP hch (by omega) hfit e
  ·rw[if_neg (by omega),if_neg (by omega),if_pos e]
   exact Sa o hP hch (by omega) hfit e
  ·rw[if_neg (by omega),if_neg (by omega),if_neg (by omega),if_pos e]
   exact Sc o hP hch (by omega) hfit e
  ·rw[if_neg (by omega),if_neg (by omega),if_neg (by omega),if_neg (by omega),if_pos e]
   exact Sb o hP hch (by omega) hfit e
  ·rw[if_neg (by omega),if_neg (by omega),if_neg (by omega),if_neg (by omega),if_neg (by omega),if_pos e]
   exact R_ o hP hch (by omega) hfit e
  ·rw[if_neg (by omega),if_neg (by omega),if_neg (by omega),if_neg (by omega),if_neg (by omega),if_neg (by omega),if_pos e]
   exact Sd o hP hch (by omega) hfit e
 refine key.mono ?_
 rintro e w' ⟨rfl,hP',hM'⟩;have hsp:=He ps j p hj;refine⟨rfl,ps.take j++{ p with c:=(o.next p.c).1,F:=fun k=>p.F k\/(w.heap.size<=k/\k<w'.heap.size) } :: ps.drop (j+1),⟨b,vC,vI,vL,vT,vA, ?_⟩,fun r hr => ?_, ?_, ?_⟩
 ·rw[hsp] at h
  exact h.stepped rfl hM' hP' (fun k e=>e.imp id (fun q=>q.1))
 ·rcases fE.1 hr with q|q
  ·have:=hk r (List.mem_of_mem_take q)
   exact⟨this.good,by have:=this.told;omega⟩
  ·rcases gK.1 q with q|q
   ·rw[q]
    exact hkp.next o
   ·have:=hk r (List.mem_of_mem_drop q)
    exact⟨this.good,by have:=this.told;omega⟩
 ·have:ps.length=(ps.take j++p :: ps.drop (j+1)).length:=by rw[<- hsp]
  rw[this];simp
 ·conv=>rhs;rw[hsp]
  simp
theorem Kept.more {T':Nat}(h:Kept c T)(hT:T<=T'):Kept c T':=⟨h.good,bP h.told hT⟩
structure pI (ps:List Pr)(T M:Nat)(o:dN):Prop where
 kept:∀ p∈ps,Kept p.c T
 pos:0<ps.length
 len:ps.length<=2000000
 m:M<=10000000
 t:T<=1000000000
 fit:o.Fit
 cl : -9223372036854775808<=o.cl/\o.cl<=9223372036854775807
theorem bZ.below (h:bZ w0 w B x5 M ps)(hb:ai w w'):bZ w0 w' B x5 M ps:=by
 obtain⟨b,vC,vI,vL,vT,vA,h⟩:=h;exact⟨b,vC,vI,vL,vT,vA,h.below hb⟩
theorem bZ.mask (h:bZ w0 w B x5 M ps):w.cell? (B,5)=some x5:=by
 obtain⟨b,vC,vI,vL,vT,vA,h⟩:=h;exact aj h.book.blk 5
end Go.Proofs.YtgieeeeeiggoeaaGreat
