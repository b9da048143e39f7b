import Derived.Test.YtgieeeeeiggoeaaGreatD51
set_option maxRecDepth 100000
set_option maxHeartbeats 16000000
namespace Go.Proofs.YtgieeeeeiggoeaaGreat
open Go.RowKit Go.Shelf
open Tryz
variable {c c':aq}{g:Gh}{E:Int}{l:List Int}{ps:List Pr}{B M T n y:Nat}{F FX FY:Nat->Prop}{p:Pr}{X w w0:World}
set_option linter.unusedVariables false in
theorem TW (o:dN)(h:bZ w0 w B (.int .i64 63230) M ps)(hs:pI ps T M o)(hk:o.kind=12\/o.kind=13\/o.kind=14\/o.kind=15) :
  Calls prog 23 #[B,.agg #[o.kind,o.cl,o.n,o.i,o.e.client,o.e.seq,o.e.kind,o.e.key,o.e.value,.slice o.a o.len o.cap]] w fun e w'=>e=.returned (.bool true)/\∃ ps',bZ w0 w' B (.int .i64 63230) (M+8) ps'/\(∀ p∈ps',Kept p.c (T+1))/\ps.length<=ps'.length/\ps'.length<=ps.length+1:=by
 obtain⟨X,hX,hbX,dx⟩:=ch w #[o.kind,o.cl,o.n,o.i,o.e.client,o.e.seq,o.e.kind,o.e.key,o.e.value,.slice o.a o.len o.cap] 71;have m0:=au dx 0;have m1:=au dx 1;have m2:=au dx 2;have gM:=fun j=>aj dx j;have dR:=h.below hbX;have c5:=dR.mask;have HL:=ae dR;have HS:=ae hs;obtain⟨aC,cC,r0,rC⟩:=dR.row;have hpr:=Bj o.cl (ps.length:Int) (by have:=hs.pos;omega)
 obtain⟨j,hjp⟩:∃ j:Nat,lO o.cl (ps.length:Int)=(j:Int):=⟨(lO o.cl (ps.length:Int)).toNat,by omega⟩
 have hjl:j<ps.length:=by omega
 obtain⟨p,hj⟩:∃ p,ps[j]?=some p:=⟨_,bU hjl⟩;have hpm:p∈ps:=dU hj;obtain⟨gC,hga,rj⟩:=rC j p hj;subst hga;have HP:Hid (∀ q,Calls prog 44 #[o.cl,.int .i64 (ps.length:Int)] (X.drewN q) fun e w'=>e=.returned (.int .i64 (j:Int))/\w'=X.drewN q):=ae fun q=>by
  rw[<- hjp];exact Bl o.cl (ps.length:Int) (X.drewN q) (by have:=hs.pos;omega) (by have:=hs.len;omega) hs.cl.1 hs.cl.2
 have hj1:(j:Int)<(ps.length:Int):=by omega
 have hj0:(0:Int)<=(j:Int):=by omega
 have IP:Hid (∀ q,Calls prog 43 #[B,p.q] (X.drewN q) fun e w'=>e=.returned (.bool true)/\∃ ps',bZ w0 w' B (.int .i64 63230) (M+8) ps'/\(∀ p∈ps',Kept p.c (T+1))/\ps.length<=ps'.length/\ps'.length<=ps.length+1):=ae fun q=>by
  have nE:=dR.below (aV (ax X.heap.size X) q);obtain⟨E,g,hg⟩:=(hs.kept p hpm).good;refine (AR nE hpm hg (by have:=hs.m;omega)).mono ?_
  rintro e w' ⟨rfl,h1⟩;exact⟨rfl,ps,h1.less (by omega),fun p hp=>(hs.kept p hp).more (by omega),aG _,by omega⟩
 have IQ:Hid (∀ q,Calls prog 46 #[B,p.q,o.n] (X.drewN q) fun e w'=>e=.returned (.bool true)/\∃ ps',bZ w0 w' B (.int .i64 63230) (M+8) ps'/\(∀ p∈ps',Kept p.c (T+1))/\ps.length<=ps'.length/\ps'.length<=ps.length+1):=ae fun q=>by
  have nE:=dR.below (aV (ax X.heap.size X) q);obtain⟨E,g,hg⟩:=(hs.kept p hpm).good;refine (FE o.n nE hpm hg (by have:=hs.m;omega) hs.fit.n).mono ?_
  rintro e w' ⟨rfl,h1⟩;exact⟨rfl,ps,h1.less (by omega),fun p hp=>(hs.kept p hp).more (by omega),aG _,by omega⟩
 have IS:Hid (∀ q,Calls prog 47 #[B,p.q,o.n] (X.drewN q) fun e w'=>e=.returned (.bool true)/\∃ ps',bZ w0 w' B (.int .i64 63230) (M+8) ps'/\(∀ p∈ps',Kept p.c (T+1))/\ps.length<=ps'.length/\ps'.length<=ps.length+1):=ae fun q=>by
  have nE:=dR.below (aV (ax X.heap.size X) q);obtain⟨E,g,hg⟩:=(hs.kept p hpm).good;refine (FB o.n nE hpm hg (by have:=hs.m;omega) hs.fit.n).mono ?_
  rintro e w' ⟨rfl,h1⟩;exact⟨rfl,ps,h1.less (by omega),fun p hp=>(hs.kept p hp).more (by omega),aG _,by omega⟩
 have IT:Hid (∀ q,Calls prog 48 #[B,p.q] (X.drewN q) fun e w'=>e=.returned (.bool true)/\∃ ps',bZ w0 w' B (.int .i64 63230) (M+8) ps'/\(∀ p∈ps',Kept p.c (T+1))/\ps.length<=ps'.length/\ps'.length<=ps.length+1):=ae fun q=>by
  have nE:=dR.below (aV (ax X.heap.size X) q);obtain⟨E,g,hg⟩:=(hs.kept p hpm).good;refine (FA nE hpm (by have:=(hs.kept p hpm).told;have:=hs.t;omega) (by have:=hs.m;omega)).mono ?_
  rintro e w' ⟨rfl,h1⟩;exact⟨rfl,ps,h1.less (by omega),fun p hp=>(hs.kept p hp).more (by omega),aG _,by omega⟩
 clear h dR hs dx hpr hjp rC hj;rcases hk with hk|hk|hk|hk
 all_goals (
  rw[hk] at m0 hX gM |-;go_enter func23,ntmps23;go_wp2_with fail;go_quiet (fail);go_wp2_with fail;go_upto_region 5 with fail
  go_cut [3,5] (fun p3 p5 wx=>p3=.pointer (some w.heap.size)/\p5=.pointer (some p.q)/\∃ q,wx=X.drewN q)
  case first =>
   go_region_law (first|(rw[if_pos (by simp[Region.wanted])];go_simp;go_at_call 44;refine (HP.out _).mono ?_;rintro e W1 ⟨rfl,rfl⟩))
   all_goals (
    go_wp2_with fail;go_meet;exact⟨rfl,rfl,_,rfl⟩)
  case rest =>
   obtain⟨rfl,rfl,q,rfl⟩:=hcut;go_wp2_with fail;first|refine (IP.out q).mono ?_|refine (IQ.out q).mono ?_|refine (IS.out q).mono ?_|refine (IT.out q).mono ?_
   rintro e W ⟨rfl,hq⟩;have HQ:=ae hq;clear hq;go_wp2_with fail;go_ret;exact⟨rfl,HQ.out⟩)
set_option linter.unusedVariables false in
theorem TU (o:dN)(h:bZ w0 w B (.int .i64 63230) M ps)(hs:pI ps T M o)(hk:o.kind=1) :
  Calls prog 23 #[B,.agg #[o.kind,o.cl,o.n,o.i,o.e.client,o.e.seq,o.e.kind,o.e.key,o.e.value,.slice o.a o.len o.cap]] w fun e w'=>e=.returned (.bool true)/\∃ ps',bZ w0 w' B (.int .i64 63230) (M+8) ps'/\(∀ p∈ps',Kept p.c (T+1))/\ps.length<=ps'.length/\ps'.length<=ps.length+1:=by
 obtain⟨X,hX,hbX,dx⟩:=ch w #[o.kind,o.cl,o.n,o.i,o.e.client,o.e.seq,o.e.kind,o.e.key,o.e.value,.slice o.a o.len o.cap] 71;have m0:=au dx 0;have m1:=au dx 1;have m2:=au dx 2;have gM:=fun j=>aj dx j;have dR:=h.below hbX;have c5:=dR.mask;have HL:=ae dR;have HS:=ae hs;rw[hk] at m0 hX gM |-;have HO:Hid (∀ q,Calls prog 41 #[B,o.n] (X.drewN q) fun e w'=>e=.returned (.bool true)/\∃ ps',bZ w0 w' B (.int .i64 63230) (M+8) ps'/\(∀ p∈ps',Kept p.c (T+1))/\ps.length<=ps'.length/\ps'.length<=ps.length+1):=ae fun q=>by
  refine (FC o.n (dR.below (aV (ax _ _) q)) (by have:=hs.len;omega)).mono ?_
  rintro e w' ⟨rfl,ps',h1,h2⟩;refine⟨rfl,ps',h1.less (by omega), ?_, ?_⟩
  ·intro p hp
   rcases h2 with ⟨q1,q2,p2,q3,q4⟩|⟨-,q4⟩
   ·rw[q4] at hp
    rcases fE.1 hp with z|z
    ·exact (hs.kept p z).more (by omega)
    ·rw[dg.1 z,q3]
     exact (Kept.first _ (by omega) (by omega)).more (by omega)
   ·rw[q4] at hp
    exact (hs.kept p hp).more (by omega)
  ·rcases h2 with ⟨q1,q2,p2,q3,q4⟩|⟨-,q4⟩<;>(rw[q4];simp)
 clear h dR hs dx;go_enter func23,ntmps23;go_wp2_with fail;go_quiet (fail);go_wp2_with fail;refine (HO.out _).mono ?_
 rintro e W ⟨rfl,hq⟩;have HQ:=ae hq;clear hq;go_wp2_with fail;go_ret;exact⟨rfl,HQ.out⟩
set_option linter.unusedVariables false in
theorem T1 (o:dN)(h:bZ w0 w B (.int .i64 63230) M ps)(hs:pI ps T M o)(hk:o.kind=8\/o.kind=11) :
  Calls prog 23 #[B,.agg #[o.kind,o.cl,o.n,o.i,o.e.client,o.e.seq,o.e.kind,o.e.key,o.e.value,.slice o.a o.len o.cap]] w fun e w'=>e=.returned (.bool true)/\∃ ps',bZ w0 w' B (.int .i64 63230) (M+8) ps'/\(∀ p∈ps',Kept p.c (T+1))/\ps.length<=ps'.length/\ps'.length<=ps.length+1:=by
 obtain⟨X,hX,hbX,dx⟩:=ch w #[o.kind,o.cl,o.n,o.i,o.e.client,o.e.seq,o.e.kind,o.e.key,o.e.value,.slice o.a o.len o.cap] 71;have m0:=au dx 0;have m1:=au dx 1;have m2:=au dx 2;have gM:=fun j=>aj dx j;have dR:=h.below hbX;have c5:=dR.mask;have HL:=ae dR;have HS:=ae hs;clear h dR hs dx;rcases hk with hk|hk
 all_goals (
  rw[hk] at m0 hX gM |-;go_enter func23,ntmps23;go_wp2_with fail;go_quiet (fail);go_wp2_with fail;go_ret;exact⟨rfl,ps,(HL.out.below (aV (ax _ _) _)).less (by omega),fun p hp=>(HS.out.kept p hp).more (by omega),aG _,by omega⟩)
theorem SM (v:Value)(l:List Int)(w:World)(hv:bJ w v l)(h0:l≠[])(hl:l.length<=1000000000) :
  Calls prog 132 #[v] w fun e w'=>∃ a c,e=.returned (.slice a l.length c)/\w'.ownsRow w.heap.size 3 1 (.slice a l.length c) l.length (aJ l)/\ai w w':=by
 obtain⟨i0,hi,hz0,hz1,hz2⟩:=info_parts AI;have hpos:0<l.length:=List.length_pos_iff.2 h0;obtain⟨a,cv,rfl,hc⟩:=hv;obtain⟨g,off,rfl, -⟩:=hc 0 hpos;have hcells:∀ j u,(aJ l)[j]?=some u->w.cell? ((⟨g,off,none⟩:Addr).add j)=some u:=fun j u hj=>by
  have hjl:j<l.length:=by have:=(dI.1 hj).1;rwa [fP] at this
  obtain⟨g',off',e,hcj⟩:=hc j hjl;cases e;rw[show (⟨g,off,none⟩:Addr).add j=⟨g,off+j,none⟩ by unfold Addr.add;by_cases hj0:j=0<;>simp[hj0],hcj]
  unfold aJ at hj;rw[fe,bU hjl] at hj;rw[<- hj,ew,bU hjl];rfl
 clear hc;go_enter func132,ntmps132;go_wp2_with (at_builtin;refine wpList_append_own _ rfl _ _ 29 rfl w.heap.size 3 i0 _ 1 8 underlying29 hi hz0 hz1 hz2 rfl (by decide) (.slice none 0 0) 0 [] rfl (bE _ _ _ _) ⟨g,off,none⟩ l.length cv (aJ l) rfl (by rw[fP];omega) hcells (kE _) (by unfold maxLen;omega) (by omega) (aG _) ?_)
 intro v' w' ho hg _;have ho':w'.ownsRow w.heap.size 3 1 v' l.length (aJ l):=by simpa using ho
 obtain⟨a',c',hv'⟩:=aM ho';subst hv';have HO:=ae ho';have HG:Hid (ai w w'):=ae (((Moved.refl w (fun _=>False)).grown hg (fun k _ e=>by simp[Value.ownBlock] at e)).jg (fun _ e=>e.elim) (aG _))
 clear ho ho' hg hcells;go_wp2_with fail;go_ret;exact⟨a',c',rfl,HO.out,HG.out⟩
theorem bJ.later {W:World}{v:Value}(h:bJ w v l)(hb:ai w W):bJ W v l:=by
 obtain⟨a,c,rfl,hc⟩:=h;exact⟨a,c,rfl,fun i hi=>by obtain⟨b,off,rfl,q⟩:=hc i hi;exact⟨b,off,rfl,aF hb q⟩⟩
theorem La {d:Int}(h:¬ b8 d):c.change d l=(c,4):=by unfold aq.change;rw[if_pos h]
theorem SA (d:Int)(v:Value)(l:List Int)(h:cK w F y c)(hg:Good c E g)(hv:bJ w v l)(hd:¬ b8 d)(hi : -9223372036854775808<=d/\d<=9223372036854775807) :
  Calls prog 94 #[y,.int .i64 d,v] w fun r w'=>r=.returned (.int .i64 (c.change d l).2)/\bH w F y (c.change d l).1 w':=by
 have HA:=ae h;have hn:=hg.nodes.n5;have HV:=ae (La (c:=c) (l:=l) hd);obtain⟨a,cv,rfl, -⟩:=hv;obtain⟨br,ba,bm,vr,va,vm,vb,vt,vv,vc,h⟩:=h;obtain⟨ar,cr,dp⟩:=aM h.rr;subst dp;have c0:=au h.blk 0;have HK:=ae (mB y c.aD.length _ cr d w c0 hn hi);have hk3:(cE c.aD.length d).1≠3:=by
  unfold cE;split
  ·exact fun e=>by cases e
  ·split
   ·exact fun e=>by cases e
   ·split
    ·exact absurd (by unfold b8;omega) hd
    ·exact fun e=>by cases e
 have VX:((cE c.aD.length d).1 == 3)=false:=by simpa using hk3
 generalize (cE c.aD.length d).1=k1 at *;generalize (cE c.aD.length d).2=k2 at *;clear h;go_enter func94,ntmps94;go_wp2_with fail;refine HK.out.mono ?_
 rintro e W ⟨rfl,rfl⟩;go_wp2_with fail;go_ret;rw[HV.out];exact⟨rfl,bH.still HA.out (ax _ _)⟩
def xp (n d:Nat)(vw:Value):Array Value:=#[.bool true,.int .i64 ((n:Int)+1),.int .i64 1,.int .i64 0,.int .i64 (2*((n:Int)+1)+(d:Int)),vw,.slice none 0 0,.slice none 0 0,.slice none 0 0,.slice none 0 0]
theorem ea.begun {b i:Nat}{s:aN}{vw:Value}(h:w.heap[b]?=some (.cells (xp s.begun i vw) 206))(hw:bd w vw l)(hF:F b)(tV:bA F vw):ea w F b (.slice none 0 0) (s.begin (200+(i:Int)) l):=by
 have e:(200+(i:Int))-200=(i:Int):=by omega
 refine⟨vw,.slice none 0 0,.slice none 0 0,.slice none 0 0, ?_,⟨hw,bd.nil _,bd.nil _,bw.nil _⟩,hF,⟨tV,bA.nil _,bA.nil _,bA.nil _⟩,[],rfl,bE _ _ _ _,bA.nil _,fun t ht=>by cases ht⟩
 rw[h];unfold xp aN.begin;simp only [e];rfl
theorem Sz (i:Nat)(v:Value)(l:List Int)(h:cK w F y c)(hg:Good c E g)(hv:bJ w v l)(hl:l.length<=2000000)(hil:i<2) :
  Calls prog 94 #[y,.int .i64 (200+(i:Int)),v] w fun r w'=>r=.returned (.int .i64 (c.change (200+(i:Int)) l).2)/\bH w F y (c.change (200+(i:Int)) l).1 w':=by
 have HA:=ae h;have hn:=hg.nodes.n5;have hms:b8 (200+(i:Int)):=by unfold b8;omega
 have hch:c.change (200+(i:Int)) l=if (c.aX (200+(i:Int))).up=false\/1000<=(c.aX (200+(i:Int))).begun then (c,5) else if dq l c.aD.length=false then (c,7) else ((c.ej (200+(i:Int)) ((c.aX (200+(i:Int))).begin (200+(i:Int)) l)).send (((c.aX (200+(i:Int))).begin (200+(i:Int)) l).asks (200+(i:Int))),0):=by unfold aq.change;rw[if_neg (by simpa using hms)]
 have HC:=ae hch;have hSt:=hg.change (200+(i:Int)) l;obtain⟨br,ba,bm,vr,va,vm,vb,vt,vv,vc,hI⟩:=h;obtain⟨ar,cr,dp⟩:=aM hI.rr;subst dp;have c0:=au hI.blk 0;have hkk:cE c.aD.length (200+(i:Int))=(3,(i:Int)):=by unfold cE;rw[if_neg (fun e=>by have:=e.2;omega),if_neg (fun e=>by have:=e.2;omega),if_pos (by omega)];congr 1;omega
 have HK:=ae (mB y c.aD.length _ cr (200+(i:Int)) w c0 hn (by omega))
 rw[hkk] at HK;obtain⟨g1,cap,dG,hgl,hcell⟩:=hI.tE hil;subst dG;have c2:=au hI.blk 2;obtain⟨_,_,_,_,hb,_⟩:=hI.dH i hil;have hi1:(i:Int)<2:=by omega
 have hi0:(0:Int)<=(i:Int):=by omega
 have r0:=au hb 0;have r1:=au hb 1;have vH:=ae (SO v l c.aD.length w hv (by omega) hn)
 have Jl:=ae hv;obtain⟨aL,cL,OG, -⟩:=hv;subst OG;by_cases hu:(c.aX (200+(i:Int))).up=false
 ·have HV:Hid (c.change (200+(i:Int)) l=(c,5)):=ae (by rw[HC.out,if_pos (.inl hu)])
  rw[hu] at r0;clear hI hb hch hSt;go_enter func94,ntmps94;go_wp2_with fail;refine HK.out.mono ?_
  rintro e W ⟨rfl,rfl⟩;go_wp2_with fail;go_ret;rw[HV.out];exact⟨rfl,bH.still HA.out (ax _ _)⟩
 have hu':(c.aX (200+(i:Int))).up=true:=by simpa using hu
 rw[hu'] at r0;by_cases hbg:1000<=(c.aX (200+(i:Int))).begun
 ·have HV:Hid (c.change (200+(i:Int)) l=(c,5)):=ae (by rw[HC.out,if_pos (.inr hbg)])
  have Ns:(1000:Int)<=((c.aX (200+(i:Int))).begun:Int):=by omega
  clear hI hb hch hSt;generalize ((c.aX (200+(i:Int))).begun:Int)=bg at *;go_enter func94,ntmps94;go_wp2_with fail;refine HK.out.mono ?_
  rintro e W ⟨rfl,rfl⟩;go_wp2_with fail;go_ret;rw[HV.out];exact⟨rfl,bH.still HA.out (ax _ _)⟩
 have Ns:¬ (1000:Int)<=((c.aX (200+(i:Int))).begun:Int):=by omega
 by_cases hmo:dq l c.aD.length=false
 ·have HV:Hid (c.change (200+(i:Int)) l=(c,7)):=ae (by rw[HC.out,if_neg (fun e=>e.elim hu hbg),if_pos hmo])
  rw[hmo] at vH;clear hI hb hch hSt;generalize ((c.aX (200+(i:Int))).begun:Int)=bg at *;go_enter func94,ntmps94;go_wp2_with fail;refine HK.out.mono ?_
  rintro e W ⟨rfl,rfl⟩;go_wp2_with fail;refine vH.out.mono ?_
  rintro e W ⟨rfl,q,rfl⟩;go_wp2_with fail;go_ret;rw[HV.out];exact⟨rfl,bH.still HA.out (aV (ax _ _) q)⟩
 have uz:dq l c.aD.length=true:=by simpa using hmo
 rw[uz] at vH;have hl0:l≠[]:=((j0 _ _).1 uz).2.2;have hl5:l.length<=5:=by have:=e_ uz;omega
 have HV:Hid (c.change (200+(i:Int)) l=((c.ej (200+(i:Int)) ((c.aX (200+(i:Int))).begin (200+(i:Int)) l)).send (((c.aX (200+(i:Int))).begin (200+(i:Int)) l).asks (200+(i:Int))),0)):=ae (by rw[HC.out,if_neg (fun e=>e.elim hu hbg),if_neg hmo])
 have hwf:=AU (n:=c.aD.length) (E:=E) (own:=200+(i:Int)) (s:=c.aX (200+(i:Int))) (l:=l) (by omega) hg.nodes.E0 hms uz
 have hok:∀ z∈((c.aX (200+(i:Int))).begin (200+(i:Int)) l).asks (200+(i:Int)),z.ok=true:=fun z hz=>(tD hwf hn hg.nodes.E0 (by omega) z hz).ok hn hg.nodes.jM
 have hlen:(((c.aX (200+(i:Int))).begin (200+(i:Int)) l).asks (200+(i:Int))).length<=100:=by
  have q1:=yU ((c.aX (200+(i:Int))).begin (200+(i:Int)) l) (200+(i:Int));have q2:=tC hwf hn;omega
 have hgc:w.heap[g1]?=some (.cells (bK hI.rm (by rfl)).choose 204):=(bK hI.rm (by rfl)).choose_spec.1
 have jP:Hid (∀ k,F k->k<w.heap.size):=ae hI.lt;have vE:Hid (∀ W,ai w W->Calls prog 132 #[.slice aL l.length cL] W fun e w1=>∃ x cc,e=.returned (.slice x l.length cc)/\w1.ownsRow w.heap.size 3 1 (.slice x l.length cc) l.length (aJ l)/\ai w w1):=ae fun W hb=>by
  refine (SM _ l W (Jl.out.later hb) hl0 (by omega)).mono ?_
  rintro e w1 ⟨x,cc,rfl,h1,h2⟩;exact⟨x,cc,rfl,obs h1 hb.size,hb.trans (h2.mono hb.size)⟩
 have HN:Hid (∀ V b' vw,ai w V->V.heap[b']?=some (.cells (xp (c.aX (200+(i:Int))).begun i vw) 206)->V.ownsRow w.heap.size 3 1 vw l.length (aJ l)->w.heap.size<=b'->bH w F y (c.ej (200+(i:Int)) ((c.aX (200+(i:Int))).begin (200+(i:Int)) l)) (V.setCell ⟨g1,i,none⟩ (.pointer (some ⟨b',0,none⟩)))/\ea (V.setCell ⟨g1,i,none⟩ (.pointer (some ⟨b',0,none⟩))) (Gr F w (V.setCell ⟨g1,i,none⟩ (.pointer (some ⟨b',0,none⟩)))) b' (.slice none 0 0) ((c.aX (200+(i:Int))).begin (200+(i:Int)) l)):=ae fun V b' vw hb hbl ho hnew=>by
  have zT:b'<V.heap.size:=(aQ hbl);have ho2:=bu (a:=⟨g1,i,none⟩) ho (fun e=>by have:=(ho.lt g1 e).1;omega) (.pointer (some ⟨b',0,none⟩))
  have hS:=ea.begun (F:=Gr F w (V.setCell ⟨g1,i,none⟩ (.pointer (some ⟨b',0,none⟩)))) (s:=c.aX (200+(i:Int))) ((cJ V ⟨g1,i,none⟩ (.pointer (some ⟨b',0,none⟩)) b' (by show b'≠g1;omega)).trans hbl) (obs ho2 (bl _)) (.inr ⟨hnew,by simpa using zT⟩) (bA.new ho2 (aG _))
  exact⟨hI.FM i hil _ b' hb hS hnew,hS⟩
 have jN:Hid (∀ Z b',ea Z (Gr F w Z) b' (.slice none 0 0) ((c.aX (200+(i:Int))).begin (200+(i:Int)) l)->Calls prog 145 #[.pointer (some ⟨b',0,none⟩),.int .i64 (200+(i:Int))] Z fun e w'=>∃ v,e=.returned v/\a_ w' Z.heap.size v (((c.aX (200+(i:Int))).begin (200+(i:Int)) l).asks (200+(i:Int)))/\ai Z w'):=ae fun Z b' hS=>Bv b' _ _ _ _ Z hS hwf.does (hwf.oW hn) (hwf.kP hn);have sf:Hid (∀ Z Y v base,bH w F y (c.ej (200+(i:Int)) ((c.aX (200+(i:Int))).begin (200+(i:Int)) l)) Z->ai Z Y->a_ Y base v (((c.aX (200+(i:Int))).begin (200+(i:Int)) l).asks (200+(i:Int)))->Calls prog 135 #[y,v] Y fun e w'=>(∃ v,e=.returned v)/\bH w F y ((c.ej (200+(i:Int)) ((c.aX (200+(i:Int))).begin (200+(i:Int)) l)).send (((c.aX (200+(i:Int))).begin (200+(i:Int)) l).asks (200+(i:Int)))) w'):=ae fun Z Y v base hZ hb hm=>by
  have hY:=bH.trans jP.out hZ.2 (bH.still hZ.1 hb);refine (xG base v _ hY.1 hg.aE hm hok (by omega)).mono ?_
  rintro e w' ⟨h1,h2⟩;exact⟨h1,bH.trans jP.out hY.2 h2.after⟩
 have HZ:Hid (∀ W,ai w W->W.cell? (y,2)=some (.slice (some g1) 2 cap)/\W.cell? (bm i,1)=some (.int .i64 ((c.aX (200+(i:Int))).begun:Int))/\W.cell? ⟨g1,i,none⟩=some (.pointer (some ⟨bm i,0,none⟩))/\W.frozen? ⟨g1,i,none⟩=false):=ae fun W hb=>⟨aF hb c2,aF hb r1,aF hb hcell,aW ((hb.block _ hgl).trans hgc) i⟩;have hy1:¬ y=g1:=fun e=>by have:=hI.blk;rw[e,hgc] at this;injection this with this;injection this with _ this;exact absurd this (by decide)
 have hy2:¬ bm i=g1:=fun e=>by rw[e,hgc] at hb;injection hb with hb;injection hb with _ hb;exact absurd hb (by decide)
 unfold xp at HN;have hw1:IntKind.i64.wrap (((c.aX (200+(i:Int))).begun:Int)+1)=((c.aX (200+(i:Int))).begun:Int)+1:=by rw[dV];omega
 have hw2:IntKind.i64.wrap (2*(((c.aX (200+(i:Int))).begun:Int)+1))=2*(((c.aX (200+(i:Int))).begun:Int)+1):=by rw[dV];omega
 have hw3:IntKind.i64.wrap (2*(((c.aX (200+(i:Int))).begun:Int)+1)+(i:Int))=2*(((c.aX (200+(i:Int))).begun:Int)+1)+(i:Int):=by rw[dV];omega
 have mixed:prog.follows Departure.mixedOrders=true:=by kernel_rfl
 clear hI hb hch hSt hwf hok hlen hgc hmo uz;generalize c.ej (200+(i:Int)) ((c.aX (200+(i:Int))).begin (200+(i:Int)) l)=c1 at *;generalize ((c.aX (200+(i:Int))).begin (200+(i:Int)) l).asks (200+(i:Int))=ms at *;generalize (c.aX (200+(i:Int))).begin (200+(i:Int)) l=s1 at *;generalize (c.aX (200+(i:Int))).begun=bg at *;go_enter func94,ntmps94;go_wp2_with fail;refine HK.out.mono ?_
 rintro e W ⟨rfl,hW⟩;rw[hW];clear hW W;go_wp2_with fail;refine vH.out.mono ?_
 rintro e W0 ⟨rfl,q,rfl⟩;go_upto_region 10 with fail
 go_cut [6,7,8,9,10] (fun p6 p7 p8 p9 Wj wx=>p8=.int .i64 (i:Int)/\∃ b',bH w F y c1 wx/\ea wx (Gr F w wx) b' (.slice none 0 0) s1/\wx.cell? (y,2)=some (.slice (some g1) 2 cap)/\wx.cell? ⟨g1,i,none⟩=some (.pointer (some ⟨b',0,none⟩)))
 case first =>
  go_region_held3 (fun w'=>w'.cell? (y,2)=some (.slice (some g1) 2 cap)/\w'.cell? (bm i,1)=some (.int .i64 (bg:Int))) (first|(refine⟨?_, ?_⟩<;>first|assumption|(simp[go_sem, *];done))|(simp[go_sem];done)|go_keep)
   (first|(go_at_call 132;refine (vE.out _ (by first|exact ax _ _|exact aV (ax _ _) _|exact (aV (ax _ _) _).drew)).mono ?_;rintro e W1 ⟨x1,y1,rfl,o1,hb1⟩;obtain⟨z1,z2,z3,z4⟩:=HZ.out _ hb1;have zz:∀ o,ai w (W1.alloc o):=fun o=>hb1.alloc hb1.size o;have z5:=fun o=>(HZ.out _ (zz o)).2.2.1;have z6:=fun o=>(HZ.out _ (zz o)).2.2.2;have z7:=fun o=>(HZ.out _ (zz o)).1;have HO:=ae (aP o1 hb1);clear o1 hb1))
  all_goals (
   go_wp2_with fail;go_meet;have hp:=HN.out _ W1.heap.size (.slice x1 l.length y1) (zz _) (hnw W1 _) (aS HO.out.1 fun z _ hz=>((ax _ W1).alloc (aG _) _).block z hz) HO.out.2.size;exact⟨rfl,_,hp.1,hp.2,by simp[go_sem,z7],by simp[go_sem,z5]⟩)
 case rest =>
  obtain⟨rfl,b',hR,hS,q1,q2⟩:=hcut;have Ij:=ae (jN.out _ b' hS);have HR:=ae hR;clear hS hR;go_wp2_with fail;refine Ij.out.mono ?_
  rintro e Y ⟨v9,rfl,Ap,gT⟩;obtain⟨x9,y9,dz⟩:=Ap.shape;subst dz;have HS2:=ae (sf.out _ Y _ _ HR.out gT Ap);clear Ap;go_wp2_with fail;refine HS2.out.mono ?_
  rintro e Y2 ⟨⟨v10,rfl⟩,h10⟩;have pC:=ae h10;clear h10;go_wp2_with fail;go_ret;rw[HV.out];exact⟨rfl,pC.out⟩
theorem Sy (d:Int)(v:Value)(l:List Int)(h:cK w F y c)(hg:Good c E g)(hv:bJ w v l)(hl:l.length<=2000000)(hi : -9223372036854775808<=d/\d<=9223372036854775807) :
  Calls prog 94 #[y,.int .i64 d,v] w fun r w'=>r=.returned (.int .i64 (c.change d l).2)/\bH w F y (c.change d l).1 w':=by
 by_cases hd:b8 d
 ·obtain⟨i,rfl⟩:∃ i:Nat,d=200+(i:Int):=⟨(d-200).toNat,by unfold b8 at hd;omega⟩
  exact Sz i v l h hg hv hl (by unfold b8 at hd;omega)
 ·exact SA d v l h hg hv hd hi
structure l8 (w X:World)(p:Pr)(c':aq)(FX FY:Nat->Prop)(g n:Nat):Prop where
 ex:∃ F' G',dM X F' p.x c'/\cK X G' p.y c'/\(∀ k,F' k->FX k\/g<k)/\(∀ k,G' k->FY k\/g<k)/\∀ k,F' k->¬ G' k
 mv:Moved w X p.F
 blk:∃ cs:Array Value,cs.size=n+1/\X.heap[g]?=some (.cells cs 3)
 qq:X.heap[p.q]?=w.heap[p.q]?
theorem l8.pr {g:Nat}(h:l8 w X p c' FX FY g n)(hg:w.heap.size<=g)(hq:w.heap[p.q]?=some (.cells #[p.x,p.y] 123))(hlt:∀ k,p.F k->k<w.heap.size)(hF:∀ k,k=p.q\/FX k\/FY k->p.F k)(nL:¬ FX p.q)(oC:¬ FY p.q) :
  eX X { p with c:=c',F:=fun k=>p.F k\/(w.heap.size<=k/\k<X.heap.size) }:=by
 obtain⟨⟨F',G',h1,h2,h3,h4,h5⟩,hM, -,hX⟩:=h;have pZ:=hlt p.q (hF _ (.inl rfl));refine⟨F',G',hX.trans hq,h1,h2,fun k e => ?_,⟨h5,fun e => ?_,fun e => ?_⟩,fun k e => ?_⟩
 ·rcases e with e|e|e
  ·exact .inl (hF k (.inl e))
  ·rcases h3 k e with z|z
   ·exact .inl (hF k (.inr (.inl z)))
   ·exact .inr ⟨by omega,h1.lt' e⟩
  ·rcases h4 k e with z|z
   ·exact .inl (hF k (.inr (.inr z)))
   ·exact .inr ⟨by omega,h2.lt' e⟩
 ·rcases h3 _ e with z|z
  ·exact nL z
  ·have:g<p.q:=z
   omega
 ·rcases h4 _ e with z|z
  ·exact oC z
  ·have:g<p.q:=z
   omega
 ·rcases e with e|e
  ·have:=hlt k e
   have:=hM.size;show k<X.heap.size;omega
  ·exact e.2
theorem l8.set {g:Nat}(h:l8 w X p c' FX FY g n)(hlt:∀ k,p.F k->k<w.heap.size)(hF:∀ k,k=p.q\/FX k\/FY k->p.F k)(hg:w.heap.size<=g)(j:Nat)(v:Value):l8 w (X.setCell ⟨g,j,none⟩ v) p c' FX FY g n:=by
 obtain⟨⟨F',G',h1,h2,h3,h4,h5⟩,hM,⟨cs,hcs,hb⟩,hqq⟩:=h;have keep:∀ k,k≠g->(X.setCell ⟨g,j,none⟩ v).heap[k]?=X.heap[k]?:=fun k e=>cJ X ⟨g,j,none⟩ v k e;have n1:∀ k,F' k->k≠g:=fun k e q=>by
  rcases h3 k e with z|z
  ·have:=hlt k (hF k (.inr (.inl z)))
   omega
  ·omega
 have n2:∀ k,G' k->k≠g:=fun k e q=>by
  rcases h4 k e with z|z
  ·have:=hlt k (hF k (.inr (.inr z)))
   omega
  ·omega
 refine⟨⟨F',G', ?_,h2.keep fun k e=>keep k (n2 k e),h3,h4,h5⟩, ?_,⟨_, ?_,bV _ _ _ _ _ _ hb⟩,(keep _ (by have:=hlt p.q (hF _ (.inl rfl));omega)).trans hqq⟩
 ·obtain⟨gs,cap,b,Fn,vr,va,vm,vb,vt,q⟩:=h1
  exact⟨gs,cap,b,Fn,vr,va,vm,vb,vt,q.keep fun k e=>keep k (n1 k e)⟩
 ·have hM2:Moved X (X.setCell ⟨g,j,none⟩ v) (fun k=>k=g):=Rc rfl
  exact⟨hM2.os.trans hM.os,hM2.tape.trans hM.tape,hM2.output.trans hM.output,bP hM.size hM2.size,fun k hk hS=>(keep k (by omega)).trans (hM.block k hk hS)⟩
 ·rw[Array.size_setIfInBounds]
  exact hcs
theorem Qh {gh:Gh}(o:dN)(h:eX w p)(hgd:Good p.c E gh)(hfit:o.Fit)(hk:o.kind=3)(hbe:ai w0 w)(hoff:∀ k,p.F k->w0.heap.size<=k)(nI:kN w0 (.slice o.a o.len o.cap) o.l)(hll:o.l.length<=1048576) :
  Calls prog 45 #[p.q,.agg #[o.kind,o.cl,o.n,o.i,o.e.client,o.e.seq,o.e.kind,o.e.key,o.e.value,.slice o.a o.len o.cap]] w fun e w'=>e=.returned (.bool true)/\eX w' { p with c:=(p.c.change o.n o.l).1,F:=fun k=>p.F k\/(w.heap.size<=k/\k<w'.heap.size) }/\Moved w w' p.F:=by
 obtain⟨B,hB,bz,bf⟩:=ch w #[o.kind,o.cl,o.n,o.i,o.e.client,o.e.seq,o.e.kind,o.e.key,o.e.value,.slice o.a o.len o.cap] 71;obtain⟨FX,FY,hq,hX0,hY0,hF,⟨i6,nL,oC⟩,hlt⟩:=h;have eb:B.heap.size=w.heap.size+1:=by rw[<- hB];simp
 have Ey:ai w0 B:=hbe.trans (bz.mono hbe.size);have EA:=hbe.size;have m0:=au bf 0;have m9:=au bf 9;have yn:=ae (Qf (.slice o.a o.len o.cap) o.l B (nI.1.later Ey) (by omega))
 have mixed:prog.follows Departure.mixedOrders=true:=by kernel_rfl
 have HP:Hid (∀ W1,ai B W1->W1.heap[B.heap.size]?=some (.cells (aJ (o.l++[-77])).toArray 3)->W1.cell? (p.q,0)=some (.pointer (some p.x))/\W1.heap[w.heap.size]?=some (.cells #[o.kind,o.cl,o.n,o.i,o.e.client,o.e.seq,o.e.kind,o.e.key,o.e.value,.slice o.a o.len o.cap] 71)/\∀ W,W=W1.drew->Calls prog 18 #[p.x,o.n,.slice (some B.heap.size) o.l.length (o.l.length+1)] W fun r w1=>r=.returned (.int .i64 (p.c.change o.n o.l).2)/\bW W1 FX p.x (p.c.change o.n o.l).1 w1):=ae fun W1 hb1 hg1=>by
  have hbw:ai w W1:=bz.trans (hb1.mono bz.size);have pZ:p.q<w.heap.size:=(aQ hq);refine⟨aj ((hbw.block _ pZ).trans hq) 0,(hb1.block _ (aQ bf)).trans bf,fun W hW => ?_⟩
  subst hW;have hbd:ai W1 W1.drew:=(ax _ W1).drew;have hIn:kN W1.drew (.slice (some B.heap.size) o.l.length (o.l.length+1)) o.l:=⟨⟨_,_,rfl,fun i hi=>⟨_,0,rfl,by
   have:=aj (w:=W1.drew) (B:=B.heap.size) hg1 (0+i);rw[this,fh];rw[List.getElem?_toArray]
   unfold aJ;rw[fe,List.getElem?_append_left hi,bU hi,ew,bU hi]
   rfl⟩⟩,_,_,rfl,Nat.le_succ _⟩
  refine (Lr o.n _ o.l ((hX0.below' hbw).below' hbd) hgd hIn (by omega) (fun k e e2 => ?_)).mono ?_
  ·have e3:B.heap.size=k:=by simpa [Value.ownBlock] using e
   have:=hlt k (hF k (.inr (.inl e2)));omega
  ·rintro e w1 ⟨h1,h2⟩
   exact⟨h1,bW.trans ((Moved.refl W1 FX).below hbd) (fun _ e=>.inl e) h2⟩
 have HQ:Hid (∀ W1 W2,ai B W1->W1.heap[B.heap.size]?=some (.cells (aJ (o.l++[-77])).toArray 3)->bW W1 FX p.x (p.c.change o.n o.l).1 W2->W2.cell? (p.q,1)=some (.pointer (some p.y))/\W2.heap[w.heap.size]?=some (.cells #[o.kind,o.cl,o.n,o.i,o.e.client,o.e.seq,o.e.kind,o.e.key,o.e.value,.slice o.a o.len o.cap] 71)/\∀ W,W=W2.drew->Calls prog 94 #[p.y,o.n,.slice o.a o.len o.cap] W fun r w3=>r=.returned (.int .i64 (p.c.change o.n o.l).2)/\l8 w w3 p (p.c.change o.n o.l).1 FX FY B.heap.size o.l.length/\w3.heap[B.heap.size]?=some (.cells (aJ (o.l++[-77])).toArray 3)/\ai w0 w3/\w3.heap[w.heap.size]?=some (.cells #[o.kind,o.cl,o.n,o.i,o.e.client,o.e.seq,o.e.kind,o.e.key,o.e.value,.slice o.a o.len o.cap] 71)):=ae fun W1 W2 hb1 hg1 hC=>by
  have hbw:ai w W1:=bz.trans (hb1.mono bz.size);have pZ:p.q<w.heap.size:=(aQ hq);have N8:=(aQ hg1);have zI:∀ k,FX k->k<w.heap.size:=fun k e=>hlt k (hF k (.inr (.inl e)));have pV:∀ k,FY k->k<w.heap.size:=fun k e=>hlt k (hF k (.inr (.inr e)));have s1:=hb1.size;obtain⟨F',a1,a2,a3⟩:=hC;have s2:=a2.size;have key:∀ k,k<W1.heap.size->¬ FX k->W2.heap[k]?=W1.heap[k]?:=fun k h1 h2=>a2.block k h1 h2;have kq:W2.heap[p.q]?=w.heap[p.q]?:=(key _ (by omega) nL).trans (hbw.block _ pZ)
  have kb:W2.heap[w.heap.size]?=some (.cells #[o.kind,o.cl,o.n,o.i,o.e.client,o.e.seq,o.e.kind,o.e.key,o.e.value,.slice o.a o.len o.cap] 71):=(key _ (by omega) (fun e=>by have:=zI _ e;omega)).trans ((hb1.block _ (aQ bf)).trans bf)
  have kg:W2.heap[B.heap.size]?=some (.cells (aJ (o.l++[-77])).toArray 3):=(key _ N8 (fun e=>by have:=zI _ e;omega)).trans hg1
  refine⟨aj (kq.trans hq) 1,kb,fun W hW => ?_⟩
  subst hW;have hbd:ai W2 W2.drew:=(ax _ W2).drew;have hY2:cK W2 FY p.y p.c:=(hY0.below hbw).keep fun k e=>key k (by have:=pV k e;omega) (fun e2=>i6 k e2 e)
  have hM2:Moved w W2 p.F:=((Moved.refl w p.F).below hbw).trans (a2.wider (fun k e=>hF k (.inr (.inl e)))) (fun _ _ e=>e);have Nr:ai w0 W2:=hbe.trans (hM2.jg (fun k q=>hoff k q) EA);refine (Sy o.n _ o.l (hY2.below hbd) hgd ((nI.1.later Nr).later hbd) (by omega) hfit.n).mono ?_
  rintro e w3 ⟨rfl,h2⟩;have h3:bH W2 FY p.y (p.c.change o.n o.l).1 w3:=bH.before hY2 hbd h2;have s3:=h3.2.size;have xe:∀ k,k<W2.heap.size->¬ FY k->w3.heap[k]?=W2.heap[k]?:=fun k h1 h2=>h3.2.block k h1 h2;have i5:Moved w w3 p.F:=hM2.trans (h3.2.wider (fun k e=>hF k (.inr (.inr e)))) (fun _ _ e=>e);have Fw:w3.heap[B.heap.size]?=some (.cells (aJ (o.l++[-77])).toArray 3):=(xe _ (by omega) (fun e=>by have:=pV _ e;omega)).trans kg
  refine⟨rfl,⟨⟨F',Gr FY W2 w3, ?_,h3.1,fun k e => ?_,fun k e => ?_,fun k e1 e2 => ?_⟩,i5,⟨_,by simp[aJ],Fw⟩,(xe _ (by omega) oC).trans kq⟩,Fw,hbe.trans (i5.jg (fun k q=>hoff k q) EA),(xe _ (by omega) (fun e=>by have:=pV _ e;omega)).trans kb⟩
  ·obtain⟨gs,cap,b,Fn,vr,va,vm,vb,vt,z⟩:=a1
   refine⟨gs,cap,b,Fn,vr,va,vm,vb,vt,z.keep fun k e=>xe k (z.lt k e) (fun e2 => ?_)⟩
   rcases a3 k e with q|q
   ·exact i6 k q e2
   ·have:=pV k e2
    omega
  ·rcases a3 k e with q|q
   ·exact .inl q
   ·exact .inr (by omega)
  ·rcases e with q|q
   ·exact .inl q
   ·exact .inr (by omega)
  ·rcases e2 with q|q
   ·rcases a3 k e1 with z|z
    ·exact i6 k z q
    ·have:=pV k q
     omega
   ·have:=dM.lt' a1 e1
    omega
 have hk3:(o.kind == 3)=true:=by simp[hk]
 have kK:Hid (∀ X,l8 w X p (p.c.change o.n o.l).1 FX FY B.heap.size o.l.length->eX X { p with c:=(p.c.change o.n o.l).1,F:=fun k=>p.F k\/(w.heap.size<=k/\k<X.heap.size) }/\Moved w X p.F):=ae fun X hX=>⟨hX.pr (by omega) hq hlt hF nL oC,hX.mv⟩
 have Jg:Hid (∀ X j v,l8 w X p (p.c.change o.n o.l).1 FX FY B.heap.size o.l.length->l8 w (X.setCell ⟨B.heap.size,j,none⟩ v) p (p.c.change o.n o.l).1 FX FY B.heap.size o.l.length):=ae fun X j v hX=>hX.set hlt hF (by omega) j v
 have IC:Hid (∀ X,X.heap[B.heap.size]?=some (.cells (aJ (o.l++[-77])).toArray 3)->ai w0 X->Calls prog 96 #[.slice (some B.heap.size) o.l.length (o.l.length+1),.slice o.a o.len o.cap] X fun e w'=>e=.returned (.bool true)/\∃ q,w'=X.drewN q):=ae fun X hX hbX=>by
  refine PG B.heap.size (.slice o.a o.len o.cap) o.l X ⟨_,_,rfl,fun i hi=>⟨_,0,rfl, ?_⟩⟩ (nI.1.later hbX) ?_ (by omega)
  ·rw[aj hX,fh,List.getElem?_toArray]
   unfold aJ;rw[fe,List.getElem?_append_left hi,bU hi,ew,bU hi]
   rfl
  ·rw[aj hX,List.getElem?_toArray]
   unfold aJ;rw[fe,kH (aG _),Nat.sub_self];rfl
 have Is:Hid (∀ X q,l8 w X p (p.c.change o.n o.l).1 FX FY B.heap.size o.l.length->l8 w (X.drewN q) p (p.c.change o.n o.l).1 FX FY B.heap.size o.l.length):=ae fun X q hX=>by
  obtain⟨⟨F',G',h1,h2,h3,h4,h5⟩,hM,h6,h7⟩:=hX;exact⟨⟨F',G',h1.below' (aV (ax _ _) q),h2.below (aV (ax _ _) q),h3,h4,h5⟩,hM.mX (aV (ax _ _) q) (aG _),h6,h7⟩
 generalize (p.c.change o.n o.l).2=en at *;generalize (p.c.change o.n o.l).1=cn at *;clear bf hX0 hY0 hgd Ey hbe hoff hq i6 nL oC hlt hF hk;generalize M9:B.heap.size=gB at *;clear eb M9;have hL0:(0:Int)<=(o.l.length:Int):=by omega
 go_enter func45,ntmps45;go_wp2_with fail;refine yn.out.mono ?_
 rintro e W1 ⟨rfl,hb1,hg1⟩;obtain⟨x0,z1,hX⟩:=HP.out W1 hb1 hg1;have HX:=ae hX;have n0:=aj z1 0;have n2:=aj z1 2;have CA:=ae (fun W2=>HQ.out W1 W2 hb1 hg1);clear m0 m9 z1 hX hg1 HP HQ;go_upto_region 5 with fail
 go_cut [3,5,6,7] (fun p3 p5 p6 p7 wx=>p3=.pointer (some w.heap.size)/\p5=.slice (some gB) o.l.length (o.l.length+1)/\p6=.int .i64 en/\p7=.int .i64 0/\bW W1 FX p.x cn wx)
 case first =>
  go_region_law (first|(rw[if_pos (by simp[Region.wanted])];go_simp;go_at_call 18;refine (HX.out _ rfl).mono ?_;rintro e W2 ⟨rfl,hC⟩;have HC:=ae hC;clear hC))
  all_goals (
   go_wp2_with fail;go_meet;exact⟨rfl,rfl,rfl,rfl,HC.out⟩)
 case rest =>
  obtain⟨rfl,rfl,rfl,rfl,hC⟩:=hcut;obtain⟨y0,z2,hY⟩:=CA.out wc hC;have HY:=ae hY;have k2:=aj z2 2;have k9:=aj z2 9;clear x0 n0 n2 z2 hY hC HX CA;go_upto_region 6 with fail
  go_cut [3,5,6,7] (fun p3 p5 p6 p7 wx=>p3=.pointer (some w.heap.size)/\p5=.slice (some gB) o.l.length (o.l.length+1)/\p6=.int .i64 en/\p7=.int .i64 en/\l8 w wx p cn FX FY gB o.l.length/\wx.heap[gB]?=some (.cells (aJ (o.l++[-77])).toArray 3)/\ai w0 wx/\wx.heap[w.heap.size]?=some (.cells #[o.kind,o.cl,o.n,o.i,o.e.client,o.e.seq,o.e.kind,o.e.key,o.e.value,.slice o.a o.len o.cap] 71))
  case first =>
   go_region_law (first|(rw[if_pos (by simp[Region.wanted])];go_simp;go_at_call 94;refine (HY.out _ rfl).mono ?_;rintro e W2 ⟨rfl,hC⟩;have HC:=ae hC;clear hC))
   all_goals (
    go_wp2_with fail;go_meet;exact⟨rfl,rfl,rfl,rfl,HC.out⟩)
  case rest =>
   obtain⟨rfl,rfl,rfl,rfl,hL,hg3,hb3,hz3⟩:=hcut;have j9:=aj hz3 9;have HK:=ae (IC.out _ hg3 hb3);have HL:=ae hL;clear y0 k2 k9 HY hL hg3 hb3 hz3;go_wp2_with fail;refine HK.out.mono ?_
   rintro e W4 ⟨rfl,q4,rfl⟩;have yi:=ae (Is.out _ q4 HL.out);have hen:(en == en)=true:=by simp
   clear j9 HK;go_wp2_with fail;go_loopw [9] (fun i wr=>∃ k:Nat,k<=o.l.length/\i=.int .i64 k/\l8 w wr p cn FX FY gB o.l.length) (fun i _=>o.l.length-(intOf i).toNat)
   case atStart=>exact⟨0,bl _,rfl,yi.out⟩
   case round =>
    obtain⟨k,hk,rfl,hL⟩:=hrel;obtain⟨cs,hcs,hcb⟩:=hL.blk;by_cases hlt:k<o.l.length
    ·have hk0:(0:Int)<=(k:Int):=by omega
     have hk1:(k:Int)<(o.l.length:Int):=by omega
     have ck:wr.cell? ⟨gB,k,none⟩=some cs[k]:=by rw[aj hcb];exact Array.getElem?_eq_getElem (by omega)
     have cf:=aW hcb k;have HL2:=ae (Jg.out wr k (.int .i64 (-78)) hL);clear hL hcb;go_wp2_with fail;go_roundw
     case rel=>exact⟨k+1,by omega,by go_num,HL2.out⟩
     case measure=>simp[intOf];omega
    ·obtain rfl:k=o.l.length:=by omega
     have HE:=ae (kK.out wr hL);clear hL hcb;go_wp2_with fail;go_ret;exact⟨rfl,HE.out⟩
theorem PQ {x5:Value}{j:Nat}(o:dN)(h:bZ w0 w B x5 M ps)(hj:ps[j]?=some p)(hk:∀ p∈ps,Kept p.c T)(_hT:T<=2999999999999)(hfit:o.Fit)(hkd:o.kind=3)(nI:kN w0 (.slice o.a o.len o.cap) o.l)(hll:o.l.length<=1048576) :
  Calls prog 45 #[p.q,.agg #[o.kind,o.cl,o.n,o.i,o.e.client,o.e.seq,o.e.kind,o.e.key,o.e.value,.slice o.a o.len o.cap]] w fun e w'=>e=.returned (.bool true)/\∃ ps',bZ w0 w' B x5 M ps'/\(∀ p∈ps',Kept p.c (T+1))/\ps'.length=ps.length/\ps'.map Pr.q=ps.map Pr.q:=by
 have hp:p∈ps:=dU hj;have hkp:=hk p hp;obtain⟨E,g,hg⟩:=hkp.good;obtain⟨b,vC,vI,vL,vT,vA,h⟩:=h;have hnew:=h.new;refine (Qh o (h.jd p hp) hg hfit hkd h.be (fun k e=>by have:=(h.off p hp k e).1;omega) nI hll).mono ?_
 rintro e w' ⟨rfl,hP',hM'⟩;have hsp:=He ps j p hj;refine⟨rfl,ps.take j++{ p with c:=(p.c.change o.n o.l).1,F:=fun k=>p.F k\/(w.heap.size<=k/\k<w'.heap.size) } :: ps.drop (j+1),⟨b,vC,vI,vL,vT,vA, ?_⟩,fun r hr => ?_, ?_, ?_⟩
 ·rw[hsp] at h
  exact h.stepped rfl hM' hP' (fun k e=>e.imp id (fun q=>q.1))
 ·rcases fE.1 hr with q|q
  ·have:=hk r (List.mem_of_mem_take q)
   exact⟨this.good,by have:=this.told;omega⟩
  ·rcases gK.1 q with q|q
   ·rw[q]
    exact hkp.change o.n o.l
   ·have:=hk r (List.mem_of_mem_drop q)
    exact⟨this.good,by have:=this.told;omega⟩
 ·have:ps.length=(ps.take j++p :: ps.drop (j+1)).length:=by rw[<- hsp]
  rw[this];simp
 ·conv=>rhs;rw[hsp]
  simp
set_option linter.unusedVariables false in
theorem TY (o:dN)(h:bZ w0 w B (.int .i64 63230) M ps)(hs:pI ps T M o)(hk:o.kind=3)(nI:kN w0 (.slice o.a o.len o.cap) o.l)(hll:o.l.length<=1048576) :
  Calls prog 23 #[B,.agg #[o.kind,o.cl,o.n,o.i,o.e.client,o.e.seq,o.e.kind,o.e.key,o.e.value,.slice o.a o.len o.cap]] w fun e w'=>e=.returned (.bool true)/\∃ ps',bZ w0 w' B (.int .i64 63230) (M+8) ps'/\(∀ p∈ps',Kept p.c (T+1))/\ps.length<=ps'.length/\ps'.length<=ps.length+1:=by
 obtain⟨X,hX,hbX,dx⟩:=ch w #[o.kind,o.cl,o.n,o.i,o.e.client,o.e.seq,o.e.kind,o.e.key,o.e.value,.slice o.a o.len o.cap] 71;have m0:=au dx 0;have m1:=au dx 1;have m2:=au dx 2;have gM:=fun j=>aj dx j;have dR:=h.below hbX;have c5:=dR.mask;have HL:=ae dR;have HS:=ae hs;obtain⟨aC,cC,r0,rC⟩:=dR.row;have hpr:=Bj o.cl (ps.length:Int) (by have:=hs.pos;omega)
 obtain⟨j,hjp⟩:∃ j:Nat,lO o.cl (ps.length:Int)=(j:Int):=⟨(lO o.cl (ps.length:Int)).toNat,by omega⟩
 have hjl:j<ps.length:=by omega
 obtain⟨p,hj⟩:∃ p,ps[j]?=some p:=⟨_,bU hjl⟩;have hpm:p∈ps:=dU hj;obtain⟨gC,hga,rj⟩:=rC j p hj;subst hga;have HP:Hid (∀ q,Calls prog 44 #[o.cl,.int .i64 (ps.length:Int)] (X.drewN q) fun e w'=>e=.returned (.int .i64 (j:Int))/\w'=X.drewN q):=ae fun q=>by
  rw[<- hjp];exact Bl o.cl (ps.length:Int) (X.drewN q) (by have:=hs.pos;omega) (by have:=hs.len;omega) hs.cl.1 hs.cl.2
 have hj1:(j:Int)<(ps.length:Int):=by omega
 have hj0:(0:Int)<=(j:Int):=by omega
 have HO:Hid (∀ q,Calls prog 45 #[p.q,.agg #[o.kind,o.cl,o.n,o.i,o.e.client,o.e.seq,o.e.kind,o.e.key,o.e.value,.slice o.a o.len o.cap]] (X.drewN q) fun e w'=>e=.returned (.bool true)/\∃ ps',bZ w0 w' B (.int .i64 63230) (M+8) ps'/\(∀ p∈ps',Kept p.c (T+1))/\ps.length<=ps'.length/\ps'.length<=ps.length+1):=ae fun q=>by
  have nE:=dR.below (aV (ax X.heap.size X) q);refine (PQ o nE hj hs.kept (by have:=hs.t;omega) hs.fit hk nI hll).mono ?_
  rintro e w' ⟨rfl,ps',h1,h2,h3, -⟩;exact⟨rfl,ps',h1.less (by omega),h2,by omega,by omega⟩
 clear h dR hs dx hpr hjp rC hj;rw[hk] at m0 hX gM HO |-;go_enter func23,ntmps23;go_wp2_with fail;go_quiet (fail);go_wp2_with fail;go_upto_region 5 with fail
 go_cut [3,5] (fun p3 p5 wx=>p3=.pointer (some w.heap.size)/\p5=.pointer (some p.q)/\∃ q,wx=X.drewN q)
 case first =>
  go_region_law (first|(rw[if_pos (by simp[Region.wanted])];go_simp;go_at_call 44;refine (HP.out _).mono ?_;rintro e W1 ⟨rfl,rfl⟩))
  all_goals (
   go_wp2_with fail;go_meet;exact⟨rfl,rfl,_,rfl⟩)
 case rest =>
  obtain⟨rfl,rfl,q,rfl⟩:=hcut;go_wp2_with fail;refine (HO.out q).mono ?_
  rintro e W ⟨rfl,hq⟩;have HQ:=ae hq;clear hq;go_wp2_with fail;go_ret;exact⟨rfl,HQ.out⟩
end Go.Proofs.YtgieeeeeiggoeaaGreat
