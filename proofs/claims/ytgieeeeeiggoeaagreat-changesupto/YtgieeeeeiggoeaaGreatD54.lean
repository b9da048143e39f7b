import Derived.Test.YtgieeeeeiggoeaaGreatD52
import Derived.Test.YtgieeeeeiggoeaaGreatD53
set_option maxRecDepth 100000
set_option maxHeartbeats 4000000
namespace Go.Proofs.YtgieeeeeiggoeaaGreat
open Go.RowKit Go.Shelf
open Tryz
variable {ps:List Pr}{B M T:Nat}{x5:Value}{w w0:World}
set_option linter.unusedVariables false in
theorem TZ (o:dN)(h:bZ w0 w B (.int .i64 63230) M ps)(hs:pI ps T M o)(hk:o.kind<1) :
  Calls prog 23 #[B,.agg #[o.kind,o.cl,o.n,o.i,o.e.client,o.e.seq,o.e.kind,o.e.key,o.e.value,.slice o.a o.len o.cap]] w fun e w'=>e=.returned (.bool true)/\∃ ps',bZ w0 w' B (.int .i64 63230) (M+8) ps'/\(∀ p∈ps',Kept p.c (T+1))/\ps.length<=ps'.length/\ps'.length<=ps.length+1:=by
 obtain⟨X,hX,hbX,dx⟩:=ch w #[o.kind,o.cl,o.n,o.i,o.e.client,o.e.seq,o.e.kind,o.e.key,o.e.value,.slice o.a o.len o.cap] 71;have m0:=au dx 0;have dR:=h.below hbX;have HL:=ae dR;have HS:=ae hs;have d1:decide (o.kind<1)=true:=eR hk;clear h dR hs dx;go_enter func23,ntmps23;go_wp2_with fail;go_quiet (fail);go_wp2_with fail;go_ret;exact⟨rfl,ps,(HL.out.below (aV (ax _ _) _)).less (by omega),fun p hp=>(HS.out.kept p hp).more (by omega),aG _,by omega⟩
set_option linter.unusedVariables false in
theorem TX (o:dN)(h:bZ w0 w B (.int .i64 63230) M ps)(hs:pI ps T M o)(hk:15<o.kind) :
  Calls prog 23 #[B,.agg #[o.kind,o.cl,o.n,o.i,o.e.client,o.e.seq,o.e.kind,o.e.key,o.e.value,.slice o.a o.len o.cap]] w fun e w'=>e=.returned (.bool true)/\∃ ps',bZ w0 w' B (.int .i64 63230) (M+8) ps'/\(∀ p∈ps',Kept p.c (T+1))/\ps.length<=ps'.length/\ps'.length<=ps.length+1:=by
 obtain⟨X,hX,hbX,dx⟩:=ch w #[o.kind,o.cl,o.n,o.i,o.e.client,o.e.seq,o.e.kind,o.e.key,o.e.value,.slice o.a o.len o.cap] 71;have m0:=au dx 0;have dR:=h.below hbX;have HL:=ae dR;have HS:=ae hs;have hn:¬ o.kind<1:=by omega
 have d1:decide (o.kind<1)=false:=ee hn;have d2:decide (15<o.kind)=true:=eR hk;clear h dR hs dx;go_enter func23,ntmps23;go_wp2_with fail;go_quiet (fail);go_wp2_with fail;go_ret;exact⟨rfl,ps,(HL.out.below (aV (ax _ _) _)).less (by omega),fun p hp=>(HS.out.kept p hp).more (by omega),aG _,by omega⟩
theorem PR (o:dN)(h:bZ w0 w B (.int .i64 63230) M ps)(hs:pI ps T M o)(nI:kN w0 (.slice o.a o.len o.cap) o.l)(hll:o.l.length<=1048576) :
  Calls prog 23 #[B,.agg #[o.kind,o.cl,o.n,o.i,o.e.client,o.e.seq,o.e.kind,o.e.key,o.e.value,.slice o.a o.len o.cap]] w fun e w'=>e=.returned (.bool true)/\∃ ps',bZ w0 w' B (.int .i64 63230) (M+8) ps'/\(∀ p∈ps',Kept p.c (T+1))/\ps.length<=ps'.length/\ps'.length<=ps.length+1:=by
 by_cases h0:o.kind<1
 ·exact TZ o h hs h0
 by_cases h16:15<o.kind
 ·exact TX o h hs h16
 by_cases h1:o.kind=1
 ·exact TU o h hs h1
 by_cases h2:o.kind=3
 ·exact TY o h hs h2 nI hll
 by_cases h3:o.kind=8\/o.kind=11
 ·exact T1 o h hs h3
 by_cases h12:o.kind=12\/o.kind=13\/o.kind=14\/o.kind=15
 ·exact TW o h hs h12
 exact T2 o h hs (by omega)
theorem PS (h:bZ w0 w B x5 M ps)(hM:M<=1000000000) :
  Calls prog 24 #[.pointer (some ⟨B,1,none⟩)] w fun e w'=>e=.returned (.bool true)/\bZ w0 w' B x5 M ps:=by
 have hL:=h;obtain⟨b,vC,vI,vL,vT,vA,h⟩:=h;have hs:=h.small;refine (h.book.whole (by omega) (by omega) (by omega) (by omega)).mono ?_
 rintro e w' ⟨rfl,hb⟩;exact⟨rfl,hL.below hb⟩
theorem PO (h:bZ w0 w B x5 0 []) :
  Calls prog 22 #[B] w fun e w'=>e=.returned (.bool true)/\∃ ps',bZ w0 w' B x5 4 ps'/\(∀ p∈ps',Kept p.c 1)/\ps'.length=1:=by
 have H1:=ae (FC 3 h (by simp))
 clear h;go_enter func22,ntmps22;go_wp2_with fail;refine H1.out.mono ?_
 rintro e W1 ⟨rfl,Bp,hL1,E2⟩;obtain⟨p,hp1,Ov⟩:∃ p,p.c=aq.first 3/\Bp=[p]:=by
  rcases E2 with ⟨-, -,p,q1,q2⟩|⟨q, -⟩
  ·exact⟨p,q1,by simpa using q2⟩
  ·exact absurd ⟨by omega,by omega⟩ q
 subst Ov;obtain⟨aC,cC,c0,rC⟩:=hL1.row;obtain⟨gC,hga,rj⟩:=rC 0 p rfl;subst hga;have yv:Hid (Calls prog 42 #[p.q,.agg #[.int .i64 2,(),(),(),.int .i64 3,.int .i64 999,.int .i64 1,.int .i64 15,.int .i64 1,true]] W1 fun e w'=>e=.returned (.bool true)/\∃ p',p'.q=p.q/\bZ w0 w' B x5 0 [p']/\Kept p'.c 1):=ae (by
  refine (FD ⟨2,0,0,0,⟨3,999,1,15,1⟩,none,0,0,[]⟩ hL1 (j:=0) rfl (T:=0) (fun r hr=>by rw[dg] at hr;rw[hr,hp1];exact Kept.first 3 (by omega) (by omega)) (by omega) ⟨by decide,by decide⟩ (.inl rfl)).mono ?_
  rintro e w' ⟨rfl,ps',h1,h2,h3,h4⟩;match ps',h3 with
  | [p'],_ =>
   refine⟨rfl,p', ?_,h1,h2 p' (dg.2 rfl)⟩
   simpa using h4)
 clear hL1 E2 rC;go_wp2_with fail;refine yv.out.mono ?_
 rintro e W2 ⟨rfl,p',hq,hL2,hK⟩;have HB:Hid (Calls prog 43 #[B,p.q] W2 fun e w'=>e=.returned (.bool true)/\bZ w0 w' B x5 4 [p']):=ae (by
  obtain⟨E,g,hg⟩:=hK.good;rw[<- hq];exact AR hL2 (dg.2 rfl) hg (by omega))
 have IE:=ae hK;clear hL2 hK hq c0 rj;go_wp2_with fail;refine HB.out.mono ?_
 rintro e W3 ⟨rfl,hL3⟩;have kL:=ae hL3;clear hL3;go_wp2_with fail;go_ret;exact⟨rfl,[p'],kL.out,fun r hr=>by rw[dg] at hr;rw[hr];exact IE.out,rfl⟩
def yL (w:World)(v:Value)(l:List dN):Prop :=
 ∃ a c,v=.slice a l.length c/\∀ i o,l[i]?=some o->∃ b off,a=some ⟨b,off,none⟩/\b<w.heap.size/\(∀ t,t<10->w.cell? ⟨b,off+i*10+t,none⟩=(#[.int .i64 o.kind,.int .i64 o.cl,.int .i64 o.n,.int .i64 o.i,.int .i64 o.e.client,.int .i64 o.e.seq,.int .i64 o.e.kind,.int .i64 o.e.key,.int .i64 o.e.value,.slice o.a o.len o.cap]:Array Value)[t]?)/\o.Fit/\(-9223372036854775808<=o.cl/\o.cl<=9223372036854775807)/\kN w (.slice o.a o.len o.cap) o.l/\o.l.length<=1048576
theorem UI (v:Value)(l:List dN)(w:World)(hv:yL w v l)(hl:l.length<=1048576) :
  Calls prog 10 #[v,.int .i64 63230] w fun e w'=>e=.returned (.int .i64 (-1))/\Below (w.heap.size) w w':=by
 obtain⟨a,cp,rfl,hv⟩:=hv;have HV:=ae hv;obtain⟨X,hX,hbX,hM⟩:=ch w #[true,true,true,true,true,.int .i64 63230] 67;have dR:=PT (.int .i64 63230) hbX hM;have HK:=ae (PO dR);generalize hB:w.heap.size=B at *;clear hv hM dR;go_enter func10,ntmps10;go_wp2_with fail;refine HK.out.mono ?_
 rintro e W1 ⟨rfl,Bp,hL1,hk1,hn1⟩;have H1:=ae (aP hL1 (aP hk1 hn1));clear hL1 hk1 hn1;go_wp2_with fail;go_loopw [6,7] (fun ok i wr=>∃ k:Nat,k<=l.length/\i=.int .i64 k/\(∃ ob:Bool,ok=.bool ob)/\∃ ps,bZ w wr B (.int .i64 63230) (4+8*k) ps/\(∀ p∈ps,Kept p.c (1+k))/\1<=ps.length/\ps.length<=1+k) (fun _ i _=>l.length-(intOf i).toNat)
 case atStart=>exact⟨0,bl _,rfl,⟨_,rfl⟩,Bp,H1.out.1,H1.out.2.1,by have:=H1.out.2.2;omega,by have:=H1.out.2.2;omega⟩
 case round =>
  obtain⟨k,hk,rfl,⟨ob,rfl⟩,ps,hL,hkp,hp1,hp2⟩:=hrel;have HL:=ae (aP hL (aP hkp (aP hp1 hp2)));have hbe:Below (w.heap.size) w wr:=by
   obtain⟨b,vC,vI,vL,vT,vA,h⟩:=hL;exact h.be
  by_cases hlt:k<l.length
  ·have hk0:(0:Int)<=(k:Int):=by omega
   have hk1:(k:Int)<(l.length:Int):=by omega
   obtain⟨o,ho⟩:∃ o,l[k]?=some o:=⟨_,bU hlt⟩;obtain⟨b,off,rfl,hbl,hcell,hfit,hcl,nI,hll⟩:=HV.out k o ho;have vO:=ae (PR (M:=4+8*k) (T:=1+k) o hL ⟨hkp,by omega,by omega,by omega,by omega,hfit,hcl⟩ nI hll)
   have cw:∀ t,t<10->wr.cell? ⟨b,off+k*10+t,none⟩=(#[.int .i64 o.kind,.int .i64 o.cl,.int .i64 o.n,.int .i64 o.i,.int .i64 o.e.client,.int .i64 o.e.seq,.int .i64 o.e.kind,.int .i64 o.e.key,.int .i64 o.e.value,.slice o.a o.len o.cap]:Array Value)[t]?:=fun t ht=>by
    have hc:=hcell t ht;have hlt2:t<10:=ht;obtain⟨u,hu⟩:∃ u,(#[.int .i64 o.kind,.int .i64 o.cl,.int .i64 o.n,.int .i64 o.i,.int .i64 o.e.client,.int .i64 o.e.seq,.int .i64 o.e.kind,.int .i64 o.e.key,.int .i64 o.e.value,.slice o.a o.len o.cap]:Array Value)[t]?=some u:=⟨_,Array.getElem?_eq_getElem hlt2⟩
    rw[hu] at hc |-;exact aF hbe hc
   have q0:=cw 0 (by omega)
   have q1:=cw 1 (by omega)
   have q2:=cw 2 (by omega)
   have q3:=cw 3 (by omega)
   have q4:=cw 4 (by omega)
   have q5:=cw 5 (by omega)
   have q6:=cw 6 (by omega)
   have q7:=cw 7 (by omega)
   have q8:=cw 8 (by omega)
   have q9:=cw 9 (by omega)
   simp only [Nat.add_zero] at q0;clear cw hcell hL hkp;go_wp2_with fail;refine vO.out.mono ?_
   rintro e W2 ⟨rfl,ps',hL2,hk2,hn2,At⟩;have HW:=ae (PS hL2 (by omega))
   have H2:=ae (aP hk2 (aP hn2 At));clear hL2 hk2 q0 q1 q2 q3 q4 q5 q6 q7 q8 q9;go_wp2_with fail;refine HW.out.mono ?_
   rintro e W3 ⟨rfl,hL3⟩;have kL:=ae hL3;clear hL3;go_wp2_with fail;go_roundw
   case rel =>
    refine⟨k+1,by omega,by go_num,⟨_,rfl⟩,ps',kL.out.less (by omega),fun p hp=>(H2.out.1 p hp).more (by omega), ?_, ?_⟩
    ·have:=H2.out.2.1;omega
    ·have:=H2.out.2.2;omega
   case measure=>simp[intOf];omega
  ·obtain rfl:k=l.length:=by omega
   have jN:=ae (PN hL (fun p hp=>⟨(hkp p hp).good,by have:=(hkp p hp).told;omega⟩) (by omega) (by omega))
   clear hL hkp;go_wp2_with fail;refine jN.out.mono ?_
   rintro e W4 ⟨rfl,hb4⟩;go_wp2_with fail;go_ret;exact⟨rfl,by rw[<- hB];exact hb4⟩
theorem K_ (w:World):Calls prog 11 #[] w fun e w'=>e=.returned (.int .i64 63222)/\w'=w:=by
 go_enter func11,ntmps11;go_wp2_with fail;go_ret;exact⟨rfl,rfl⟩
theorem Lc (v:Value)(l:List dN)(w:World)(hv:yL w v l)(hl:l.length<=1048576) :
  Calls prog 4 #[v] w fun e w'=>e=.returned (.bool true)/\Below (w.heap.size) w w':=by
 have HU:=ae (UI v l w hv hl);have HC:=ae (K_ w);obtain⟨a,cp,rfl,hv⟩:=hv;clear hv;go_enter func4,ntmps4;go_wp2_with fail;refine HC.out.mono ?_
 rintro e W ⟨rfl,rfl⟩;go_wp2_with fail;refine HU.out.mono ?_
 rintro e W2 ⟨rfl,hb⟩;go_wp2_with fail;go_ret;exact⟨rfl,hb⟩
end Go.Proofs.YtgieeeeeiggoeaaGreat
