import Derived.Test.YtgieeeeeiggoeaaGreatD31
import Derived.Test.YtgieeeeeiggoeaaGreatD32
import Derived.Test.YtgieeeeeiggoeaaGreatD33
set_option maxRecDepth 100000
set_option maxHeartbeats 2000000
namespace Go.Proofs.YtgieeeeeiggoeaaGreat
open Go.RowKit Go.Shelf
open Tryz
variable {c:aq}{g:Gh}{E own:Int}{x:Nat}{F:Nat->Prop}{w:World}
def ov (gs n:Nat)(d:Int):Value:=.pointer ((dD n d).map fun j=>⟨gs,j*3,none⟩)
theorem Mo (w:World)(F:Nat->Prop)(x gs cap:Nat)(c:aq)(b:Nat->Nat)(Fn:Nat->Nat->Prop)(vr va vm vb vt:Value)(d:Int)(h:eK w F x gs cap c b Fn vr va vm vb vt) :
  Calls prog 120 #[x,.int .i64 d] w fun e w'=>e=.returned (ov gs c.aD.length d)/\w'=w:=by
 have n5:=h.n5;have c0:=aj h.aE.blk 0;obtain⟨cs,hcs,hst⟩:=h.iE;have HC:Hid (∀ j,j<c.aD.length+5->w.cell? ⟨gs,j*3,none⟩=some (.int .i64 (bY c.aD.length j))):=ae fun j hj=>(aj hcs (j*3)).trans (hst j hj).1;have Iy:Hid (∀ j,j<c.aD.length+5->bY c.aD.length j=d->ov gs c.aD.length d=.pointer (some ⟨gs,j*3,none⟩)):=ae fun j hj e=>by unfold ov;rw[<- e,F6 n5 hj];rfl
 have Ix:Hid ((∀ j,j<c.aD.length+5->bY c.aD.length j≠d)->ov gs c.aD.length d=.pointer none):=ae fun hh=>by
  unfold ov;cases hp:dD c.aD.length d with
  | none=>rfl
  | some j=>exact absurd (my hp) (hh j (mW hp))
 have hcap:=h.hcap;clear h hcs hst;generalize ov gs c.aD.length d=fv at *;generalize hN:c.aD.length+5=N at *;generalize bY c.aD.length=nf at *;go_enter func120,ntmps120;go_wp2_with fail;go_loopw [11] (fun i wr=>∃ k:Nat,k<=N/\i=.int .i64 k/\wr=w/\∀ j,j<k->nf j≠d) (fun i _=>N-(intOf i).toNat)
 case atStart=>exact⟨0,bl _,rfl,rfl,fun j hj=>absurd hj (Nat.not_lt_zero _)⟩
 case round =>
  obtain⟨k,hk,rfl,rfl,hno⟩:=hrel;by_cases hlt:k<N
  ·have ck:=HC.out k hlt
   have hk1:(k:Int)<(N:Int):=by omega
   have Iv:=ae (Iy.out k hlt);have sd:=ae hno;clear hno;generalize hy:nf k=y at *;by_cases wZ:y=d
   ·have H:=ae (Iv.out wZ)
    subst wZ;go_wp2_with fail;go_ret;exact⟨by rw[H.out];rfl,rfl⟩
   ·have hxd:(y == d)=false:=by simp[wZ]
    go_wp2_with fail;go_roundw
    case rel =>
     refine⟨k+1,by omega,by go_num,by trivial,fun j hj => ?_⟩
     by_cases e:j=k
     ·subst e
      rw[hy];exact wZ
     ·exact sd.out j (by omega)
    case measure=>simp[intOf];omega
  ·obtain rfl:k=N:=by omega
   have H:=ae (Ix.out hno);clear hno;go_wp2_with fail;go_ret;exact⟨by rw[H.out];rfl,rfl⟩
def dK (c:aq)(gs:Nat)(up:Bool)(d:Int):Value :=
 match dD c.aD.length d with
 | none=>.tuple #[.pointer none,.int .i64 4]
 | some j=>if (c.bj j).up=up then .tuple #[.pointer (some ⟨gs,j*3,none⟩),.int .i64 0] else .tuple #[.pointer none,.int .i64 5]
theorem tQ (w:World)(F:Nat->Prop)(x gs cap:Nat)(c:aq)(b:Nat->Nat)(Fn:Nat->Nat->Prop)(vr va vm vb vt:Value)(up:Bool)(d:Int)(h:eK w F x gs cap c b Fn vr va vm vb vt) :
  Calls prog 65 #[x,.int .i64 (nY up),.int .i64 d] w fun e w'=>e=.returned (dK c gs up d)/\w'=w:=by
 have hf:=Mo w F x gs cap c b Fn vr va vm vb vt d h;obtain⟨cs,hcs,hst⟩:=h.iE;cases hp:dD c.aD.length d with
 | none =>
  have H:Hid (dK c gs up d=.tuple #[.pointer none,.int .i64 4]):=ae (by unfold dK;rw[hp])
  have e:ov gs c.aD.length d=.pointer none:=by unfold ov;rw[hp];rfl
  rw[e] at hf;clear h e;go_enter func65,ntmps65;go_wp2_with fail;refine hf.mono ?_
  rintro e w1 ⟨rfl,rfl⟩;clear hf;go_wp2_with fail;go_ret2;exact⟨by rw[H.out];rfl,rfl⟩
 | some j =>
  have hj:=mW hp;have e:ov gs c.aD.length d=.pointer (some ⟨gs,j*3,none⟩):=by unfold ov;rw[hp];rfl
  have c1:w.cell? ⟨gs,j*3+1,none⟩=some (.int .i64 (nY (c.bj j).up)):=(aj hcs (j*3+1)).trans (hst j hj).2.1;rw[e] at hf;clear h e hcs hst;by_cases hu:(c.bj j).up=up
  ·have H:Hid (dK c gs up d=.tuple #[.pointer (some ⟨gs,j*3,none⟩),()]):=ae (by unfold dK;rw[hp];simp[hu])
   rw[hu] at c1;generalize nY up=u at *;go_enter func65,ntmps65;go_wp2_with fail;refine hf.mono ?_
   rintro e w1 ⟨rfl,rfl⟩;clear hf;go_wp2_with fail;go_ret2;exact⟨by rw[H.out];rfl,rfl⟩
  ·have H:Hid (dK c gs up d=.tuple #[.pointer none,.int .i64 5]):=ae (by unfold dK;rw[hp];simp[hu])
   have hne:(nY (c.bj j).up == nY up)=false:=by
    revert hu
    cases (c.bj j).up<;>cases up<;>simp[nY]
   have hne2:¬ nY (c.bj j).up=nY up:=by simpa using hne
   generalize nY up=u at *;generalize nY (c.bj j).up=u2 at *;go_enter func65,ntmps65;go_wp2_with fail;refine hf.mono ?_
   rintro e w1 ⟨rfl,rfl⟩;clear hf;go_wp2_with fail;go_ret2;exact⟨by rw[H.out];rfl,rfl⟩
theorem AK (w:World)(F:Nat->Prop)(x gs cap:Nat)(c:aq)(b:Nat->Nat)(Fn:Nat->Nat->Prop)(vr va vm vb vt:Value)(d:Int)(h:eK w F x gs cap c b Fn vr va vm vb vt) :
  Calls prog 33 #[x,.int .i64 d] w fun e w'=>e=.returned (.bool (decide (c.cO d=some true)))/\w'=w:=by
 have hf:Calls prog 65 #[x,(),.int .i64 d] w fun e w'=>e=.returned (dK c gs true d)/\w'=w:=tQ w F x gs cap c b Fn vr va vm vb vt true d h;have hu:=lQ c d;clear h;cases hp:dD c.aD.length d with
 | none =>
  have e:dK c gs true d=.tuple #[.pointer none,.int .i64 4]:=by unfold dK;rw[hp]
  have H:Hid (decide (c.cO d=some true)=false):=ae (by rw[hu,hp];rfl)
  rw[e] at hf;clear e hu;go_enter func33,ntmps33;go_wp2_with fail;refine hf.mono ?_
  rintro e w1 ⟨rfl,rfl⟩;clear hf;go_wp2_with fail;go_ret;exact⟨by rw[H.out];rfl,rfl⟩
 | some j =>
  by_cases hu2:(c.bj j).up=true
  ·have e:dK c gs true d=.tuple #[.pointer (some ⟨gs,j*3,none⟩),()]:=by unfold dK;rw[hp];simp[hu2]
   have H:Hid (decide (c.cO d=some true)=true):=ae (by rw[hu,hp];simp[hu2])
   rw[e] at hf;clear e hu;go_enter func33,ntmps33;go_wp2_with fail;refine hf.mono ?_
   rintro e w1 ⟨rfl,rfl⟩;clear hf;go_wp2_with fail;go_ret;exact⟨by rw[H.out];rfl,rfl⟩
  ·have e:dK c gs true d=.tuple #[.pointer none,.int .i64 5]:=by unfold dK;rw[hp];simp[hu2]
   have H:Hid (decide (c.cO d=some true)=false):=ae (by rw[hu,hp];simp[hu2])
   rw[e] at hf;clear e hu;go_enter func33,ntmps33;go_wp2_with fail;refine hf.mono ?_
   rintro e w1 ⟨rfl,rfl⟩;clear hf;go_wp2_with fail;go_ret;exact⟨by rw[H.out];rfl,rfl⟩
def bW (w:World)(F:Nat->Prop)(x:Nat)(c':aq)(w':World):Prop:=∃ F',dM w' F' x c'/\Moved w w' F/\∀ k,F' k->F k\/w.heap.size<=k
theorem bW.still {w':World}(h:dM w F x c)(hb:ai w w'):bW w F x c w':=by
 obtain⟨gs,cap,b,Fn,vr,va,vm,vb,vt,h⟩:=h;exact⟨F,⟨gs,cap,b,Fn,vr,va,vm,vb,vt,h.below hb⟩,(Moved.refl w F).below hb,fun _ e=>.inl e⟩
theorem bW.trans {w1 w2:World}{F1:Nat->Prop}{c2:aq}(hM:Moved w w1 F)(hF:∀ k,F1 k->F k\/w.heap.size<=k)(h2:bW w1 F1 x c2 w2):bW w F x c2 w2:=by
 obtain⟨F2,a1,a2,a3⟩:=h2;have hs:=hM.size;refine⟨F2,a1,hM.trans a2 (fun k hk e => ?_),fun k e => ?_⟩
 ·rcases hF k e with h6|h6
  ·exact h6
  ·omega
 ·rcases a3 k e with h6|h6
  ·exact hF k h6
  ·exact .inr (by omega)
theorem rH (h:Good c E g)(j:Nat)(hj:j<c.aD.length+5):si c.aD.length E (bY c.aD.length j) (c.bj j):=by
 have nJ:=h.nodes.n5;have hp:=F6 nJ hj;rcases oJ hp with ⟨h1,h2,_⟩|⟨h1,h2,h3,_⟩|⟨h1,h2,h3,h4,_⟩
 ·refine⟨nJ,⟨h.nodes.E0,h.nodes.jM⟩,fun r e => ?_,fun a e => ?_,fun s e => ?_⟩
  ·rw[h2] at e;cases e;exact h.nodes.R _ h1
  ·rw[h2] at e;cases e
  ·rw[h2] at e;cases e
 ·refine⟨nJ,⟨h.nodes.E0,h.nodes.jM⟩,fun r e => ?_,fun a e => ?_,fun s e => ?_⟩
  ·rw[h3] at e;cases e
  ·rw[h3] at e;cases e;exact h.nodes.A _ h2
  ·rw[h3] at e;cases e
 ·refine⟨nJ,⟨h.nodes.E0,h.nodes.jM⟩,fun r e => ?_,fun a e => ?_,fun s e => ?_⟩
  ·rw[h4] at e;cases e
  ·rw[h4] at e;cases e
  ·rw[h4] at e;cases e;exact⟨h.nodes.S _ h3,by unfold b8 at h3;omega⟩
theorem Q3 (x : bT)(q : Option Addr)(w : World) : (method 427 (fu x) (.pointer q) "Crash").run prog w = .ok (sv x, .pointer q) w := by cases x <;> kernel_rfl
theorem Q4 (x : bT)(q : Option Addr)(w : World) : (method 427 (fu x) (.pointer q) "Restart").run prog w = .ok (sZ x, .pointer q) w := by cases x <;> kernel_rfl
theorem Q5 (x : bT)(q : Option Addr)(w : World) : (method 427 (fu x) (.pointer q) "Take").run prog w = .ok (tb x, .pointer q) w := by cases x <;> kernel_rfl
theorem Q6 (x : bT)(q : Option Addr)(w : World) : (method 427 (fu x) (.pointer q) "Tick").run prog w = .ok (tc x, .pointer q) w := by cases x <;> kernel_rfl
theorem xC (x:bT):(fu x=129/\tb x=261/\tc x=262/\sv x=259/\sZ x=260)
  \/ (fu x=99/\tb x=250/\tc x=251/\sv x=248/\sZ x=249)
  \/ (fu x=81/\tb x=239/\tc x=125/\sv x=237/\sZ x=238):=by
 cases x
 ·exact .inl ⟨rfl,rfl,rfl,rfl,rfl⟩
 ·exact .inr (.inl ⟨rfl,rfl,rfl,rfl,rfl⟩)
 ·exact .inr (.inr ⟨rfl,rfl,rfl,rfl,rfl⟩)
theorem nu.put {gs m j:Nat}{f:Nat->Int × Int × Value}(h:nu w gs m f)(hj:j<m)(u:Int):nu (w.setCell ⟨gs,j*3+1,none⟩ (.int .i64 u)) gs m (fun i=>if i=j then ((f i).1,u,(f i).2.2) else f i):=by
 obtain⟨cs,h1,h2⟩:=h;refine⟨_,bV _ _ _ _ _ _ h1,fun i hi => ?_⟩
 obtain⟨q0,q1,q2⟩:=h2 i hi;have key:∀ t,t≠j*3+1->(cs.setIfInBounds (j*3+1) (.int .i64 u))[t]?=cs[t]?:=fun t ht=>by
  rw[Array.getElem?_setIfInBounds]
  rw[if_neg (Ne.symm ht)]
 have hsz:j*3+1<cs.size:=(dL.1 (h2 j hj).2.1).1;by_cases e:i=j
 ·subst e
  simp only [if_true];refine⟨by rw[key _ (by omega)];exact q0, ?_,by rw[key _ (by omega)];exact q2⟩
  rw[Array.getElem?_setIfInBounds]
  simp[hsz]
 ·simp only [if_neg e]
  exact⟨by rw[key _ (by omega)];exact q0,by rw[key _ (by omega)];exact q1,by rw[key _ (by omega)];exact q2⟩
theorem Ls (d:Int)(h:dM w F x c) :
  Calls prog 75 #[x,.int .i64 d] w fun r w'=>r=.returned (.int .i64 (c.dc d).2)/\bW w F x (c.dc d).1 w':=by
 have HA:=ae h;obtain⟨gs,cap,b,Fn,vr,va,vm,vb,vt,h⟩:=h;have hf:Calls prog 65 #[x,(),.int .i64 d] w fun e w'=>e=.returned (dK c gs true d)/\w'=w:=tQ w F x gs cap c b Fn vr va vm vb vt true d h;have hu:=lQ c d;cases hp:dD c.aD.length d with
 | none =>
  have e:dK c gs true d=.tuple #[.pointer none,.int .i64 4]:=by unfold dK;rw[hp]
  have H:Hid (c.dc d=(c,4)):=ae (by unfold aq.dc;rw[hu,hp];rfl)
  rw[e] at hf;clear e hu h;go_enter func75,ntmps75;go_wp2_with fail;refine hf.mono ?_
  rintro e w1 ⟨rfl,rfl⟩;clear hf;go_wp2_with fail;go_ret;rw[H.out];exact⟨rfl,bW.still HA.out (ax _ _)⟩
 | some j =>
  by_cases hu2:(c.bj j).up=true
  ·have e:dK c gs true d=.tuple #[.pointer (some ⟨gs,j*3,none⟩),()]:=by unfold dK;rw[hp];simp[hu2]
   have H:Hid (c.dc d=(c.dE j (c.bj j).dc,0)):=ae (LK hp hu2);have hj:=mW hp;have fs:=my hp;have hG:=h.apart;obtain⟨cs,hcs,hst⟩:=h.iE;have c1:=(aj hcs (j*3+1)).trans (hst j hj).2.1;have f1:=aW hcs (j*3+1);have c2:w.cell? ⟨gs,j*3+2,none⟩=some (.iface (fu (c.bj j)) (.pointer (some ⟨b j,0,none⟩))):=(aj hcs (j*3+2)).trans (hst j hj).2.2;rw[e] at hf;clear e hu hcs hst;have hm:=Q3 (c.bj j) (some ⟨b j,0,none⟩);have HC:Hid (∀ W,eW W (Fn j) (b j) d (c.bj j)->Calls prog (sv (c.bj j)) #[.pointer (some ⟨b j,0,none⟩)] W fun e w'=>(∃ v,e=.returned v)/\tw W w' (Fn j) (b j) d (c.bj j).dc):=ae fun W hN=>Rn (Fn j) (b j) d (c.bj j) W hN;have HI:=ae h;have hN:eW (w.setCell ⟨gs,j*3+1,none⟩ (.int .i64 1)) (Fn j) (b j) d (c.bj j):=by
    rw[<- fs];exact (h.bj j hj).keep fun k hk=>cJ _ _ _ _ (fun e=>h.off j hj k hk (.inr (.inl e)))
   have HN:=ae hN;have HS:=ae (h.iE.put hj 1);clear h hN;rcases xC (c.bj j) with ⟨k1,_,_,k2,_⟩|⟨k1,_,_,k2,_⟩|⟨k1,_,_,k2,_⟩
   all_goals (
    rw[k1] at c2 hm;rw[k2] at hm HC;go_enter func75,ntmps75;go_wp2_with fail;refine hf.mono ?_
    rintro e w1 ⟨rfl,rfl⟩;clear hf;go_wp2_with fail;refine (HC.out _ HN.out).mono ?_
    rintro e W ⟨⟨v,rfl⟩,F',n1,n2,n3⟩;have fj:=ae (aP n1 (aP n2 n3));clear n1 n2 n3 c1 c2 f1;go_wp2_with fail;go_ret;rw[H.out];refine⟨rfl,_,⟨gs,cap,b,_,vr,va,vm,vb,vt,HI.out.A3 j hj (c.bj j).dc F' (by rw[fs];exact fj.out.1) ?_ (fun k e=>(fj.out.2.2 k e).imp id (fun e=>by simpa using e)) (Fx _) ?_⟩, ?_, ?_⟩
    ·exact (((Moved.refl _ (fun k=>Fn j k\/k=gs)).setCell ⟨gs,j*3+1,none⟩ (.inr rfl) _).trans (fj.out.2.1.wider (fun k e=>.inl e)) (fun k _ e=>e))
    ·refine (HS.out.keep (fj.out.2.1.block gs (by simp;exact HI.out.lt gs (HI.out.dv gs (.inr (.inl rfl)))) (fun e=>HI.out.off j hj gs e (.inr (.inl rfl))))).as fun i hi => ?_
     unfold aq.iE;rw[ta,xv HI.out.a3 HI.out.m2 hj (Fx _) i hi];by_cases e:i=j
     ·subst e
      simp only [if_true];cases c.bj i<;>rfl
     ·simp only [if_neg e]
    ·have bI:=(((Moved.refl _ (fun k=>Fn j k\/k=gs)).setCell ⟨gs,j*3+1,none⟩ (.inr rfl) (.int .i64 1)).trans (fj.out.2.1.wider (fun k e=>.inl e)) (fun k _ e=>e))
     refine bI.wider fun k e => ?_
     rcases e with e|e
     ·exact HI.out.iC j hj k e
     ·rw[e];exact HI.out.dv gs (.inr (.inl rfl))
    ·rintro k (e|e)
     ·exact .inl e
     ·exact (fj.out.2.2 k e).imp (HI.out.iC j hj k) (fun e=>by simpa using e))
  ·have e:dK c gs true d=.tuple #[.pointer none,.int .i64 5]:=by unfold dK;rw[hp];simp[hu2]
   have H:Hid (c.dc d=(c,5)):=ae (by
    have:(c.bj j).up=false:=by simpa using hu2
    unfold aq.dc;rw[hu,hp];simp only [Option.map_some,this])
   rw[e] at hf;clear e hu h;go_enter func75,ntmps75;go_wp2_with fail;refine hf.mono ?_
   rintro e w1 ⟨rfl,rfl⟩;clear hf;go_wp2_with fail;go_ret;rw[H.out];exact⟨rfl,bW.still HA.out (ax _ _)⟩
theorem Ly (d:Int)(h:dM w F x c)(hg:Good c E g) :
  Calls prog 76 #[x,.int .i64 d] w fun r w'=>r=.returned (.int .i64 (c.cF d).2)/\bW w F x (c.cF d).1 w':=by
 have HA:=ae h;obtain⟨gs,cap,b,Fn,vr,va,vm,vb,vt,h⟩:=h;have hf:Calls prog 65 #[x,.int .i64 1,.int .i64 d] w fun e w'=>e=.returned (dK c gs false d)/\w'=w:=tQ w F x gs cap c b Fn vr va vm vb vt false d h;have hu:=lQ c d;cases hp:dD c.aD.length d with
 | none =>
  have e:dK c gs false d=.tuple #[.pointer none,.int .i64 4]:=by unfold dK;rw[hp]
  have H:Hid (c.cF d=(c,4)):=ae (by unfold aq.cF;rw[hu,hp];rfl)
  rw[e] at hf;clear e hu h;go_enter func76,ntmps76;go_wp2_with fail;refine hf.mono ?_
  rintro e w1 ⟨rfl,rfl⟩;clear hf;go_wp2_with fail;go_ret;rw[H.out];exact⟨rfl,bW.still HA.out (ax _ _)⟩
 | some j =>
  by_cases hu2:(c.bj j).up=false
  ·have e:dK c gs false d=.tuple #[.pointer (some ⟨gs,j*3,none⟩),()]:=by unfold dK;rw[hp];simp[hu2]
   have H:Hid (c.cF d=(c.dE j ((c.bj j).cF d),0)):=ae (To hp hu2);have hj:=mW hp;have fs:=my hp;have hG:=h.apart;obtain⟨cs,hcs,hst⟩:=h.iE;have c1:=(aj hcs (j*3+1)).trans (hst j hj).2.1;have f1:=aW hcs (j*3+1);have c2:w.cell? ⟨gs,j*3+2,none⟩=some (.iface (fu (c.bj j)) (.pointer (some ⟨b j,0,none⟩))):=(aj hcs (j*3+2)).trans (hst j hj).2.2;rw[e] at hf;clear e hu hcs hst;have hm:=Q4 (c.bj j) (some ⟨b j,0,none⟩);have HC:Hid (∀ W,eW W (Fn j) (b j) d (c.bj j)->Calls prog (sZ (c.bj j)) #[.pointer (some ⟨b j,0,none⟩)] W fun e w'=>(∃ v,e=.returned v)/\tw W w' (Fn j) (b j) d ((c.bj j).cF d)):=ae fun W hN=>Rp c.aD.length E (Fn j) (b j) d (c.bj j) W hN (fs ▸ rH hg j hj) hu2;have HI:=ae h;have hN:eW (w.setCell ⟨gs,j*3+1,none⟩ (.int .i64 0)) (Fn j) (b j) d (c.bj j):=by
    rw[<- fs];exact (h.bj j hj).keep fun k hk=>cJ _ _ _ _ (fun e=>h.off j hj k hk (.inr (.inl e)))
   have HN:=ae hN;have HS:=ae (h.iE.put hj 0);clear h hN;rcases xC (c.bj j) with ⟨k1,_,_,_,k2⟩|⟨k1,_,_,_,k2⟩|⟨k1,_,_,_,k2⟩
   all_goals (
    rw[k1] at c2 hm;rw[k2] at hm HC;go_enter func76,ntmps76;go_wp2_with fail;refine hf.mono ?_
    rintro e w1 ⟨rfl,rfl⟩;clear hf;go_wp2_with fail;refine (HC.out _ HN.out).mono ?_
    rintro e W ⟨⟨v,rfl⟩,F',n1,n2,n3⟩;have fj:=ae (aP n1 (aP n2 n3));clear n1 n2 n3 c1 c2 f1;go_wp2_with fail;go_ret;rw[H.out];refine⟨rfl,_,⟨gs,cap,b,_,vr,va,vm,vb,vt,HI.out.A3 j hj ((c.bj j).cF d) F' (by rw[fs];exact fj.out.1) ?_ (fun k e=>(fj.out.2.2 k e).imp id (fun e=>by simpa using e)) (Fy _ _) ?_⟩, ?_, ?_⟩
    ·exact (((Moved.refl _ (fun k=>Fn j k\/k=gs)).setCell ⟨gs,j*3+1,none⟩ (.inr rfl) _).trans (fj.out.2.1.wider (fun k e=>.inl e)) (fun k _ e=>e))
    ·refine (HS.out.keep (fj.out.2.1.block gs (by simp;exact HI.out.lt gs (HI.out.dv gs (.inr (.inl rfl)))) (fun e=>HI.out.off j hj gs e (.inr (.inl rfl))))).as fun i hi => ?_
     unfold aq.iE;rw[ta,xv HI.out.a3 HI.out.m2 hj (Fy _ _) i hi];by_cases e:i=j
     ·subst e
      simp only [if_true];cases c.bj i<;>rfl
     ·simp only [if_neg e]
    ·have bI:=(((Moved.refl _ (fun k=>Fn j k\/k=gs)).setCell ⟨gs,j*3+1,none⟩ (.inr rfl) (.int .i64 0)).trans (fj.out.2.1.wider (fun k e=>.inl e)) (fun k _ e=>e))
     refine bI.wider fun k e => ?_
     rcases e with e|e
     ·exact HI.out.iC j hj k e
     ·rw[e];exact HI.out.dv gs (.inr (.inl rfl))
    ·rintro k (e|e)
     ·exact .inl e
     ·exact (fj.out.2.2 k e).imp (HI.out.iC j hj k) (fun e=>by simpa using e))
  ·have e:dK c gs false d=.tuple #[.pointer none,.int .i64 5]:=by unfold dK;rw[hp];simp[hu2]
   have H:Hid (c.cF d=(c,5)):=ae (by
    have:(c.bj j).up=true:=by simpa using hu2
    unfold aq.cF;rw[hu,hp];simp only [Option.map_some,this])
   rw[e] at hf;clear e hu h;go_enter func76,ntmps76;go_wp2_with fail;refine hf.mono ?_
   rintro e w1 ⟨rfl,rfl⟩;clear hf;go_wp2_with fail;go_ret;rw[H.out];exact⟨rfl,bW.still HA.out (ax _ _)⟩
theorem a_.plus {W:World}{base qJ:Nat}{v v2:Value}{ms ms2:List aK}(h:a_ W base v ms)(h2:a_ W qJ v2 ms2)(hl:ms.length+ms2.length<=100000)(hb:base<=W.heap.size) :
  ∃ v' W',(∀ ty,(Builtin.append_ #[97,97] ty #[v,v2]).run prog W=.ok v' W')/\a_ W' base v' (ms++ms2)/\Below base W W'/\Moved W W' (fun k=>v.ownBlock=some k):=by
 obtain⟨ws,a1,a2,a3⟩:=h;obtain⟨lS,b1,b2,b3⟩:=h2;obtain⟨v3,W3,hr,ho,hg, -⟩:=C2 W base qJ v v2 ms.length ms2.length ws lS a2 b2 b3 hl hb;have hM:Moved W W3 (fun k=>v.ownBlock=some k):=(Moved.refl W _).grown hg (fun k _ e=>e);refine⟨v3,W3,hr,⟨ws++lS,by rw[gw,a1,b1],by rw[bG];exact ho,fun t ht => ?_⟩,hM.jg (fun k e=>(a2.lt k e).1) hb,hM⟩
 have key:bd W t.2.1 t.1.af/\bw W t.2.2 t.1.log:=by
  rcases fE.1 ht with q|q
  ·exact a3 t q
  ·exact b3 t q
 exact⟨hM.owns key.1 fun k hk hS=>bM key.1 a2 (by decide) k hk hS,hM.owns key.2 fun k hk hS=>bM key.2 a2 (by decide) k hk hS⟩
theorem Gm (p k:Nat)(h:p<=k):fc p (k+1)=fc p k++[k]:=by
 unfold fc;rw[show k+1-p=(k-p)+1 by omega,List.range_succ,gw]
 simp;omega
theorem Gl (p:Nat):fc p p=[]:=by unfold fc;simp
theorem Bn (p n:Nat):(fc p n).length=n-p:=by unfold fc;simp
theorem xg {r:aR}(hn:r.af.Nodup):(decide (0<=ed r.af own) && decide (r.lock<=r.ah))=r.live own:=by
 unfold aR.live;by_cases h:own∈r.af
 ·rw[u_ hn h,eR (by omega:(0:Int)<=_),eR h]
 ·rw[Gz h,ee h]
  rfl
theorem AO {l:List Int}(hn:l.Nodup)(h:own∈l):(ed l own=(l.length:Int)-1)↔bS l own=none:=by
 have hi:=List.idxOf_lt_length_of_mem h;rw[u_ hn h];unfold bS;rw[List.getElem?_eq_none_iff]
 omega
theorem SR (b:Nat)(r:aR)(vm vl:Value)(own:Int)(w:World)(h:ot w b r vm vl)(hl:r.af.length<=5)(hn:r.af.Nodup)(hp:∀ x∈r.af,0<=x)(sC:r.log.length<=24)(hcm:r.aU<=r.log.length) :
  Calls prog 167 #[.pointer (some ⟨b,0,none⟩),.int .i64 own] w fun e w'=>∃ v,e=.returned v/\a_ w' w.heap.size v (r.tick own)/\ai w w':=by
 have HS:=ae (sV b r vm vl own w h hl);rw[xg hn] at HS;have HT:Hid (r.tick own=if r.live own then (match bS r.af own with|none=>r.c_ own|some nx=>(fc r.aU r.log.length).map (r.forward own nx)) else []):=ae rfl
 have hrg:=xD r.af own r.af.length;have hro:j_ r.af own r.af.length=ed r.af own:=rfl;rw[hro] at hrg;have HR:=ae h;obtain⟨am,cm,dG, -⟩:=h.af;subst dG;obtain⟨al,cl,hvl, -⟩:=h.log;subst hvl;have c3:∀ q,(w.drewN q).cell? ⟨b,3,none⟩=some (.slice am r.af.length cm):=fun q=>h.c3;have oN:Hid (∀ W,ai w W->Calls prog 206 #[.pointer (some ⟨b,0,none⟩),.int .i64 own] W fun e w'=>∃ v,e=.returned v/\a_ w' W.heap.size v (r.c_ own)/\ai W w'):=ae fun W hb=>xF b r _ _ own W (HR.out.below hb) hl hn hp;have tl:Hid (∀ W p,ai w W->p<r.log.length->Calls prog 207 #[.pointer (some ⟨b,0,none⟩),.int .i64 own,.int .i64 (p:Int)] W fun e w'=>∃ bD,e=.returned (bL (r.forward own (mx r.af own 1) p) (.slice none 0 0) bD)/\w'.ownsRow W.heap.size 42 5 bD 1 (aJ (bk [r.log.getD p aH.zero]))/\ai W w'):=ae fun W p hb hpl=>GF b r _ _ own p W (HR.out.below hb) hl hpl sC;cases hlv:r.live own with
 | false =>
  have HV:Hid (r.tick own=[]):=ae (by rw[HT.out,hlv];rfl)
  rw[hlv] at HS;clear h;go_enter func167,ntmps167;go_wp2_with fail;refine HS.out.mono ?_
  rintro e W ⟨rfl,q,rfl⟩;go_wp2_with fail;go_ret;rw[HV.out];exact⟨_,rfl,a_.nil _ _,aV (ax _ _) q⟩
 | true =>
  have hmem:own∈r.af:=by
   unfold aR.live at hlv;rw[Bool.and_eq_true,jt] at hlv;exact hlv.1
  have hlast:=AO hn hmem;have hnx:=xt hn hmem;rw[hlv] at HS;have km:=ae (aP HT.out hlv);have c6:=h.c6;have c4:=h.c4;clear h hlv HT;generalize ed r.af own=R at *;have hwr:IntKind.i64.wrap ((r.af.length:Int)-1)=(r.af.length:Int)-1:=by rw[dV];omega
  by_cases hR:R=(r.af.length:Int)-1
  ·have HV:Hid (r.tick own=r.c_ own):=ae (by rw[km.out.1,km.out.2,hlast.1 hR];rfl)
   have hR':(R == (r.af.length:Int)-1)=true:=by simp[hR]
   clear hlast hnx;go_enter func167,ntmps167;go_wp2_with fail;refine HS.out.mono ?_
   rintro e W ⟨rfl,q,rfl⟩;go_wp2_with fail;refine (oN.out _ (aV (ax _ _) q)).mono ?_
   rintro e W ⟨v,rfl,hm,hb⟩;obtain⟨a9,c9,dz⟩:=hm.shape;subst dz;have HM:=ae (aP hm hb);clear hm hb;go_wp2_with fail;go_ret;rw[HV.out];exact⟨_,rfl,HM.out.1,(aV (ax w.heap.size w) q).trans HM.out.2⟩
  ·obtain⟨nx,hnx2⟩:∃ nx,bS r.af own=some nx:=by
    cases e:bS r.af own with
    | none=>exact absurd (hlast.2 e) hR
    | some nx=>exact⟨nx,rfl⟩
   rw[hnx2] at hnx;have EX:mx r.af own 1=nx:=hnx;rw[EX] at tl;have HV:Hid (r.tick own=(fc r.aU r.log.length).map (r.forward own nx)):=ae (by rw[km.out.1,km.out.2,hnx2];rfl)
   have hR':(R == (r.af.length:Int)-1)=false:=by simp[hR]
   clear hlast hnx hnx2 EX;go_enter func167,ntmps167;go_wp2_with fail;refine HS.out.mono ?_
   rintro e W ⟨rfl,q,rfl⟩;go_wp2_with fail;go_loopw [7,8] (fun v i wr=>∃ k:Nat,r.aU<=k/\k<=r.log.length/\i=.int .i64 k/\a_ wr w.heap.size v ((fc r.aU k).map (r.forward own nx))/\ai w wr) (fun _ i _=>r.log.length-(intOf i).toNat)
   case atStart=>exact⟨r.aU,aG _,hcm,rfl,by rw[Gl];exact a_.nil _ _,aV (ax _ _) q⟩
   case round =>
    obtain⟨k,hk1,hk2,rfl,hm,hb⟩:=hrel;obtain⟨a9,c9,dz⟩:=hm.shape;subst dz;have Dq:=aF hb c4;have HM:=ae (aP hm hb);by_cases hlt:k<r.log.length
    ·have hk3:(k:Int)<(r.log.length:Int):=by omega
     have HC:Hid (Calls prog 207 #[.pointer (some ⟨b,0,none⟩),.int .i64 own,.int .i64 (k:Int)] wr fun e w'=>∃ bD,e=.returned (bL (r.forward own nx k) (.slice none 0 0) bD)/\∃ v3 W3,(∀ ty,(Builtin.append_ #[97,97] ty #[.slice a9 ((fc r.aU k).map (r.forward own nx)).length c9,.slice (some w'.heap.size) 1 1]).run prog (w'.alloc (.cells (cd (r.forward own nx k,.slice none 0 0,bD)).toArray 134))=.ok v3 W3)/\(∃ a3 n3 c3,v3=.slice a3 n3 c3)/\a_ W3 w.heap.size v3 ((fc r.aU (k+1)).map (r.forward own nx))/\ai w W3):=ae (by
      refine (tl.out wr k hb hlt).mono ?_
      rintro e w' ⟨bD,rfl,ho,hb'⟩;refine⟨bD,rfl, ?_⟩
      have hb2:=hb.trans (hb'.mono hb.size);have fp:ai w' (w'.alloc (.cells (cd (r.forward own nx k,.slice none 0 0,bD)).toArray 134)):=(ax _ w').alloc (aG _) _;have hone:a_ (w'.alloc (.cells (cd (r.forward own nx k,.slice none 0 0,bD)).toArray 134)) 0 (.slice (some w'.heap.size) 1 1) [r.forward own nx k]:=a_.one _ (.slice none 0 0) bD (hnw _ _) (bl _) (bE _ _ _ _) (obs (aS ho fun z _ hz=>fp.block z hz) (bl _));obtain⟨v3,W3,hr,h3,hb3, -⟩:=a_.plus ((hm.below hb').below fp) hone (by rw[fF,Bn];simp;omega) (bP hb2.size fp.size)
      obtain⟨a3,c3,hv3⟩:=h3.shape;refine⟨v3,W3,hr,⟨_,_,_,hv3⟩, ?_,(hb2.trans (fp.mono hb2.size)).trans hb3⟩
      rw[Gm _ _ hk1,gw];exact h3)
     have hml:(bL (r.forward own nx k))=fun a b=>.agg (cd (r.forward own nx k,a,b)).toArray:=by
      funext a b;rfl
     clear hm;go_wp2_with fail;refine HC.out.mono ?_
     rintro e Y ⟨bD,rfl,v3,W3,hrun,⟨a3,n3,c3',hv3⟩,jB,hb3⟩;subst hv3;have HQ:=ae (aP jB hb3);have eV:=ae hrun;unfold bL;clear jB hb3 hrun hml;go_wp2_with (at_builtin;refine kI rfl (.tmp 43) (.tmp 48) 97 rfl _ _ _ _ (by simp[Act.eval]) (by simp[Act.eval]) eV.out ?_)
     go_wp2_with fail;go_roundw
     case rel=>exact⟨k+1,by omega,by omega,by go_num,HQ.out.1,HQ.out.2⟩
     case measure=>simp[intOf];omega
    ·obtain rfl:k=r.log.length:=by omega
     clear hm hb;go_wp2_with fail;go_ret;rw[HV.out];exact⟨_,rfl,HM.out.1,HM.out.2⟩
end Go.Proofs.YtgieeeeeiggoeaaGreat
