import Derived.Test.YtgieeeeeiggoeaaGreatD35
import Derived.Test.YtgieeeeeiggoeaaGreatD13
set_option maxRecDepth 100000
set_option maxHeartbeats 2000000
namespace Go.Proofs.YtgieeeeeiggoeaaGreat
open Go.RowKit Go.Shelf
open Tryz
variable {c:aq}{T:List TypeId}{b k m n x y:Nat}{ba br:Nat->Nat}{F F' S:Nat->Prop}{r:aR}{v vA va vc vm vr vv:Value}{V w w' w0:World}
def bA (F:Nat->Prop)(v:Value):Prop:=∀ k,v.ownBlock=some k->F k
theorem bA.nil (F:Nat->Prop):bA F (.slice none 0 0):=fun k e=>by simp[Value.ownBlock] at e
theorem bA.wider {G:Nat->Prop}(h:bA F v)(hg:∀ k,F k->G k):bA G v:=fun k e=>hg k (h k e)
def rN (w:World)(S:Nat->Prop)(T:List TypeId):Prop:=∀ k,S k->k<w.heap.size->∃ cs t,w.heap[k]?=some (.cells cs t)/\t∈T
theorem Moved.ve {base size:Nat}{e:TypeId}{xs:List Value}(hM:Moved w w' S)(hT:rN w S T)(ho:w.ownsRow base e size v n xs)(he:e ∉ T):w'.ownsRow base e size v n xs :=
 hM.owns ho fun k hk hS=>by
  obtain⟨cs,hb,_⟩:=bK ho hk;obtain⟨cs2,t,h1,h2⟩:=hT k hS (aQ hb);rw[hb] at h1;injection h1 with h1
  injection h1 with _ h3
  exact he (h3 ▸ h2)
theorem Moved.tJ {cs:Array Value}{t:TypeId}(hM:Moved w w' S)(hT:rN w S T)(hb:w.heap[b]?=some (.cells cs t))(ht:t ∉ T):w'.heap[b]?=some (.cells cs t):=by
 refine (hM.block b (aQ hb) fun hS => ?_).trans hb
 obtain⟨cs2,t2,h1,h2⟩:=hT b hS (aQ hb);rw[hb] at h1;injection h1 with h1
 injection h1 with _ h3
 exact ht (h3 ▸ h2)
def oT (w:World)(F:Nat->Prop)(b:Nat)(r:aR):Prop :=
 ∃ vm vl,w.heap[b]?=some (.cells #[.bool r.up,r.ah,r.lock,vm,vl,.int .i64 (r.base:Int),.int .i64 (r.aU:Int)] 199)/\bd w vm r.af/\bw w vl r.log/\F b /\
  bA F vm/\bA F vl
abbrev iG := Int × fK × Value × Value
def kh (t:iG):List Value:=[.int .i64 t.1,.int .i64 t.2.1.promise,.int .i64 t.2.1.ak,t.2.2.1,t.2.2.2]
def pJ (w:World)(F:Nat->Prop)(vv:Value)(f:Int->fK):Prop :=
 ∃ vs:List iG,w.ownsRow 0 284 5 vv vs.length (vs.flatMap kh)/\bA F vv /\
  (∀ t∈vs,bd w t.2.2.1 t.2.1.af/\bw w t.2.2.2 t.2.1.log/\bA F t.2.2.1/\bA F t.2.2.2 /\ -1<=t.1/\t.1<=65534) /\
  (vs.map Prod.fst).Nodup/\(∀ t∈vs,f t.1=t.2.1)/\∀ e,(∀ t∈vs,t.1≠e)->f e=fK.none
def jy (w:World)(F:Nat->Prop)(b:Nat)(vv:Value)(a:Acc):Prop :=
 ∃ vm,w.heap[b]?=some (.cells #[.bool a.up,a.ah,vm,vv] 203)/\bd w vm a.af/\F b/\bA F vm/\pJ w F vv a.aZ
def oa (w:World)(F:Nat->Prop)(vc:Value)(ms:List aK):Prop :=
 ∃ ws:List gy,ws.map Prod.fst=ms/\w.ownsRow 0 134 10 vc ms.length (ws.flatMap cd)/\bA F vc/\∀ t∈ws,bd w t.2.1 t.1.af/\bw w t.2.2 t.1.log/\bA F t.2.1/\bA F t.2.2
def ea (w:World)(F:Nat->Prop)(b:Nat)(vc:Value)(s:aN):Prop :=
 ∃ vw vo vm vl,w.heap[b]?=some (.cells #[.bool s.up,.int .i64 (s.begun:Int),.int .i64 (s.does:Int),s.ah,s.ak,vw,vo,vm,vl,vc] 206) /\
  (bd w vw s.want/\bd w vo s.old/\bd w vm s.af/\bw w vl s.log)/\F b/\(bA F vw/\bA F vo/\bA F vm/\bA F vl)/\oa w F vc s.came
def de (l:List (List UInt8 × Bool)):List Value:=l.flatMap (fun f=>[Value.string (bs f.1),.bool f.2])
structure dW (w:World)(F:Nat->Prop)(y:Nat)(c:aq)(br ba bm:Nat->Nat)(vr va vm vb vt:Value)(vv vc:Nat->Value):Prop where
 blk:w.heap[y]?=some (.cells #[vr,va,vm,vb,vt] 120)
 rr:w.ownsRow 0 197 1 vr c.aD.length (ec br 0 c.aD.length)
 ra:w.ownsRow 0 200 1 va 3 (ec ba 0 3)
 rm:w.ownsRow 0 204 1 vm 2 (ec bm 0 2)
 aD:∀ i,i<c.aD.length->oT w F (br i) (c.bq i)
 di:∀ i,i<3->jy w F (ba i) (vv i) (c.acc (100+(i:Int)))
 dH:∀ i,i<2->ea w F (bm i) (vc i) (c.aX (200+(i:Int)))
 aE:w.ownsRow 0 214 2 vb c.aE.length (de c.aE)
 told:w.ownsRow 0 113 3 vt c.told.length (aJ (dj c.told))
 ft:∀ k,k=y\/vr.ownBlock=some k\/va.ownBlock=some k\/vb.ownBlock=some k\/vt.ownBlock=some k\/vm.ownBlock=some k->F k
 lt:∀ k,F k->k<w.heap.size
 sizes:c.di.length=3/\c.dH.length=2
 k_:∀ i j,i<c.aD.length->j<c.aD.length->br i=br j->i=j
 kZ:∀ i j,i<3->j<3->ba i=ba j->i=j
 qg:∀ i j,i<2->j<2->bm i=bm j->i=j
 oG:∀ i j k,i<3->j<3->(vv i).ownBlock=some k->(vv j).ownBlock=some k->i=j
 oF:∀ i j k,i<2->j<2->(vc i).ownBlock=some k->(vc j).ownBlock=some k->i=j
def cK (w:World)(F:Nat->Prop)(y:Nat)(c:aq):Prop:=∃ br ba bm vr va vm vb vt vv vc,dW w F y c br ba bm vr va vm vb vt vv vc
theorem oT.keep (h:oT w F b r)(hF:∀ k,F k->F' k)(hb:w'.heap[b]?=w.heap[b]?)(hr:∀ {base size n:Nat} {e:TypeId} {v:Value} {xs:List Value},w.ownsRow base e size v n xs->bA F v->e=3\/e=42->w'.ownsRow base e size v n xs):oT w' F' b r:=by
 obtain⟨vm,vl,h1,h2,h3,h4,h5,h6⟩:=h;exact⟨vm,vl,hb.trans h1,hr h2 h5 (.inl rfl),hr h3 h6 (.inr rfl),hF _ h4,h5.wider hF,h6.wider hF⟩
theorem pJ.keep {f:Int->fK}(h:pJ w F vv f)(hF:∀ k,F k->F' k)(hr:∀ {base size n:Nat} {e:TypeId} {v:Value} {xs:List Value},w.ownsRow base e size v n xs->bA F v->e=3\/e=42\/v=vv->w'.ownsRow base e size v n xs):pJ w' F' vv f:=by
 obtain⟨vs,h1,h2,h3,h4,h5,h6⟩:=h;exact⟨vs,hr h1 h2 (.inr (.inr rfl)),h2.wider hF,fun t ht=>⟨hr (h3 t ht).1 (h3 t ht).2.2.1 (.inl rfl),hr (h3 t ht).2.1 (h3 t ht).2.2.2.1 (.inr (.inl rfl)),(h3 t ht).2.2.1.wider hF,(h3 t ht).2.2.2.1.wider hF,(h3 t ht).2.2.2.2⟩,h4,h5,h6⟩
theorem jy.keep {a:Acc}(h:jy w F b vv a)(hF:∀ k,F k->F' k)(hb:w'.heap[b]?=w.heap[b]?)(hr:∀ {base size n:Nat} {e:TypeId} {v:Value} {xs:List Value},w.ownsRow base e size v n xs->bA F v->e=3\/e=42\/v=vv->w'.ownsRow base e size v n xs):jy w' F' b vv a:=by
 obtain⟨vm,h1,h2,h3,h4,h5⟩:=h;exact⟨vm,hb.trans h1,hr h2 h4 (.inl rfl),hF _ h3,h4.wider hF,h5.keep hF hr⟩
theorem oa.keep {ms:List aK}(h:oa w F vc ms)(hF:∀ k,F k->F' k)(hr:∀ {base size n:Nat} {e:TypeId} {v:Value} {xs:List Value},w.ownsRow base e size v n xs->bA F v->e=3\/e=42\/v=vc->w'.ownsRow base e size v n xs):oa w' F' vc ms:=by
 obtain⟨ws,h1,h2,h3,h4⟩:=h;exact⟨ws,h1,hr h2 h3 (.inr (.inr rfl)),h3.wider hF,fun t ht=>⟨hr (h4 t ht).1 (h4 t ht).2.2.1 (.inl rfl),hr (h4 t ht).2.1 (h4 t ht).2.2.2 (.inr (.inl rfl)),(h4 t ht).2.2.1.wider hF,(h4 t ht).2.2.2.wider hF⟩⟩
theorem ea.keep {s:aN}(h:ea w F b vc s)(hF:∀ k,F k->F' k)(hb:w'.heap[b]?=w.heap[b]?)(hr:∀ {base size n:Nat} {e:TypeId} {v:Value} {xs:List Value},w.ownsRow base e size v n xs->bA F v->e=3\/e=42\/v=vc->w'.ownsRow base e size v n xs):ea w' F' b vc s:=by
 obtain⟨vw,vo,vm,vl,h1,⟨a1,a2,a3,a4⟩,h3,⟨b1,b2,b3,b4⟩,h5⟩:=h;exact⟨vw,vo,vm,vl,hb.trans h1,⟨hr a1 b1 (.inl rfl),hr a2 b2 (.inl rfl),hr a3 b3 (.inl rfl),hr a4 b4 (.inr (.inl rfl))⟩,hF _ h3,⟨b1.wider hF,b2.wider hF,b3.wider hF,b4.wider hF⟩,h5.keep hF hr⟩
theorem dW.keep {bm:Nat->Nat}{vb vt:Value}{vv vc:Nat->Value}(h:dW w F y c br ba bm vr va vm vb vt vv vc)(hk:∀ k,F k->w'.heap[k]?=w.heap[k]?):dW w' F y c br ba bm vr va vm vb vt vv vc where
 blk:=(hk y (h.ft y (.inl rfl))).trans h.blk
 rr:=cG h.rr fun k e=>hk k (h.ft k (.inr (.inl e)))
 ra:=cG h.ra fun k e=>hk k (h.ft k (.inr (.inr (.inl e))))
 rm:=cG h.rm fun k e=>hk k (h.ft k (.inr (.inr (.inr (.inr (.inr e))))))
 aD:=fun i hi=>(h.aD i hi).keep (fun _ e=>e) (by obtain⟨_,_,_,_,_,q,_⟩:=h.aD i hi;exact hk _ q) (fun ho hF _=>cG ho fun k e=>hk k (hF k e))
 di:=fun i hi=>(h.di i hi).keep (fun _ e=>e) (by obtain⟨_,_,_,q,_⟩:=h.di i hi;exact hk _ q) (fun ho hF _=>cG ho fun k e=>hk k (hF k e))
 dH:=fun i hi=>(h.dH i hi).keep (fun _ e=>e) (by obtain⟨_,_,_,_,_,_,q,_⟩:=h.dH i hi;exact hk _ q) (fun ho hF _=>cG ho fun k e=>hk k (hF k e))
 aE:=cG h.aE fun k e=>hk k (h.ft k (.inr (.inr (.inr (.inl e)))))
 told:=cG h.told fun k e=>hk k (h.ft k (.inr (.inr (.inr (.inr (.inl e))))))
 ft:=h.ft
 lt:=fun k e=>xj (h.lt k e) (hk k e)
 sizes:=h.sizes
 k_:=h.k_
 kZ:=h.kZ
 qg:=h.qg
 oG:=h.oG
 oF:=h.oF
theorem cK.keep (h:cK w F y c)(hk:∀ k,F k->w'.heap[k]?=w.heap[k]?):cK w' F y c:=by
 obtain⟨br,ba,bm,vr,va,vm,vb,vt,vv,vc,h⟩:=h;exact⟨br,ba,bm,vr,va,vm,vb,vt,vv,vc,h.keep hk⟩
theorem cK.lt' (h:cK w F y c)(hk:F k):k<w.heap.size:=by
 obtain⟨_,_,_,_,_,_,_,_,_,_,h⟩:=h;exact h.lt k hk
def cE (n:Nat)(d:Int):Int × Int :=
 if 0<=d/\d<n then (1,d) else if 100<=d/\d<103 then (2,d-100) else if d=200\/d=201 then (3,d-200) else (0,0)
theorem mB (y n:Nat)(ar:Option Addr)(cr:Nat)(d:Int)(w:World)(hy:w.cell? (y,0)=some (.slice ar n cr))(_hn:n<=5)(hi : -9223372036854775808<=d/\d<=9223372036854775807) :
  Calls prog 133 #[y,.int .i64 d] w fun e w'=>e=.returned (.tuple #[.int .i64 (cE n d).1,.int .i64 (cE n d).2])/\w'=w:=by
 by_cases h1:0<=d
 ·by_cases h2:d<(n:Int)
  ·have H:Hid (cE n d=(1,d)):=ae (by unfold cE;rw[if_pos ⟨h1,h2⟩])
   go_enter func133,ntmps133;go_wp2_with fail;go_ret2;exact⟨by rw[H.out];rfl,rfl⟩
  ·by_cases h3:100<=d
   ·by_cases h4:d<103
    ·have H:Hid (cE n d=(2,d-100)):=ae (by unfold cE;rw[if_neg (fun e=>h2 e.2),if_pos ⟨h3,h4⟩])
     go_enter func133,ntmps133;go_wp2_with fail;go_ret2;exact⟨by rw[H.out];rfl,rfl⟩
    ·by_cases h5:d=200
     ·have H:Hid (cE n d=(3,d-200)):=ae (by unfold cE;rw[if_neg (fun e=>h2 e.2),if_neg (fun e=>h4 e.2),if_pos (.inl h5)])
      subst h5;go_enter func133,ntmps133;go_wp2_with fail;go_ret2;exact⟨by rw[H.out];rfl,rfl⟩
     ·have h5':(d == 200)=false:=by simpa using h5
      by_cases h6:d=201
      ·have H:Hid (cE n d=(3,d-200)):=ae (by unfold cE;rw[if_neg (fun e=>h2 e.2),if_neg (fun e=>h4 e.2),if_pos (.inr h6)])
       subst h6;go_enter func133,ntmps133;go_wp2_with fail;go_ret2;exact⟨by rw[H.out];rfl,rfl⟩
      ·have h6':(d == 201)=false:=by simpa using h6
       have H:Hid (cE n d=(0,0)):=ae (by unfold cE;rw[if_neg (fun e=>h2 e.2),if_neg (fun e=>h4 e.2),if_neg (fun e=>e.elim h5 h6)])
       go_enter func133,ntmps133;go_wp2_with fail;go_ret2;exact⟨by rw[H.out];rfl,rfl⟩
   ·have h5:¬ d=200:=by omega
    have h6:¬ d=201:=by omega
    have h5':(d == 200)=false:=by simpa using h5
    have h6':(d == 201)=false:=by simpa using h6
    have H:Hid (cE n d=(0,0)):=ae (by unfold cE;rw[if_neg (fun e=>h2 e.2),if_neg (fun e=>h3 e.1),if_neg (fun e=>e.elim h5 h6)])
    go_enter func133,ntmps133;go_wp2_with fail;go_ret2;exact⟨by rw[H.out];rfl,rfl⟩
 ·have h3:¬ 100<=d:=by omega
  have h5:¬ d=200:=by omega
  have h6:¬ d=201:=by omega
  have h5':(d == 200)=false:=by simpa using h5
  have h6':(d == 201)=false:=by simpa using h6
  have H:Hid (cE n d=(0,0)):=ae (by unfold cE;rw[if_neg (fun e=>h1 e.1),if_neg (fun e=>h3 e.1),if_neg (fun e=>e.elim h5 h6)])
  go_enter func133,ntmps133;go_wp2_with fail;go_ret2;exact⟨by rw[H.out];rfl,rfl⟩
theorem Bu {o:Nat}(h:w.cell? ⟨b,o,none⟩=some v):b<w.heap.size:=by
 apply Nat.lt_of_not_le;intro hle;unfold World.cell? at h;simp[Array.getElem?_eq_none hle] at h
theorem SU (d:Int)(h:cK w F y c)(hn:c.aD.length<=5)(hd:c.cN d) :
  Calls prog 97 #[y,.int .i64 d] w fun e w'=>∃ vm vl,e=.returned (.tuple #[.agg #[.bool (c.bq d).up,.int .i64 (c.bq d).ah,.int .i64 (c.bq d).lock,.int .i64 ((c.bq d).aU:Int),vm,vl],()])/\bd w vm (c.bq d).af/\bw w vl (c.bq d).log/\ai w w':=by
 obtain⟨br,ba,bm,vr,va,vm,vb,vt,vv,vc,h⟩:=h;obtain⟨ar,cr,dp⟩:=aM h.rr;subst dp;have hd1:=hd.1;have hd2:=hd.2;obtain⟨i,rfl⟩:∃ i:Nat,d=(i:Int):=⟨d.toNat,by omega⟩
 have hi:i<c.aD.length:=by omega
 obtain⟨wm,wl,hb,hm,hl, -, -, -⟩:=h.aD i hi;obtain⟨g,cap,hv, -, -⟩:=h.rr.form (by omega)
 cases hv;have hcell:=ev h.rr i (by omega)
 rw[qu br 0 c.aD.length i hi,fh] at hcell;have hk:cE c.aD.length (i:Int)=(1,(i:Int)):=by unfold cE;rw[if_pos ⟨by omega,by omega⟩]
 obtain⟨am,cm,dG⟩:=aM hm;subst dG;obtain⟨al,cl,hvl⟩:=aM hl;subst hvl;have hyl:y<w.heap.size:=(aQ h.blk);have hbl:br i<w.heap.size:=(aQ hb);have hgl:g<w.heap.size:=Bu hcell;have hy1:¬ y=w.heap.size:=by omega
 have hy2:¬ w.heap.size=y:=by omega
 have hb1:¬ br i=w.heap.size:=by omega
 have hb2:¬ w.heap.size=br i:=by omega
 obtain⟨X,hX,hbX,hM⟩:=ch w #[.bool false,(),(),(),true,true] 46;have c0:X.cell? (y,0)=some (.slice (some g) c.aD.length cr):=aF hbX (aj h.blk 0);have cg:=aF hbX hcell;have mS:=(hbX.block _ hbl).trans hb;generalize c.bq (i:Int)=r at *;have r0:=au mS 0;have r1:=au mS 1;have r2:=au mS 2;have r3:=au mS 3;have r4:=au mS 4;have r6:=au mS 6;have HK:=ae (mB y c.aD.length _ cr (i:Int) X c0 hn (by omega))
 rw[hk] at HK;have gW:=fun j=>aj hM j;have fW:=fun j=>aW hM j;have HO:=ae (aP hm hl);have hi1:(i:Int)<(c.aD.length:Int):=by omega
 have hi0:(0:Int)<=(i:Int):=by omega
 clear h hb hm hl hcell hk hd;go_enter func97,ntmps97;go_upto_region 1 with fail
 clear hX hM mS;go_wp2_with fail;refine HK.out.mono ?_
 rintro e W ⟨rfl,rfl⟩;go_wp2_with fail;go_region;go_wp2_with fail;refine dB (v:=.tuple #[.agg #[.bool r.up,r.ah,r.lock,.int .i64 (r.aU:Int),.slice am r.af.length cm,.slice al r.log.length cl],()]) (by simp[results,results97,go_sem,gW]) rfl ?_
 refine⟨_,_,rfl,HO.out.1,HO.out.2, ?_⟩
 refine Below.drew ?_
 iterate 6 refine eE ?_ (by exact aG _) _
 exact hbX
theorem SV (d:Int)(h:cK w F y c)(hn:c.aD.length<=5)(hd:¬ c.cN d)(hi : -9223372036854775808<=d/\d<=9223372036854775807) :
  Calls prog 97 #[y,.int .i64 d] w fun e w'=>e=.returned (.tuple #[.agg #[.bool false,(),(),(),true,true],.int .i64 4])/\ai w w':=by
 obtain⟨br,ba,bm,vr,va,vm,vb,vt,vv,vc,h⟩:=h;obtain⟨ar,cr,dp⟩:=aM h.rr;subst dp;have hyl:y<w.heap.size:=(aQ h.blk);have hy1:¬ y=w.heap.size:=by omega
 have hy2:¬ w.heap.size=y:=by omega
 obtain⟨X,hX,hbX,hM⟩:=ch w #[.bool false,(),(),(),true,true] 46;have c0:X.cell? (y,0)=some (.slice ar c.aD.length cr):=aF hbX (aj h.blk 0);have HK:=ae (mB y c.aD.length _ cr d X c0 hn hi);have hk:(cE c.aD.length d).1≠1:=by
  unfold cE;rw[if_neg (fun e=>hd ⟨e.1,e.2⟩)];split
  ·show (2:Int)≠1;omega
  ·split
   ·show (3:Int)≠1;omega
   ·show (0:Int)≠1;omega
 generalize (cE c.aD.length d).1=k1 at *;generalize (cE c.aD.length d).2=k2 at *;have hk':(k1 == 1)=false:=by simpa using hk
 have gW:=fun j=>aj hM j;have fW:=fun j=>aW hM j;clear h hd;go_enter func97,ntmps97;go_upto_region 1 with fail
 clear hX hM;go_wp2_with fail;refine HK.out.mono ?_
 rintro e W ⟨rfl,rfl⟩;go_wp2_with fail;refine dB (v:=.tuple #[.agg #[.bool false,(),(),(),true,true],.int .i64 4]) (by simp[results,results97,go_sem,gW]) rfl ⟨rfl, ?_⟩
 iterate 6 refine eE ?_ (by exact aG _) _
 exact hbX
theorem Sx (d:Int)(h:cK w F y c)(hn:c.aD.length<=5)(hd:¬ dC d)(hi : -9223372036854775808<=d/\d<=9223372036854775807) :
  Calls prog 102 #[y,.int .i64 d] w fun e w'=>e=.returned (.tuple #[.agg #[.bool false,(),true],.int .i64 4])/\ai w w':=by
 obtain⟨br,ba,bm,vr,va,vm,vb,vt,vv,vc,h⟩:=h;obtain⟨ar,cr,dp⟩:=aM h.rr;subst dp;have hyl:y<w.heap.size:=(aQ h.blk);have hy1:¬ y=w.heap.size:=by omega
 have hy2:¬ w.heap.size=y:=by omega
 obtain⟨X,hX,hbX,hM⟩:=ch w #[.bool false,(),true] 53;have c0:X.cell? (y,0)=some (.slice ar c.aD.length cr):=aF hbX (aj h.blk 0);have HK:=ae (mB y c.aD.length _ cr d X c0 hn hi);have hk:(cE c.aD.length d).1≠2:=by
  unfold cE;split
  ·show (1:Int)≠2;omega
  ·rw[if_neg (fun e:100<=d/\d<103=>hd ⟨e.1,e.2⟩)]
   split
   ·show (3:Int)≠2;omega
   ·show (0:Int)≠2;omega
 generalize (cE c.aD.length d).1=k1 at *;generalize (cE c.aD.length d).2=k2 at *;have hk':(k1 == 2)=false:=by simpa using hk
 have gW:=fun j=>aj hM j;have fW:=fun j=>aW hM j;clear h hd;go_enter func102,ntmps102;go_upto_region 1 with fail
 clear hX hM;go_wp2_with fail;refine HK.out.mono ?_
 rintro e W ⟨rfl,rfl⟩;go_wp2_with fail;refine dB (v:=.tuple #[.agg #[.bool false,(),true],.int .i64 4]) (by simp[results,results102,go_sem,gW]) rfl ⟨rfl, ?_⟩
 iterate 3 refine eE ?_ (by exact aG _) _
 exact hbX
theorem Sw (d:Int)(h:cK w F y c)(hn:c.aD.length<=5)(hd:dC d) :
  Calls prog 102 #[y,.int .i64 d] w fun e w'=>∃ vm,e=.returned (.tuple #[.agg #[.bool (c.acc d).up,.int .i64 (c.acc d).ah,vm],()])/\bd w vm (c.acc d).af/\ai w w':=by
 obtain⟨br,ba,bm,vr,va,vm,vb,vt,vv,vc,h⟩:=h;obtain⟨ar,cr,dp⟩:=aM h.rr;subst dp;have hd1:=hd.1;have hd2:=hd.2;obtain⟨i,rfl⟩:∃ i:Nat,d=100+(i:Int):=⟨(d-100).toNat,by omega⟩
 have hi:i<3:=by omega
 obtain⟨wm,hb,hm, -, -, -⟩:=h.di i hi;obtain⟨g,cap,hv, -, -⟩:=h.ra.form (by omega)
 subst hv;have hcell:=ev h.ra i (by omega)
 rw[qu ba 0 3 i hi,fh] at hcell;have hk:cE c.aD.length (100+(i:Int))=(2,(i:Int)):=by
  unfold cE;rw[if_neg (by omega),if_pos ⟨by omega,by omega⟩]
  simp;omega
 obtain⟨am,cm,dG⟩:=aM hm;subst dG;have hyl:y<w.heap.size:=(aQ h.blk);have hbl:ba i<w.heap.size:=(aQ hb);have hgl:g<w.heap.size:=Bu hcell;have hy1:¬ y=w.heap.size:=by omega
 have hy2:¬ w.heap.size=y:=by omega
 have hb1:¬ ba i=w.heap.size:=by omega
 have hb2:¬ w.heap.size=ba i:=by omega
 obtain⟨X,hX,hbX,hM⟩:=ch w #[.bool false,(),true] 53;have c0:X.cell? (y,0)=some (.slice ar c.aD.length cr):=aF hbX (aj h.blk 0);have c1:X.cell? (y,1)=some (.slice (some g) 3 cap):=aF hbX (aj h.blk 1);have cg:=aF hbX hcell;have mS:=(hbX.block _ hbl).trans hb;generalize c.acc (100+(i:Int))=r at *;have r0:=au mS 0;have r1:=au mS 1;have r2:=au mS 2;have HK:=ae (mB y c.aD.length _ cr (100+(i:Int)) X c0 hn (by omega))
 rw[hk] at HK;have gW:=fun j=>aj hM j;have fW:=fun j=>aW hM j;have HO:=ae hm;have hi1:(i:Int)<3:=by omega
 have hi0:(0:Int)<=(i:Int):=by omega
 clear h hb hm hcell hk hd;go_enter func102,ntmps102;go_upto_region 1 with fail
 clear hX hM mS;go_wp2_with fail;refine HK.out.mono ?_
 rintro e W ⟨rfl,rfl⟩;go_wp2_with fail;go_region;go_wp2_with fail;refine dB (v:=.tuple #[.agg #[.bool r.up,r.ah,.slice am r.af.length cm],()]) (by simp[results,results102,go_sem,gW]) rfl ?_
 refine⟨_,rfl,HO.out, ?_⟩
 refine Below.drew ?_
 iterate 3 refine eE ?_ (by exact aG _) _
 exact hbX
theorem Pe : (prog.info? 9).map (fun i=>(i.zero,i.size,i.bytes))=some (some (.string ⟨#[]⟩),1,16):=by kernel_rfl
theorem MA (l:List (List UInt8 × Bool))(i:Nat)(f:List UInt8 × Bool)(hf:l[i]?=some f):(de l)[i*2]?=some (.string (bs f.1)):=by
 induction l generalizing i with
 | nil=>simp at hf
 | cons a t ih =>
  have e:de (a :: t)=[Value.string (bs a.1),.bool a.2]++de t:=by simp[de]
  rw[e];cases i with
  | zero =>
   simp at hf;subst hf;rfl
  | succ i =>
   rw[kH (by simp;omega),show (i+1)*2 - [Value.string (bs a.1),Value.bool a.2].length=i*2 by simp;omega]
   exact ih i (by simpa using hf)
theorem S5 (h:cK w F y c)(hl:c.aE.length<=1000) :
  Calls prog 90 #[y] w fun e w'=>∃ v,e=.returned v/\w'.ownsRow w.heap.size 9 1 v c.aE.length (eF (c.aE.map Prod.fst))/\ai w w':=by
 obtain⟨br,ba,bm,vr,va,vm,vb,vt,vv,vc,h⟩:=h;obtain⟨ab,cb,hvb⟩:=aM h.aE;subst hvb;have c3:=au h.blk 3;have HB:=ae h.aE;clear h;go_enter func90,ntmps90;go_wp2_with fail;go_loopw [3,4] (fun v i wr=>∃ k:Nat,k<=c.aE.length/\i=.int .i64 k/\wr.ownsRow w.heap.size 9 1 v k (eF ((c.aE.take k).map Prod.fst))/\ai w wr) (fun _ i _=>c.aE.length-(intOf i).toNat)
 case atStart=>exact⟨0,bl _,rfl,bE _ _ _ _,ax _ _⟩
 case round =>
  obtain⟨k,hk,rfl,hown,hb⟩:=hrel;obtain⟨av,cv,hv⟩:=aM hown;subst hv;have r3:=aF hb c3;have hk0:(0:Int)<=(k:Int):=by omega
  by_cases hlt:k<c.aE.length
  ·have hk1:(k:Int)<(c.aE.length:Int):=by omega
   obtain⟨g,cap,hvb, -, -⟩:=HB.out.form (by omega)
   cases hvb;have hf:c.aE[k]?=some c.aE[k]:=bU hlt;have hcell:=ev HB.out (k*2) (by omega)
   rw[MA _ _ _ hf] at hcell;have ck:=aF hb hcell;have htk:Hid (eF ((c.aE.take (k+1)).map Prod.fst)=eF ((c.aE.take k).map Prod.fst)++[.string (bs c.aE[k].1)]):=ae (by rw[nU hlt,gw,Hj];rfl)
   generalize c.aE[k]=f at *;obtain⟨g',cap',W1,hrun,ho1,hg1,ek⟩:=oX (t:=111) Pe underlying111 rfl (by decide) (wr.alloc (.cells #[.string (bs f.1)] 9)) w.heap.size (.slice av k cv) k (eF ((c.aE.take k).map Prod.fst)) [.string (bs f.1)] wr.heap.size (hown.alloc _) (hnw _ _) rfl (by intro u hu;simp at hu;subst hu;rfl) (by omega) (by decide) (by simp;have:=hb.size;omega)
   have HR:=ae hrun;have hbW:ai w W1:=hb.trans ((((Moved.refl wr (fun j=>(Value.slice av k cv).ownBlock=some j)).alloc _).grown hg1 (fun j _ e=>e)).jg (fun j e=>(hown.lt j e).1) hb.size);have HO:=ae (aP ho1 hbW);clear hrun ho1 hg1 hbW hcell hown;go_wp2_with (at_builtin;refine kI rfl (.tmp 14) (.tmp 23) 111 rfl _ _ _ _ (by simp[Act.eval]) (by simp[Act.eval]) HR.out ?_)
   go_wp2_with fail;refine⟨⟨k+1,by omega,by go_num,by rw[htk.out];exact HO.out.1,HO.out.2⟩,by simp[intOf];omega⟩
  ·obtain rfl:k=c.aE.length:=by omega
   rw[je] at hown;have HO:=ae (aP hown hb);clear hown;go_wp2_with fail;go_ret;exact⟨_,rfl,HO.out.1,HO.out.2⟩
theorem Pb : (prog.info? 183).map (fun i=>(i.zero,i.size,i.bytes))=some (some (.agg #[(),(),.nilIface]),3,32):=by kernel_rfl
theorem O9 : (prog.info? 129).map (fun i=>(i.zero,i.size,i.bytes))=some (some (.pointer none),1,8):=by kernel_rfl
theorem O0 : (prog.info? 99).map (fun i=>(i.zero,i.size,i.bytes))=some (some (.pointer none),1,8):=by kernel_rfl
theorem O6 : (prog.info? 81).map (fun i=>(i.zero,i.size,i.bytes))=some (some (.pointer none),1,8):=by kernel_rfl
theorem J0 (x k:Nat)(vs a1 a2 a3 a4 a5:Value)(xs:List Value)(num:Int)(ty:TypeId)(q:Option Addr)(w:World)(hblk:w.heap[x]?=some (.cells #[vs,a1,a2,a3,a4,a5] 93))(hrow:w.ownsRow 0 183 3 vs k xs)(hk:k<=100) :
  Calls prog 108 #[x,.int .i64 num,.iface ty (.pointer q)] w fun e w'=>(∃ v,e=.returned v)/\∃ vs',w'.heap[x]?=some (.cells #[vs',a1,a2,a3,a4,a5] 93)/\w'.ownsRow 0 183 3 vs' (k+1) (xs++[.int .i64 num,.int .i64 0,.iface ty (.pointer q)])/\Moved w w' (fun z=>z=x\/vs.ownBlock=some z)/\bO w vs vs':=by
 obtain⟨ab,cb,rfl⟩:=aM hrow;have c0:=aj hblk 0;have hxl:x<w.heap.size:=(aQ hblk);obtain⟨X,hX⟩:∃ X,X=w.alloc (.cells #[.int .i64 num,(),.iface ty (.pointer q)] 183):=⟨_,rfl⟩;have hbX:ai w X:=by rw[hX];exact (ax _ w).alloc (aG _) _
 have gJ:X.heap.size=w.heap.size+1:=by rw[hX];simp
 have E6:X.ownsRow 0 183 3 (.slice ab k cb) k xs:=aS hrow fun k _ hk=>hbX.block k hk;obtain⟨g',cap',W1,hrun,ho1,hg1,ek⟩:=oX (t:=84) Pb underlying84 rfl (by decide) X 0 (.slice ab k cb) k xs [.int .i64 num,.int .i64 0,.iface ty (.pointer q)] w.heap.size E6 (by rw[hX];exact hnw _ _) rfl (by intro u hu;simp at hu;rcases hu with rfl|rfl|rfl<;>rfl) (by omega) (by decide) (bl _)
 have nb:(Value.slice ab k cb).ownBlock≠some x:=aY hblk hrow (by decide)
 have jY:W1.heap[x]?=some (.cells #[.slice ab k cb,a1,a2,a3,a4,a5] 93):=(hg1.block x (by omega) (fun e=>nb e.symm)).trans ((hbX.block x hxl).trans hblk)
 have d0:=aj jY 0;have e0:=aW jY 0;have M1:Moved w W1 (fun z=>z=x\/(Value.slice ab k cb).ownBlock=some z):=((Moved.refl w _).below hbX).grown hg1 (fun k _ e=>.inr e);have HR:=ae hrun;rw[hX] at HR;have HF:Hid (∃ vs',(W1.setCell x (.slice (some g') (k+1) cap')).heap[x]?=some (.cells #[vs',a1,a2,a3,a4,a5] 93)/\(W1.setCell x (.slice (some g') (k+1) cap')).ownsRow 0 183 3 vs' (k+1) (xs++[.int .i64 num,.int .i64 0,.iface ty (.pointer q)])/\Moved w (W1.setCell x (.slice (some g') (k+1) cap')) (fun z=>z=x\/(Value.slice ab k cb).ownBlock=some z)/\bO w (.slice ab k cb) vs'):=ae (by
  refine⟨_,TA _ jY,bu ho1 (aY jY ho1 (by decide)) _,M1.setCell x (.inl rfl) _, ?_⟩
  intro z hz;have:g'=z:=by simpa [Value.ownBlock] using hz
  subst this;rcases ek with h5|h5
  ·exact .inl h5
  ·exact .inr (by omega))
 clear hrun ho1 hg1 ek E6 M1 hX hbX gJ jY;go_enter func108,ntmps108;go_wp2_with (at_builtin;refine kI rfl (.tmp 10) (.tmp 14) 84 rfl _ _ _ _ (by simp[Act.eval]) (by simp[Act.eval]) HR.out ?_)
 go_wp2_with fail;go_end0;exact⟨⟨_,rfl⟩,HF.out⟩
def gn (n j:Nat):bT:=if j<n then .bq (aR.first n) else if j<n+3 then .acc (Acc.first n) else .aX (aN.still true 0)
def fU (n:Nat)(b:Nat->Nat)(j:Nat):List Value:=[.int .i64 (bY n j),.int .i64 0,.iface (fu (gn n j)) (.pointer (some ⟨b j,0,none⟩))]
def ig (x:Nat)(vs vr va vm:Value)(k:Nat):Prop:=k=x\/vs.ownBlock=some k\/vr.ownBlock=some k\/va.ownBlock=some k\/vm.ownBlock=some k
structure ez (w0 w:World)(x n k:Nat)(b:Nat->Nat)(Fn:Nat->Nat->Prop)(vs vr va vm:Value):Prop where
 blk:w.heap[x]?=some (.cells #[vs,vr,va,vm,true,true] 93)
 rs:w.ownsRow 0 183 3 vs k ((List.range k).flatMap (fU n b))
 rr:w.ownsRow 0 129 1 vr (min k n) (ec b 0 (min k n))
 ra:w.ownsRow 0 99 1 va (min (k-n) 3) (ec b n (min (k-n) 3))
 rm:w.ownsRow 0 81 1 vm (k-n-3) (ec b (n+3) (k-n-3))
 bj:∀ j,j<k->eW w (Fn j) (b j) (bY n j) (gn n j)
 sep:∀ i j,i<k->j<k->i≠j->∀ z,Fn i z->¬ Fn j z
 off:∀ j,j<k->∀ z,Fn j z->¬ ig x vs vr va vm z
 xu:∀ z,ig x vs vr va vm z->w0.heap.size<=z
 AY:∀ j,j<k->∀ z,Fn j z->w0.heap.size<=z
 pL:ai w0 w
theorem uZ (b:Nat->Nat)(s m:Nat):ec b s (m+1)=ec b s m++[.pointer (some ⟨b (s+m),0,none⟩)]:=by
 unfold ec;rw[List.range_succ,gw];rfl
theorem nR (b b':Nat->Nat)(s m:Nat)(h:∀ i,i<m->b (s+i)=b' (s+i)):ec b s m=ec b' s m:=by
 unfold ec;refine List.map_congr_left fun i hi => ?_
 rw[h i (List.mem_range.1 hi)]
theorem Hi (n:Nat)(b:Nat->Nat)(k:Nat):(List.range (k+1)).flatMap (fU n b)=(List.range k).flatMap (fU n b)++fU n b k:=by
 rw[List.range_succ,List.flatMap_append];simp
theorem TS (n:Nat)(b b':Nat->Nat)(k:Nat)(h:∀ i,i<k->b i=b' i):(List.range k).flatMap (fU n b)=(List.range k).flatMap (fU n b'):=by
 rw[List.flatMap_def,List.flatMap_def];congr 1;refine List.map_congr_left fun i hi => ?_
 unfold fU;rw[h i (List.mem_range.1 hi)]
def dP (b:Nat->Nat)(k v:Nat)(i:Nat):Nat:=if i=k then v else b i
def nS (Fn:Nat->Nat->Prop)(k:Nat)(F:Nat->Prop)(i:Nat):Nat->Prop:=if i=k then F else Fn i
theorem ez.step {w1 w3:World}{b:Nat->Nat}{Fn:Nat->Nat->Prop}{vs vs' xW xT bN:Value}(h:ez w0 w x n k b Fn vs vr va vm)(b':Nat)(F':Nat->Prop)
  (h1:ai w w1) (hN:eW w1 F' b' (bY n k) (gn n k)) (hF:∀ z,F' z->w.heap.size<=z)
  (hM:Moved w1 w3 (ig x vs vr va vm)) (hG:∀ z,ig x vs' xW xT bN z->ig x vs vr va vm z\/w1.heap.size<=z)
  (hblk:w3.heap[x]?=some (.cells #[vs',xW,xT,bN,true,true] 93))
  (hrs:w3.ownsRow 0 183 3 vs' (k+1) ((List.range k).flatMap (fU n b)++[.int .i64 (bY n k),.int .i64 0,.iface (fu (gn n k)) (.pointer (some b'))]))
  (hrr:w3.ownsRow 0 129 1 xW (min (k+1) n) (ec (dP b k b') 0 (min (k+1) n)))
  (hra:w3.ownsRow 0 99 1 xT (min (k+1-n) 3) (ec (dP b k b') n (min (k+1-n) 3)))
  (hrm:w3.ownsRow 0 81 1 bN (k+1-n-3) (ec (dP b k b') (n+3) (k+1-n-3))) :
  ez w0 w3 x n (k+1) (dP b k b') (nS Fn k F') vs' xW xT bN:=by
 have hs0:=h.pL.size;have hs1:=h1.size;have hs3:=hM.size;have hO:∀ z,ig x vs vr va vm z->z<w.heap.size:=by
  intro z hz;have key:∀ {base size n:Nat} {e:TypeId} {v:Value} {xs:List Value},w.ownsRow base e size v n xs->v.ownBlock=some z->z<w.heap.size:=fun hr e=>(dL.1 (bK hr e).choose_spec.1).1;rcases hz with e|e|e|e|e
  ·rw[e];exact (aQ h.blk)
  ·exact key h.rs e
  ·exact key h.rr e
  ·exact key h.ra e
  ·exact key h.rm e
 have hold:∀ j,j<k->∀ z,Fn j z->z<w.heap.size:=fun j hj z hz=>(h.bj j hj).lt hz;have hF1:∀ z,F' z->z<w1.heap.size:=fun z hz=>hN.lt hz;refine⟨hblk, ?_,hrr,hra,hrm, ?_, ?_, ?_, ?_, ?_, ?_⟩
 ·rw[Hi,TS n (dP b k b') b k (fun i hi=>by unfold dP;rw[if_neg (by omega)])]
  have:fU n (dP b k b') k=[.int .i64 (bY n k),.int .i64 0,.iface (fu (gn n k)) (.pointer (some b'))]:=by unfold fU dP;rw[if_pos rfl]
  rw[this];exact hrs
 ·intro j hj
  unfold dP nS;by_cases e:j=k
  ·subst e
   rw[if_pos rfl,if_pos rfl];exact hN.keep fun z hz=>hM.block z (hF1 z hz) (fun e2=>by have:=hO z e2;have:=hF z hz;omega)
  ·rw[if_neg e,if_neg e]
   have hj':j<k:=by omega
   exact (h.bj j hj').keep fun z hz=>(hM.block z (by have:=hold j hj' z hz;omega) (h.off j hj' z hz)).trans (h1.block z (hold j hj' z hz))
 ·intro i j hi hj hne z hz hz2
  unfold nS at hz hz2;by_cases e:i=k
  ·subst e
   rw[if_pos rfl] at hz;rw[if_neg (Ne.symm hne)] at hz2;have:=hF z hz;have:=hold j (by omega) z hz2
   omega
  ·rw[if_neg e] at hz
   by_cases e2:j=k
   ·subst e2
    rw[if_pos rfl] at hz2;have:=hF z hz2;have:=hold i (by omega) z hz
    omega
   ·rw[if_neg e2] at hz2
    exact h.sep i j (by omega) (by omega) hne z hz hz2
 ·intro j hj z hz hz2
  unfold nS at hz;rcases hG z hz2 with q|q
  ·by_cases e:j=k
   ·rw[if_pos e] at hz
    have:=hF z hz;have:=hO z q;omega
   ·rw[if_neg e] at hz
    exact h.off j (by omega) z hz q
  ·by_cases e:j=k
   ·rw[if_pos e] at hz
    have:=hF1 z hz;omega
   ·rw[if_neg e] at hz
    have:=hold j (by omega) z hz
    omega
 ·intro z hz
  rcases hG z hz with q|q
  ·exact h.xu z q
  ·omega
 ·intro j hj z hz
  unfold nS at hz;by_cases e:j=k
  ·rw[if_pos e] at hz
   have:=hF z hz;omega
  ·rw[if_neg e] at hz
   exact h.AY j (by omega) z hz
 ·exact (h.pL.trans (h1.mono hs0)).trans ((hM.jg (fun z hz=>h.xu z hz) (by omega)))
theorem AI : (prog.info? 3).map (fun i=>(i.zero,i.size,i.bytes))=some (some (.int .i64 0),1,8):=by kernel_rfl
theorem O_ : (prog.info? 197).map (fun i=>(i.zero,i.size,i.bytes))=some (some (.pointer none),1,8):=by kernel_rfl
theorem O5 : (prog.info? 200).map (fun i=>(i.zero,i.size,i.bytes))=some (some (.pointer none),1,8):=by kernel_rfl
theorem O7 : (prog.info? 204).map (fun i=>(i.zero,i.size,i.bytes))=some (some (.pointer none),1,8):=by kernel_rfl
theorem Mr (k:Nat):dn (k+1)=dn k++[(k:Int)]:=by
 unfold dn;rw[List.range_succ,gw];rfl
theorem Bx (v:Value)(l:List Int)(w:World)(hv:bd w v l)(h0:l≠[])(hl:l.length<=1000000000) :
  Calls prog 132 #[v] w fun e w'=>∃ a c,e=.returned (.slice a l.length c)/\w'.ownsRow w.heap.size 3 1 (.slice a l.length c) l.length (aJ l)/\ai w w':=by
 obtain⟨i0,hi,hz0,hz1,hz2⟩:=info_parts AI;have hpos:0<l.length:=List.length_pos_iff.2 h0;obtain⟨g,cv,rfl, -, -⟩:=hv.form (by omega)
 have hcells:∀ j u,(aJ l)[j]?=some u->w.cell? ((⟨g,0,none⟩:Addr).add j)=some u:=fun j u hj=>by
  have hjl:j<l.length:=by have:=(dI.1 hj).1;rwa [fP] at this
  have:=ev hv j (by omega)
  rw[show (⟨g,0,none⟩:Addr).add j=⟨g,j,none⟩ by unfold Addr.add;by_cases hj0:j=0<;>simp[hj0],this,hj]
 clear hv;go_enter func132,ntmps132;go_wp2_with (at_builtin;refine wpList_append_own _ rfl _ _ 29 rfl w.heap.size 3 i0 _ 1 8 underlying29 hi hz0 hz1 hz2 rfl (by decide) (.slice none 0 0) 0 [] rfl (bE _ _ _ _) ⟨g,0,none⟩ l.length cv (aJ l) rfl (by rw[fP];omega) hcells (kE _) (by unfold maxLen;omega) (by omega) (aG _) ?_)
 intro v' w' ho hg _;have ho':w'.ownsRow w.heap.size 3 1 v' l.length (aJ l):=by simpa using ho
 obtain⟨a',c',hv'⟩:=aM ho';subst hv';have HO:=ae ho';have HG:Hid (ai w w'):=ae (((Moved.refl w (fun _=>False)).grown hg (fun k _ e=>by simp[Value.ownBlock] at e)).jg (fun _ e=>e.elim) (aG _))
 clear ho ho' hg hcells;go_wp2_with fail;go_ret;exact⟨a',c',rfl,HO.out,HG.out⟩
def Fr (w0 w:World)(z:Nat):Prop:=w0.heap.size<=z/\z<w.heap.size
theorem oT.later (h:oT w (Fr w0 w) b r)(hs:w.heap.size<=w'.heap.size)(hk:∀ {base size n:Nat} {e:TypeId} {v:Value} {xs:List Value},w.ownsRow base e size v n xs->e=3\/e=42->w'.ownsRow base e size v n xs)(hb:∀ cs,w.heap[b]?=some (.cells cs 199)->w'.heap[b]?=some (.cells cs 199)):oT w' (Fr w0 w') b r:=by
 obtain⟨vm,vl,h1,h2,h3,h4,h5,h6⟩:=h;have wid:∀ z,Fr w0 w z->Fr w0 w' z:=fun z e=>⟨e.1,j5 e.2 hs⟩;exact⟨vm,vl,hb _ h1,hk h2 (.inl rfl),hk h3 (.inr rfl),wid _ h4,h5.wider wid,h6.wider wid⟩
theorem pJ.nil (w:World)(F:Nat->Prop):pJ w F (.slice none 0 0) (fun _=>fK.none) :=
 ⟨[],bE _ _ _ _,bA.nil _,fun _ h=>absurd h iP,List.nodup_nil,fun _ h=>absurd h iP,fun _ _=>rfl⟩
theorem jy.later (h:jy w (Fr w0 w) b (.slice none 0 0) (Acc.first n))(hs:w.heap.size<=w'.heap.size)(hk:∀ {base size n:Nat} {e:TypeId} {v:Value} {xs:List Value},w.ownsRow base e size v n xs->e=3\/e=42->w'.ownsRow base e size v n xs)(hb:∀ cs,w.heap[b]?=some (.cells cs 203)->w'.heap[b]?=some (.cells cs 203)):jy w' (Fr w0 w') b (.slice none 0 0) (Acc.first n):=by
 obtain⟨vm,h1,h2,h3,h4,h5⟩:=h;have wid:∀ z,Fr w0 w z->Fr w0 w' z:=fun z e=>⟨e.1,j5 e.2 hs⟩;exact⟨vm,hb _ h1,hk h2 (.inl rfl),wid _ h3,h4.wider wid,pJ.nil _ _⟩
structure ly (w0 w:World)(y n k m:Nat)(vA:Value)(br ba:Nat->Nat)(vr va:Value):Prop where
 blk:w.heap[y]?=some (.cells #[vr,va,true,true,true] 120)
 rr:w.ownsRow 0 197 1 vr k (ec br 0 k)
 ra:w.ownsRow 0 200 1 va m (ec ba 0 m)
 aD:∀ j,j<k->oT w (Fr w0 w) (br j) (aR.first n)
 di:∀ j,j<m->jy w (Fr w0 w) (ba j) (.slice none 0 0) (Acc.first n)
 all:bd w vA (dn n)
 new:w0.heap.size<=y/\(∀ z,vr.ownBlock=some z->w0.heap.size<=z)/\(∀ z,va.ownBlock=some z->w0.heap.size<=z)/\∀ z,vA.ownBlock=some z->w0.heap.size<=z
 be:ai w0 w
 cfg:w.heap[w0.heap.size]?=some (.cells #[.int .i64 (n:Int)] 75)
 k_:∀ i j,i<k->j<k->br i=br j->i=j
 kZ:∀ i j,i<m->j<m->ba i=ba j->i=j
theorem ly.below (h:ly w0 w y n k m vA br ba vr va)(hb:ai w w'):ly w0 w' y n k m vA br ba vr va where
 blk:=(hb.block _ (aQ h.blk)).trans h.blk
 rr:=aS h.rr fun z _ hz=>hb.block z hz
 ra:=aS h.ra fun z _ hz=>hb.block z hz
 aD:=fun j hj=>(h.aD j hj).later hb.size (fun ho _=>aS ho fun z _ hz=>hb.block z hz) (fun _ e=>(hb.block _ (aQ e)).trans e)
 di:=fun j hj=>(h.di j hj).later hb.size (fun ho _=>aS ho fun z _ hz=>hb.block z hz) (fun _ e=>(hb.block _ (aQ e)).trans e)
 all:=aS h.all fun z _ hz=>hb.block z hz
 new:=h.new
 be:=h.be.trans (hb.mono h.be.size)
 cfg:=(hb.block _ (aQ h.cfg)).trans h.cfg
 k_:=h.k_
 kZ:=h.kZ
theorem ly.bq (h:ly w0 V y n k m vA br ba vr va)(hm:bd V vm (dn n))(hmn:∀ z,vm.ownBlock=some z->w0.heap.size<=z)(hk:k<=10) :
  ∃ g' cap' W1 ss,(∀ ty,(Builtin.append_ #[115,115] ty #[vr,.slice (some ⟨V.heap.size+1,0,none⟩) 1 1]).run prog ((V.alloc (.cells #[.bool true,(),(),vm,true,(),()] 199)).alloc (.cells #[V.heap.size] 197))=.ok (.slice (some ⟨g',0,none⟩) (k+1) cap') W1) /\
   W1.cell? (y,0)=some vr/\W1.frozen? (y,0)=false/\ly w0 (W1.setCell y (.slice (some ⟨g',0,none⟩) (k+1) cap')) y n (k+1) m vA ss ba (.slice (some ⟨g',0,none⟩) (k+1) cap') va:=by
 obtain⟨X,hX⟩:∃ X,X=V.alloc (.cells #[.bool true,(),(),vm,true,(),()] 199):=⟨_,rfl⟩;have gJ:X.heap.size=V.heap.size+1:=by rw[hX];simp
 have hbX:ai V X:=by rw[hX];exact (ax _ V).alloc (aG _) _
 have hM:X.heap[V.heap.size]?=some (.cells #[.bool true,(),(),vm,true,(),()] 199):=by rw[hX];exact hnw _ _
 have cq:ai X (X.alloc (.cells #[V.heap.size] 197)):=(ax _ X).alloc (aG _) _;have IZ:=(h.below hbX).below cq;have hnew:(X.alloc (.cells #[V.heap.size] 197)).heap[V.heap.size+1]?=some (.cells [Value.pointer (some V.heap.size)].toArray 197):=by
  have:=hnw X (.cells #[V.heap.size] 197);rw[gJ] at this;exact this
 obtain⟨g',cap',W1,hrun,ho1,hg1,ek⟩:=oX (t:=115) O_ underlying115 rfl (by decide) (X.alloc (.cells #[V.heap.size] 197)) 0 vr k (ec br 0 k) [.pointer (some V.heap.size)] (V.heap.size+1) IZ.rr hnew rfl (by intro u hu;rw[dg] at hu;subst hu;rfl) (by omega) (by decide) (bl _)
 have sI:(X.alloc (.cells #[V.heap.size] 197)).heap.size=V.heap.size+2:=by rw[eJ,gJ]
 have AF:=h.be.size;generalize hZ:X.alloc (.cells #[V.heap.size] 197)=Z at *;have uE:=hg1.size;have nb:vr.ownBlock≠some y:=aY IZ.blk IZ.rr (by decide)
 have hyl:y<Z.heap.size:=(aQ IZ.blk);have fO:W1.heap[y]?=some (.cells #[vr,va,true,true,true] 120):=(hg1.block y hyl (fun e=>nb e.symm)).trans IZ.blk;obtain⟨U,hU⟩:∃ U,U=W1.setCell y (.slice (some ⟨g',0,none⟩) (k+1) cap'):=⟨_,rfl⟩;have bI:Moved Z U (fun z=>z=y\/vr.ownBlock=some z):=by
  rw[hU];exact ((Moved.refl Z _).grown hg1 (fun z _ e=>.inr e)).setCell y (.inl rfl) _
 have hkeep:∀ {base size n:Nat} {e:TypeId} {v:Value} {xs:List Value},Z.ownsRow base e size v n xs->e≠120->e≠197->U.ownsRow base e size v n xs:=fun ho h1 h2=>bI.owns ho fun z hz hS=>by
  rcases hS with e|e
  ·exact aY IZ.blk ho h1 (e ▸ hz)
  ·exact bM ho IZ.rr h2 z hz e
 have pf:∀ {b:Nat} {cs:Array Value} {t:TypeId},Z.heap[b]?=some (.cells cs t)->t≠120->t≠197->U.heap[b]?=some (.cells cs t):=fun {b cs t} e h1 h2=>by
  refine (bI.block b (aQ e) fun hS => ?_).trans e
  rcases hS with q|q
  ·rw[q,IZ.blk] at e
   injection e with e
   injection e with e1 e2
   exact h1 e2.symm
  ·exact aY e IZ.rr (fun q=>h2 q.symm) q
 have Nw:V.heap.size≠y:=by
  have:=(aQ h.blk);omega
 have uG:=bI.size;have mj:Z.heap[V.heap.size]?=some (.cells #[.bool true,(),(),vm,true,(),()] 199):=(cq.block _ (by omega)).trans hM
 have AD:∀ z,vm.ownBlock=some z->z<V.heap.size:=fun z e=>(dL.1 (bK hm e).choose_spec.1).1;have Ar:bd Z vm (dn n):=aS (aS hm fun z _ hz=>hbX.block z hz) fun z _ hz=>cq.block z hz;refine⟨g',cap',W1,fun j=>if j=k then V.heap.size else br j,fun ty=>by rw[<- hX,hZ];exact hrun ty,aj fO 0,aW fO 0, ?_⟩
 rw[<- hU];refine⟨?_, ?_,hkeep IZ.ra (by decide) (by decide),fun j hj => ?_,fun j hj => ?_,hkeep IZ.all (by decide) (by decide),⟨h.new.1,fun z e => ?_,h.new.2.2.1,h.new.2.2.2⟩, ?_,pf IZ.cfg (by decide) (by decide),fun i j hi hj e => ?_,h.kZ⟩
 ·rw[hU]
  exact bV _ _ _ _ _ _ fO
 ·have hr:=bu (a:=⟨y,0,none⟩) ho1 (aY fO ho1 (by decide)) (.slice (some ⟨g',0,none⟩) (k+1) cap')
  rw[<- hU] at hr;rw[uZ,fh,if_pos rfl,nR _ br 0 k (fun i hi=>by rw[fh,if_neg (by omega)])]
  exact hr
 ·by_cases hjk:j=k
  ·rw[if_pos hjk]
   refine⟨vm,.slice none 0 0,pf mj (by decide) (by decide),hkeep Ar (by decide) (by decide),bE _ _ _ _,⟨AF,by omega⟩,fun z e=>⟨hmn z e,by have:=AD z e;omega⟩,fun z e=>absurd e eQ⟩
  ·rw[if_neg hjk]
   exact (IZ.aD j (by omega)).later uG (fun ho e=>hkeep ho (by rcases e with e|e<;>(rw[e];decide)) (by rcases e with e|e<;>(rw[e];decide))) (fun _ e=>pf e (by decide) (by decide))
 ·exact (IZ.di j hj).later uG (fun ho e=>hkeep ho (by rcases e with e|e<;>(rw[e];decide)) (by rcases e with e|e<;>(rw[e];decide))) (fun _ e=>pf e (by decide) (by decide))
 ·have hg:g'=z:=by simpa [Value.ownBlock] using e
  rcases ek with q|q
  ·exact h.new.2.1 z (hg ▸ q)
  ·omega
 ·refine IZ.be.trans (bI.jg (fun z q => ?_) IZ.be.size)
  rcases q with q|q
  ·rw[q];exact h.new.1
  ·exact h.new.2.1 z q
 ·have old:∀ t,t<k->br t<V.heap.size:=fun t ht=>by
   obtain⟨_,_,q,_⟩:=h.aD t ht;exact (aQ q)
  by_cases h1:i=k
  ·by_cases h2:j=k
   ·omega
   ·rw[if_pos h1,if_neg h2] at e
    have:=old j (by omega)
    omega
  ·by_cases h2:j=k
   ·rw[if_neg h1,if_pos h2] at e
    have:=old i (by omega)
    omega
   ·rw[if_neg h1,if_neg h2] at e
    exact h.k_ i j (by omega) (by omega) e
theorem ly.acc (h:ly w0 V y n k m vA br ba vr va)(hm:bd V vm (dn n))(hmn:∀ z,vm.ownBlock=some z->w0.heap.size<=z)(hk:m<=10) :
  ∃ g' cap' W1 ba',(∀ ty,(Builtin.append_ #[116,116] ty #[va,.slice (some ⟨V.heap.size+1,0,none⟩) 1 1]).run prog ((V.alloc (.cells #[.bool true,(),vm,true] 203)).alloc (.cells #[V.heap.size] 200))=.ok (.slice (some ⟨g',0,none⟩) (m+1) cap') W1) /\
   W1.cell? (y,1)=some va/\W1.frozen? (y,1)=false/\ly w0 (W1.setCell ⟨y,1,none⟩ (.slice (some ⟨g',0,none⟩) (m+1) cap')) y n k (m+1) vA br ba' vr (.slice (some ⟨g',0,none⟩) (m+1) cap'):=by
 obtain⟨X,hX⟩:∃ X,X=V.alloc (.cells #[.bool true,(),vm,true] 203):=⟨_,rfl⟩;have gJ:X.heap.size=V.heap.size+1:=by rw[hX];simp
 have hbX:ai V X:=by rw[hX];exact (ax _ V).alloc (aG _) _
 have hM:X.heap[V.heap.size]?=some (.cells #[.bool true,(),vm,true] 203):=by rw[hX];exact hnw _ _
 have cq:ai X (X.alloc (.cells #[V.heap.size] 200)):=(ax _ X).alloc (aG _) _;have IZ:=(h.below hbX).below cq;have hnew:(X.alloc (.cells #[V.heap.size] 200)).heap[V.heap.size+1]?=some (.cells [Value.pointer (some V.heap.size)].toArray 200):=by
  have:=hnw X (.cells #[V.heap.size] 200);rw[gJ] at this;exact this
 obtain⟨g',cap',W1,hrun,ho1,hg1,ek⟩:=oX (t:=116) O5 underlying116 rfl (by decide) (X.alloc (.cells #[V.heap.size] 200)) 0 va m (ec ba 0 m) [.pointer (some V.heap.size)] (V.heap.size+1) IZ.ra hnew rfl (by intro u hu;rw[dg] at hu;subst hu;rfl) (by omega) (by decide) (bl _)
 have sI:(X.alloc (.cells #[V.heap.size] 200)).heap.size=V.heap.size+2:=by rw[eJ,gJ]
 have AF:=h.be.size;generalize hZ:X.alloc (.cells #[V.heap.size] 200)=Z at *;have uE:=hg1.size;have nb:va.ownBlock≠some y:=aY IZ.blk IZ.ra (by decide)
 have hyl:y<Z.heap.size:=(aQ IZ.blk);have fO:W1.heap[y]?=some (.cells #[vr,va,true,true,true] 120):=(hg1.block y hyl (fun e=>nb e.symm)).trans IZ.blk;obtain⟨U,hU⟩:∃ U,U=W1.setCell ⟨y,1,none⟩ (.slice (some ⟨g',0,none⟩) (m+1) cap'):=⟨_,rfl⟩;have bI:Moved Z U (fun z=>z=y\/va.ownBlock=some z):=by
  rw[hU];exact ((Moved.refl Z _).grown hg1 (fun z _ e=>.inr e)).setCell ⟨y,1,none⟩ (.inl rfl) _
 have hkeep:∀ {base size n:Nat} {e:TypeId} {v:Value} {xs:List Value},Z.ownsRow base e size v n xs->e≠120->e≠200->U.ownsRow base e size v n xs:=fun ho h1 h2=>bI.owns ho fun z hz hS=>by
  rcases hS with e|e
  ·exact aY IZ.blk ho h1 (e ▸ hz)
  ·exact bM ho IZ.ra h2 z hz e
 have pf:∀ {b:Nat} {cs:Array Value} {t:TypeId},Z.heap[b]?=some (.cells cs t)->t≠120->t≠200->U.heap[b]?=some (.cells cs t):=fun {b cs t} e h1 h2=>by
  refine (bI.block b (aQ e) fun hS => ?_).trans e
  rcases hS with q|q
  ·rw[q,IZ.blk] at e
   injection e with e
   injection e with e1 e2
   exact h1 e2.symm
  ·exact aY e IZ.ra (fun q=>h2 q.symm) q
 have Nw:V.heap.size≠y:=by
  have:=(aQ h.blk);omega
 have uG:=bI.size;have mj:Z.heap[V.heap.size]?=some (.cells #[.bool true,(),vm,true] 203):=(cq.block _ (by omega)).trans hM
 have AD:∀ z,vm.ownBlock=some z->z<V.heap.size:=fun z e=>(dL.1 (bK hm e).choose_spec.1).1;have Ar:bd Z vm (dn n):=aS (aS hm fun z _ hz=>hbX.block z hz) fun z _ hz=>cq.block z hz;refine⟨g',cap',W1,fun j=>if j=m then V.heap.size else ba j,fun ty=>by rw[<- hX,hZ];exact hrun ty,aj fO 1,aW fO 1, ?_⟩
 rw[<- hU];refine⟨?_,hkeep IZ.rr (by decide) (by decide), ?_,fun j hj => ?_,fun j hj => ?_,hkeep IZ.all (by decide) (by decide),⟨h.new.1,h.new.2.1,fun z e => ?_,h.new.2.2.2⟩, ?_,pf IZ.cfg (by decide) (by decide),h.k_,fun i j hi hj e => ?_⟩
 ·rw[hU]
  exact bV _ _ _ _ _ _ fO
 ·have hr:=bu (a:=⟨y,1,none⟩) ho1 (aY fO ho1 (by decide)) (.slice (some ⟨g',0,none⟩) (m+1) cap')
  rw[<- hU] at hr;rw[uZ,fh,if_pos rfl,nR _ ba 0 m (fun i hi=>by rw[fh,if_neg (by omega)])]
  exact hr
 ·exact (IZ.aD j hj).later uG (fun ho e=>hkeep ho (by rcases e with e|e<;>(rw[e];decide)) (by rcases e with e|e<;>(rw[e];decide))) (fun _ e=>pf e (by decide) (by decide))
 ·by_cases hjk:j=m
  ·rw[if_pos hjk]
   refine⟨vm,pf mj (by decide) (by decide),hkeep Ar (by decide) (by decide),⟨AF,by omega⟩,fun z e=>⟨hmn z e,by have:=AD z e;omega⟩,pJ.nil _ _⟩
  ·rw[if_neg hjk]
   exact (IZ.di j (by omega)).later uG (fun ho e=>hkeep ho (by rcases e with e|e<;>(rw[e];decide)) (by rcases e with e|e<;>(rw[e];decide))) (fun _ e=>pf e (by decide) (by decide))
 ·have hg:g'=z:=by simpa [Value.ownBlock] using e
  rcases ek with q|q
  ·exact h.new.2.2.1 z (hg ▸ q)
  ·omega
 ·refine IZ.be.trans (bI.jg (fun z q => ?_) IZ.be.size)
  rcases q with q|q
  ·rw[q];exact h.new.1
  ·exact h.new.2.2.1 z q
 ·have old:∀ t,t<m->ba t<V.heap.size:=fun t ht=>by
   obtain⟨_,q,_⟩:=h.di t ht;exact (aQ q)
  by_cases h1:i=m
  ·by_cases h2:j=m
   ·omega
   ·rw[if_pos h1,if_neg h2] at e
    have:=old j (by omega)
    omega
  ·by_cases h2:j=m
   ·rw[if_neg h1,if_pos h2] at e
    have:=old i (by omega)
    omega
   ·rw[if_neg h1,if_neg h2] at e
    exact h.kZ i j (by omega) (by omega) e
def oI (u:Bool)(n:Nat):Array Value:=#[.bool u,.int .i64 (n:Int),.int .i64 0,.int .i64 0,.int .i64 0,.slice none 0 0,.slice none 0 0,.slice none 0 0,.slice none 0 0,.slice none 0 0]
theorem ea.still {u:Bool}(h:w.heap[b]?=some (.cells (oI u n) 206))(hF:F b):ea w F b (.slice none 0 0) (aN.still u n) :=
 ⟨.slice none 0 0,.slice none 0 0,.slice none 0 0,.slice none 0 0,h,⟨bE _ _ _ _,bE _ _ _ _,bE _ _ _ _,bE _ _ _ _⟩,hF,⟨bA.nil _,bA.nil _,bA.nil _,bA.nil _⟩,[],rfl,bE _ _ _ _,bA.nil _,fun _ h=>absurd h iP⟩
theorem LA (d:Int)(h:dM w F x c)(hd:¬ c.cN d)(_hi : -9223372036854775808<=d/\d<=9223372036854775807) :
  Calls prog 54 #[x,.int .i64 d] w fun r w'=>r=.returned (.tuple #[.agg #[.bool false,(),(),(),true,true],.int .i64 4])/\ai w w':=by
 obtain⟨gs,cap,b,Fn,vr,va,vm,vb,vt,h⟩:=h;obtain⟨ar,cr,dp⟩:=aM h.rr;subst dp;have e0:(if 0<=d/\d<0+(c.aD.length:Int) then Value.tuple #[.pointer (some ⟨b (0+(d-0).toNat),0,none⟩),.bool true] else .tuple #[.pointer none,.bool false])=.tuple #[.pointer none,.bool false]:=by
  rw[if_neg (fun e=>hd ⟨e.1,by have:=e.2;omega⟩)]
 have HP:Hid (∀ W,ai w W->Calls prog 59 #[.slice ar c.aD.length cr,(),.int .i64 d] W fun e w'=>e=.returned (.tuple #[.pointer none,.bool false])/\w'=W):=ae fun W hb=>by
  have:=Bm _ b 0 c.aD.length 0 d W (h.below hb).rr (by have:=h.n5;omega) (by omega)
  rw[e0] at this;exact this
 have HI:=ae h;have hxl:x<w.heap.size:=h.lt x (h.dv x (.inl rfl));have hx1:¬ x=w.heap.size:=by omega
 have hx2:¬ w.heap.size=x:=by omega
 clear h e0;go_enter func54,ntmps54;go_upto_region 1 with fail
 obtain⟨X,hX,hbX,hM⟩:=ch w #[.bool false,(),(),(),true,true] 46;rw[hX];clear hX;have c1:=aj (HI.out.below hbX).aE.blk 1;have gW:=fun j=>aj hM j;have fW:=fun j=>aW hM j;go_wp2_with fail;refine (HP.out X hbX).mono ?_
 rintro e W ⟨rfl,rfl⟩;clear c1;go_wp2_with fail;refine dB (v:=.tuple #[.agg #[.bool false,(),(),(),true,true],.int .i64 4]) (by simp[results,results54,go_sem,gW]) rfl ⟨rfl, ?_⟩
 iterate 6 refine eE ?_ (by exact aG _) _
 exact hbX
theorem Lq (d:Int)(h:dM w F x c)(hd:¬ dC d)(_hi : -9223372036854775808<=d/\d<=9223372036854775807) :
  Calls prog 20 #[x,.int .i64 d] w fun r w'=>r=.returned (.tuple #[.agg #[.bool false,(),true],.int .i64 4])/\ai w w':=by
 obtain⟨gs,cap,b,Fn,vr,va,vm,vb,vt,h⟩:=h;obtain⟨ar,cr,dp⟩:=aM h.ra;subst dp;have e0:(if 100<=d/\d<100+((3:Nat):Int) then Value.tuple #[.pointer (some ⟨b (c.aD.length+(d-100).toNat),0,none⟩),.bool true] else .tuple #[.pointer none,.bool false])=.tuple #[.pointer none,.bool false]:=by
  rw[if_neg (fun e=>hd (by unfold dC;omega))]
 have HP:Hid (∀ W,ai w W->Calls prog 38 #[.slice ar 3 cr,.int .i64 100,.int .i64 d] W fun e w'=>e=.returned (.tuple #[.pointer none,.bool false])/\w'=W):=ae fun W hb=>by
  have:=Gk _ b c.aD.length 3 100 d W (h.below hb).ra (by omega) (by omega)
  rw[e0] at this;exact this
 have HI:=ae h;have hxl:x<w.heap.size:=h.lt x (h.dv x (.inl rfl));have hx1:¬ x=w.heap.size:=by omega
 have hx2:¬ w.heap.size=x:=by omega
 clear h e0;go_enter func20,ntmps20;go_upto_region 1 with fail
 obtain⟨X,hX,hbX,hM⟩:=ch w #[.bool false,(),true] 53;rw[hX];clear hX;have c1:=aj (HI.out.below hbX).aE.blk 2;have gW:=fun j=>aj hM j;have fW:=fun j=>aW hM j;go_wp2_with fail;refine (HP.out X hbX).mono ?_
 rintro e W ⟨rfl,rfl⟩;clear c1;go_wp2_with fail;refine dB (v:=.tuple #[.agg #[.bool false,(),true],.int .i64 4]) (by simp[results,results20,go_sem,gW]) rfl ⟨rfl, ?_⟩
 iterate 3 refine eE ?_ (by exact aG _) _
 exact hbX
end Go.Proofs.YtgieeeeeiggoeaaGreat
