import Derived.Test.YtgieeeeeiggoeaaGreatD43
import Derived.Deep.CutBlock
set_option maxRecDepth 100000
set_option maxHeartbeats 8000000
namespace Go.Proofs.YtgieeeeeiggoeaaGreat
open Go.RowKit Go.Shelf
structure cP (w W:World)(F:Nat->Prop)(b:Nat)(dZ:Value)(s:aN)(vw vo vm vl vc:Value):Prop where
 blk:W.heap[b]?=some (.cells #[.bool s.up,.int .i64 (s.begun:Int),.int .i64 (s.does:Int),.int .i64 s.ah,.int .i64 s.ak,vw,vo,vm,vl,vc] 206)
 own:bd W vw s.want/\bd W vo s.old/\bd W vm s.af/\bw W vl s.log
 fb:F b
 inf:bA (Fi F w) vw/\bA (Fi F w) vo/\bA (Fi F w) vm/\bA (Fi F w) vl
 came:oa W (Fi F w) vc s.came
 mv:Moved w W (fun k=>k=b\/dZ.ownBlock=some k)
 gr:bO w dZ vc
theorem cP.of {w:World}{F:Nat->Prop}{b:Nat}{vc:Value}{s:aN}(h:ea w F b vc s):∃ vw vo vm vl,cP w w F b vc s vw vo vm vl vc:=by
 obtain⟨vw,vo,vm,vl,h1,h2,h3,⟨b1,b2,b3,b4⟩,h5⟩:=h;have hF:∀ k,F k->Fi F w k:=fun k e=>.inl e;exact⟨vw,vo,vm,vl,h1,h2,h3,⟨b1.wider hF,b2.wider hF,b3.wider hF,b4.wider hF⟩,h5.keep hF (fun ho _ _=>ho),Moved.refl _ _,bO.refl _ _⟩
theorem cP.at {w W:World}{F:Nat->Prop}{b:Nat}{dZ:Value}{s:aN}{vw vo vm vl vc:Value}(h:cP w W F b dZ s vw vo vm vl vc):ea W (Gr F w W) b vc s:=by
 obtain⟨h1,h2,h3,h4,⟨ws,c1,c2,c3,c4⟩,h6,h7⟩:=h;exact⟨vw,vo,vm,vl,h1,h2,.inl h3,⟨h4.1.fit h2.1,h4.2.1.fit h2.2.1,h4.2.2.1.fit h2.2.2.1,h4.2.2.2.fit h2.2.2.2⟩,ws,c1,c2,c3.fit c2,fun t ht=>⟨(c4 t ht).1,(c4 t ht).2.1,(c4 t ht).2.2.1.fit (c4 t ht).1,(c4 t ht).2.2.2.fit (c4 t ht).2.1⟩⟩
theorem cP.below {w W W':World}{F:Nat->Prop}{b:Nat}{dZ:Value}{s:aN}{vw vo vm vl vc:Value}(h:cP w W F b dZ s vw vo vm vl vc)(hb:ai W W'):cP w W' F b dZ s vw vo vm vl vc where
 blk:=(hb.block _ (aQ h.blk)).trans h.blk
 own:=⟨aS h.own.1 fun k _ hk=>hb.block k hk,aS h.own.2.1 fun k _ hk=>hb.block k hk,aS h.own.2.2.1 fun k _ hk=>hb.block k hk,aS h.own.2.2.2 fun k _ hk=>hb.block k hk⟩
 fb:=h.fb
 inf:=h.inf
 came:=h.came.keep (fun _ e=>e) (fun ho _ _=>aS ho fun k _ hk=>hb.block k hk)
 mv:=h.mv.below hb
 gr:=h.gr
theorem cP.fin {w W W':World}{F:Nat->Prop}{b:Nat}{dZ:Value}{s:aN}{vw vo vm vl vc v:Value}{ms:List aK}(h:cP w W F b dZ s vw vo vm vl vc)(hb:ai W W')(hm:a_ W' w.heap.size v ms):ij w F b dZ (.returned v) W' (s,ms) :=
 ⟨v,vc,rfl,(h.below hb).at,hm,(h.below hb).mv,h.gr⟩
theorem rR {w W:World}{F:Nat->Prop}{b j:Nat}{dZ u:Value}{s':aN}{vw lr bN bD xU:Value}{cs:Array Value}(hb:W.heap[b]?=some (.cells cs 206))
  (hs:(W.setCell ⟨b,j,none⟩ u).heap[b]?=some (.cells #[.bool s'.up,.int .i64 (s'.begun:Int),.int .i64 (s'.does:Int),s'.ah,s'.ak,vw,lr,bN,bD,xU] 206))
  (hf:F b) (hM:Moved w W (fun k=>k=b\/dZ.ownBlock=some k)) (hw:bd W vw s'.want/\bA (Fi F w) vw) (ho:bd W lr s'.old/\bA (Fi F w) lr) (hm:bd W bN s'.af/\bA (Fi F w) bN) (hl:bw W bD s'.log/\bA (Fi F w) bD) (hc:oa W (Fi F w) xU s'.came) (hg:bO w dZ xU):cP w (W.setCell ⟨b,j,none⟩ u) F b dZ s' vw lr bN bD xU where
 blk:=hs
 own:=⟨bu (a:=⟨b,j,none⟩) hw.1 (aY hb hw.1 (by decide)) _,bu (a:=⟨b,j,none⟩) ho.1 (aY hb ho.1 (by decide)) _,bu (a:=⟨b,j,none⟩) hm.1 (aY hb hm.1 (by decide)) _,bu (a:=⟨b,j,none⟩) hl.1 (aY hb hl.1 (by decide)) _⟩
 fb:=hf
 inf:=⟨hw.2,ho.2,hm.2,hl.2⟩
 came:=by
  obtain⟨ws,c1,c2,c3,c4⟩:=hc;exact⟨ws,c1,bu (a:=⟨b,j,none⟩) c2 (aY hb c2 (by decide)) _,c3,fun t ht=>⟨bu (a:=⟨b,j,none⟩) (c4 t ht).1 (aY hb (c4 t ht).1 (by decide)) _,bu (a:=⟨b,j,none⟩) (c4 t ht).2.1 (aY hb (c4 t ht).2.1 (by decide)) _,(c4 t ht).2.2⟩⟩
 mv:=hM.setCell ⟨b,j,none⟩ (.inl rfl) u
 gr:=hg
section
variable {w W:World} {F:Nat->Prop} {b:Nat} {dZ:Value} {s:aN} {vw vo vm vl vc:Value}
theorem oa.nil (w:World)(F:Nat->Prop):oa w F (.slice none 0 0) []:=⟨[],rfl,bE _ _ _ _,bA.nil _,fun t h=>by cases h⟩
theorem cP.rV (h:cP w W F b dZ s vw vo vm vl vc)(d:Nat):cP w (W.setCell ⟨b,2,none⟩ (.int .i64 (d:Int))) F b dZ { s with does:=d } vw vo vm vl vc :=
 rR h.blk (bV _ _ _ _ _ _ h.blk) h.fb h.mv ⟨h.own.1,h.inf.1⟩ ⟨h.own.2.1,h.inf.2.1⟩ ⟨h.own.2.2.1,h.inf.2.2.1⟩ ⟨h.own.2.2.2,h.inf.2.2.2⟩ h.came h.gr
theorem cP.BJ (h:cP w W F b dZ s vw vo vm vl vc)(e:Int):cP w (W.setCell ⟨b,3,none⟩ (.int .i64 e)) F b dZ { s with ah:=e } vw vo vm vl vc :=
 rR h.blk (bV _ _ _ _ _ _ h.blk) h.fb h.mv ⟨h.own.1,h.inf.1⟩ ⟨h.own.2.1,h.inf.2.1⟩ ⟨h.own.2.2.1,h.inf.2.2.1⟩ ⟨h.own.2.2.2,h.inf.2.2.2⟩ h.came h.gr
theorem cP.TO (h:cP w W F b dZ s vw vo vm vl vc){v:Value}{l:List Int}(ho:bd W v l)(hf:bA (Fi F w) v):cP w (W.setCell ⟨b,6,none⟩ v) F b dZ { s with old:=l } vw v vm vl vc :=
 rR h.blk (bV _ _ _ _ _ _ h.blk) h.fb h.mv ⟨h.own.1,h.inf.1⟩ ⟨ho,hf⟩ ⟨h.own.2.2.1,h.inf.2.2.1⟩ ⟨h.own.2.2.2,h.inf.2.2.2⟩ h.came h.gr
theorem cP.xK (h:cP w W F b dZ s vw vo vm vl vc){v:Value}{l:List Int}(ho:bd W v l)(hf:bA (Fi F w) v):cP w (W.setCell ⟨b,7,none⟩ v) F b dZ { s with af:=l } vw vo v vl vc :=
 rR h.blk (bV _ _ _ _ _ _ h.blk) h.fb h.mv ⟨h.own.1,h.inf.1⟩ ⟨h.own.2.1,h.inf.2.1⟩ ⟨ho,hf⟩ ⟨h.own.2.2.2,h.inf.2.2.2⟩ h.came h.gr
theorem cP.G8 (h:cP w W F b dZ s vw vo vm vl vc){v:Value}{l:List aH}(ho:bw W v l)(hf:bA (Fi F w) v):cP w (W.setCell ⟨b,8,none⟩ v) F b dZ { s with log:=l } vw vo vm v vc :=
 rR h.blk (bV _ _ _ _ _ _ h.blk) h.fb h.mv ⟨h.own.1,h.inf.1⟩ ⟨h.own.2.1,h.inf.2.1⟩ ⟨h.own.2.2.1,h.inf.2.2.1⟩ ⟨ho,hf⟩ h.came h.gr
theorem cP.s_ (h:cP w W F b dZ s vw vo vm vl vc):cP w (W.setCell ⟨b,9,none⟩ (.slice none 0 0)) F b dZ { s with came:=[] } vw vo vm vl (.slice none 0 0) :=
 rR h.blk (bV _ _ _ _ _ _ h.blk) h.fb h.mv ⟨h.own.1,h.inf.1⟩ ⟨h.own.2.1,h.inf.2.1⟩ ⟨h.own.2.2.1,h.inf.2.2.1⟩ ⟨h.own.2.2.2,h.inf.2.2.2⟩ (oa.nil _ _) (fun _ e=>absurd e eQ)
theorem cP.add {g:Nat}{m:aK}{v1 v2:Value}(h:cP w W F b dZ s vw vo vm vl vc)(hg:W.heap[g]?=some (.cells (cd (m,v1,v2)).toArray 134))(h1:bd W v1 m.af)(h2:bw W v2 m.log)(f1:bA (Fi F w) v1)(f2:bA (Fi F w) v2)(hl:s.came.length<=100) :
  ∃ g' cap W1,(∀ ty,(Builtin.append_ #[97,97] ty #[vc,.slice (some g) 1 1]).run Tryz.prog W=.ok (.slice (some ⟨g',0,none⟩) (s.came.length+1) cap) W1)/\W1.heap[b]?=some (.cells #[.bool s.up,.int .i64 (s.begun:Int),.int .i64 (s.does:Int),s.ah,s.ak,vw,vo,vm,vl,vc] 206)/\cP w (W1.setCell ⟨b,9,none⟩ (.slice (some ⟨g',0,none⟩) (s.came.length+1) cap)) F b dZ { s with came:=s.came++[m] } vw vo vm vl (.slice (some ⟨g',0,none⟩) (s.came.length+1) cap)/\Moved W W1 (fun k=>vc.ownBlock=some k):=by
 obtain⟨ws,c1,c2,c3,c4⟩:=h.came;have hwl:ws.length=s.came.length:=by rw[<- c1,fF]
 obtain⟨b1,e1,hv1⟩:=aM h1;obtain⟨b2,e2,hv2⟩:=aM h2;obtain⟨g',cap,W1,hr,ho,hgr,ek⟩:=vZ (t:=97) OZ Tryz.underlying97 rfl (by decide) W 0 vc s.came.length (ws.flatMap cd) (cd (m,v1,v2)) g c2 hg rfl (by subst hv1;subst hv2;intro u hu;simp[cd] at hu;rcases hu with rfl|rfl|rfl|rfl|rfl|rfl|rfl|rfl|rfl|rfl<;>rfl) (by omega) (by omega) (bl _)
 have hM:Moved W W1 (fun k=>vc.ownBlock=some k):=(Moved.refl W _).grown hgr (fun k _ e=>e);have hbl:=(aQ h.blk);have hb1:W1.heap[b]?=some (.cells #[.bool s.up,.int .i64 (s.begun:Int),.int .i64 (s.does:Int),s.ah,s.ak,vw,vo,vm,vl,vc] 206):=(hM.block b hbl (aY h.blk c2 (by decide))).trans h.blk
 have row:∀ {base size n:Nat} {e:TypeId} {v:Value} {xs:List Value},W.ownsRow base e size v n xs->e≠134->W1.ownsRow base e size v n xs:=fun ho he=>hM.owns ho fun k hk hS=>bM ho c2 he k hk hS;refine⟨g',cap,W1,hr,hb1, ?_,hM⟩
 have hM1:Moved w W1 (fun k=>k=b\/dZ.ownBlock=some k):=h.mv.trans hM (fun k hk e=>by
  rcases h.gr k e with q|q
  ·exact .inr q
  ·omega)
 refine rR (s':={ s with came:=s.came++[m] }) hb1 (bV _ _ _ _ _ _ hb1) h.fb hM1 ⟨row h.own.1 (by decide),h.inf.1⟩ ⟨row h.own.2.1 (by decide),h.inf.2.1⟩ ⟨row h.own.2.2.1 (by decide),h.inf.2.2.1⟩ ⟨row h.own.2.2.2 (by decide),h.inf.2.2.2⟩ ⟨ws++[(m,v1,v2)],by rw[gw,c1];rfl, ?_,fun k hk => ?_,fun t ht => ?_⟩ (fun k hk => ?_)
 ·rw[bG,List.flatMap_append]
  simpa using ho
 ·have:g'=k:=by simpa [Value.ownBlock] using hk
  subst this;rcases ek with q|q
  ·exact c3 _ q
  ·exact .inr (by have:=h.mv.size;omega)
 ·rcases fE.1 ht with q|q
  ·exact⟨row (c4 t q).1 (by decide),row (c4 t q).2.1 (by decide),(c4 t q).2.2⟩
  ·rw[dg] at q
   subst q;exact⟨row h1 (by decide),row h2 (by decide),f1,f2⟩
 ·have:g'=k:=by simpa [Value.ownBlock] using hk
  subst this;rcases ek with q|q
  ·exact h.gr _ q
  ·exact .inr (by have:=h.mv.size;omega)
end
end Go.Proofs.YtgieeeeeiggoeaaGreat
namespace Go.Proofs.YtgieeeeeiggoeaaGreat
open Go.RowKit Go.Shelf
open Tryz
variable {cs mc:Array Value}{E:Int}{l:List aK}{c0 m:aK}{b n:Nat}{F:Nat->Prop}{v1 v2:Value}{V W w wz:World}
def jC (d:Nat):Int:=if d=0 then 0 else 4+2*(d:Int)
theorem PH (d:Nat)(h:d<=6):(#[.int .i64 0,.int .i64 6,.int .i64 8,.int .i64 10,.int .i64 12,.int .i64 14,.int .i64 16]:Array Value)[d]?=some (.int .i64 (jC d)):=by
 have:d=0\/d=1\/d=2\/d=3\/d=4\/d=5\/d=6:=by omega
 rcases this with rfl|rfl|rfl|rfl|rfl|rfl|rfl<;>rfl
theorem qR (s:aN)(m:aK):s.fits m=(!decide (s.does=0) && decide (m.kind=jC s.does) && (decide (s.does=1) || decide (m.ah=s.ah)) && (decide (5<=s.does) || decide (m.ak=s.ak)) && decide (m.src∈s.all) && !s.du m.src):=by
 unfold aN.fits jC;by_cases h:s.does=0
 ·simp[h]
 ·simp[h]
def sh (w wx:World)(F:Nat->Prop)(b:Nat)(s:aN)(m:aK)(dZ:Value)(mb:Array Value):Prop :=
 ∃ sX vw vo vm vl vc,s.take m=sX.b_ m.dst/\sX.does=s.does/\cP w wx F b dZ sX vw vo vm vl vc/\wx.heap[w.heap.size]?=some (.cells mb 134)/\sX.old.length<=5/\sX.af.length<=5
theorem J_ {s:aN}(ho:s.old.length<=5)(hm:s.af.length<=5):s.all.length<=5:=by
 unfold aN.all;split
 ·simp
 ·exact ho
 ·exact hm
 ·simp
theorem qi {l:List Int}(h:uO l n):l.length<=n:=by
 rcases h with e|e
 ·rw[e];simp
 ·exact e_ e
def Cd (wz wx:World)(bs:aK):Prop :=
 ∃ v1 v2,wx.heap[wz.heap.size]?=some (.cells (cd (bs,v1,v2)).toArray 134)/\ai wz wx/\bd wx v1 bs.af/\bw wx v2 bs.log
theorem Du {g' cap':Nat}(h:oa wz F (.slice (some g') n cap') (l++[m]))(hl:l=[c0]) :
  ∃ p1 p2 p3 p4 r1 r2 r3 r4,((∀ t,t<10->wz.cell? ⟨g',t,none⟩=(cd (c0,.slice p1 c0.af.length p2,.slice p3 c0.log.length p4))[t]?)/\bd wz (.slice p1 c0.af.length p2) c0.af/\bw wz (.slice p3 c0.log.length p4) c0.log) /\
   (∀ t,t<10->wz.cell? ⟨g',10+t,none⟩=(cd (m,.slice r1 m.af.length r2,.slice r3 m.log.length r4))[t]?)/\bd wz (.slice r1 m.af.length r2) m.af/\bw wz (.slice r3 m.log.length r4) m.log:=by
 subst hl;obtain⟨ws,hws,hrow, -,hls⟩:=h;match ws,hws with
 | [(x,u1,u2),(y,u3,u4)],hw =>
  simp at hw;obtain⟨rfl,rfl⟩:=hw;obtain⟨l1,l2, -⟩:=hls _ (fS ..);obtain⟨l5,l6, -⟩:=hls _ (List.mem_cons_of_mem _ (fS ..));simp only at l1 l2 l5 l6;obtain⟨p1,p2,rfl⟩:=aM l1;obtain⟨p3,p4,rfl⟩:=aM l2;obtain⟨r1,r2,rfl⟩:=aM l5;obtain⟨r3,r4,rfl⟩:=aM l6;obtain⟨gA,cA,OC,hcA⟩:=zf (k:=0) hrow rfl rfl;obtain⟨gB,cB,hvB,hcB⟩:=zf (k:=1) hrow rfl rfl;cases OC;cases hvB;exact⟨p1,p2,p3,p4,r1,r2,r3,r4,⟨fun t ht=>by have:=hcA t ht;rwa [Nat.zero_mul,fh] at this,l1,l2⟩,fun t ht=>by have:=hcB t ht;rwa [Nat.one_mul] at this,l5,l6⟩
theorem Dd {f:aK->Int}(hl:l=[c0])(h0:cU n E c0)(hm:cU n E m):cU n E (cu f l m):=by
 subst hl;unfold cu;split
 ·exact hm
 ·exact h0
theorem sN {dZ:Value}{sY:aN}{own:Int}{w6 o6 m6 l6 c6:Value}(hR:cP w W F b dZ sY w6 o6 m6 l6 c6)(q1:sY.does<=6)(q2:sY.old.length<=5)(q3:sY.af.length<=5)(q4:sY.came=[]) :
  Calls prog 145 #[b,.int .i64 own] W fun e w'=>∃ x y,e=.returned (.slice x (sY.asks own).length y)/\ij w F b dZ e w' (sY,sY.asks own):=by
 refine (Bv b c6 sY (Gr F w W) own W hR.at q1 (J_ q2 q3) (by rw[q4];simp)).mono ?_
 rintro e w' ⟨v,rfl,h1,h2⟩;obtain⟨x,y,rfl⟩:=h1.shape;exact⟨x,y,rfl,hR.fin h2 (h1.base hR.mv.size)⟩
theorem QL (b:Nat)(vc:Value)(s:aN)(F:Nat->Prop)(m:aK)(a1:Option Addr)(d1:Nat)(a2:Option Addr)(d2:Nat)(w:World)(h:ea w F b vc s)(_hms:bd w (.slice a1 m.af.length d1) m.af)(bR:bw w (.slice a2 m.log.length d2) m.log)(_hF1:bA F (.slice a1 m.af.length d1))(_hF2:bA F (.slice a2 m.log.length d2))(hS:d_ n E s)(hm:cU n E m)(hn:n<=5)(hfit:s.fits m=false) :
  Calls prog 174 #[b,.agg #[m.kind,m.src,m.dst,m.ah,m.ak,m.aO,m.pos,m.value,.slice a1 m.af.length d1,.slice a2 m.log.length d2]] w fun e w'=>ij w F b vc e w' (s.take m):=by
 obtain⟨B,hB,bz,bf⟩:=dk w m (.slice a1 m.af.length d1) (.slice a2 m.log.length d2);obtain⟨K,hK,i_,iZ⟩:=ch B #[(),.int .i64 6,.int .i64 8,.int .i64 10,.int .i64 12,.int .i64 14,.int .i64 16] 3;have eb:B.heap.size=w.heap.size+1:=by rw[<- hB];simp
 have hKs:K.heap.size=w.heap.size+2:=by rw[<- hK];simp[eb]
 have hbw:ai w K:=bz.trans (i_.mono bz.size);have kU:=h.pM;have HR:=ae h;have df:K.heap[w.heap.size]?=some (.cells #[m.kind,m.src,m.dst,m.ah,m.ak,m.aO,m.pos,m.value,.slice a1 m.af.length d1,.slice a2 m.log.length d2] 134):=(i_.block _ (by omega)).trans bf
 have i4:K.heap[w.heap.size+1]?=some (.cells #[(),.int .i64 6,.int .i64 8,.int .i64 10,.int .i64 12,.int .i64 14,.int .i64 16] 3):=by rw[<- eb];exact iZ
 obtain⟨vw,vo,vm,vl,hI⟩:=cP.of h;obtain⟨xw,yw,mq⟩:=aM hI.own.1;obtain⟨xo,yo,hxo⟩:=aM hI.own.2.1;obtain⟨xm,ym,hxm⟩:=aM hI.own.2.2.1;obtain⟨xl,yl,hxl⟩:=aM hI.own.2.2.2;obtain⟨xc,yc,mo⟩:∃ a c,vc=.slice a s.came.length c:=by
  obtain⟨ws,_,c2,_⟩:=hI.came;exact aM c2
 subst mq;subst hxo;subst hxm;subst hxl;subst mo;have dF:=hI.below hbw;have hd6:=hS.does;have b2:=au dF.blk 2;have b3:=au dF.blk 3;have b4:=au dF.blk 4;have k0:=au df 0;have k1:=au df 1;have k3:=au df 3;have k4:=au df 4;have f_:Hid (∀ W,ai w W->Calls prog 176 #[b] W fun e w'=>∃ a c,e=.returned (.slice a s.all.length c)/\ai w w'/\ai W w'/\∀ V,ai w' V->Calls prog 212 #[.slice a s.all.length c,m.src] V fun e w2=>e=.returned (.bool (decide (m.src∈s.all)))/\w2=V):=ae fun W hb=>by
  refine (qx b _ s F W (h.below hb) hd6).mono ?_
  rintro e w' ⟨v,rfl,h1,h2⟩;obtain⟨x,c,rfl⟩:=aM h1;refine⟨x,c,rfl,hb.trans (h2.mono hb.size),h2,fun V hV => ?_⟩
  exact rO _ s.all m.src V (bJ.cM (aS h1 fun z _ hz=>hV.block z hz)) (by have:=hS.oW hn;omega)
 have eS:Hid (∀ W,ai w W->Calls prog 177 #[b,m.src] W fun e w'=>e=.returned (.bool (s.du m.src))/\w'=W):=ae fun W hb=>qy b _ s F m.src W (h.below hb) (hS.kP hn);have mixed:prog.follows Departure.mixedOrders=true:=by kernel_rfl
 have jw:Hid (∀ V,Moved w V (fun k=>k=b\/(Value.slice xc s.came.length yc).ownBlock=some k)->bw V (.slice a2 m.log.length d2) m.log):=ae fun V hM=>hM.owns bR fun k hk hS=>hS.elim (fun e=>aY hI.blk bR (by decide) (e ▸ hk)) (fun e=>by
  obtain⟨ws,_,c2,_⟩:=hI.came;exact bM bR c2 (by decide) k hk e)
 have lW:Hid (∀ V,Moved w V (fun k=>k=b\/(Value.slice xc s.came.length yc).ownBlock=some k)->Calls prog 208 #[.slice a2 m.log.length d2] V fun e w1=>∃ x c,e=.returned (.slice x m.log.length c)/\w1.ownsRow V.heap.size 42 5 (.slice x m.log.length c) m.log.length (aJ (bk m.log))/\ai V w1):=ae fun V hM=>by
  refine (nh _ m.log V (jw.out V hM) (by have:=hm.log.1;omega)).mono ?_
  rintro e w1 ⟨v',rfl,h1,h2⟩;obtain⟨x,c,rfl⟩:=aM h1;exact⟨x,c,rfl,h1,h2⟩
 have iV:Hid ((Value.slice xc s.came.length yc).ownBlock≠some w.heap.size):=ae fun e=>by
  obtain⟨ws,_,c2,_⟩:=hI.came;have:=(dL.1 (bK c2 e).choose_spec.1).1;omega
 have gd:=ae (aP dF (aP df (aP i4 hbw)));clear h hI dF df i4 iZ bf;go_enter func174,ntmps174;go_upto_region 2 with fail
 go_cut [3,5,6] (fun p3 p5 p6 wx=>p3=.pointer (some w.heap.size)/\p5=.slice (some ⟨w.heap.size+1,0,none⟩) 7 7/\p6=.bool (decide (s.does=1) || decide (m.ah=s.ah))/\∃ q,wx=K.drewN q)
 case first=>as_aux_lemma =>
  by_cases h1:s.does=1
  ·have e1:((s.does:Int) == 1)=true:=by simp[h1]
   have HV:Hid ((decide (s.does=1) || decide (m.ah=s.ah))=true):=ae (by simp[h1])
   clear h1;go_quiet (fail);go_wp2_with fail;go_meet;exact⟨rfl,rfl,by rw[HV.out],_,rfl⟩
  ·have e1:((s.does:Int) == 1)=false:=by simp;omega
   have HV:Hid ((decide (s.does=1) || decide (m.ah=s.ah))=(m.ah == s.ah)):=ae (by rw[ee h1,Bool.false_or,Bool.beq_eq_decide_eq])
   clear h1;go_quiet (fail);go_wp2_with fail;go_meet;exact⟨rfl,rfl,by rw[HV.out],_,rfl⟩
 case rest =>
  obtain⟨rfl,rfl,rfl,q,rfl⟩:=hcut;go_upto_region 3 with fail
  go_cut [3,5,6,7] (fun p3 p5 p6 p7 wx=>p3=.pointer (some w.heap.size)/\p5=.slice (some ⟨w.heap.size+1,0,none⟩) 7 7/\p6=.bool (decide (s.does=1) || decide (m.ah=s.ah))/\p7=.bool (decide (5<=s.does) || decide (m.ak=s.ak))/\∃ q,wx=K.drewN q)
  case first=>as_aux_lemma =>
   by_cases h1:5<=s.does
   ·have e1:(5:Int)<=(s.does:Int):=by omega
    have e2:decide ((5:Int)<=(s.does:Int))=true:=eR e1;have HV:Hid ((decide (5<=s.does) || decide (m.ak=s.ak))=true):=ae (by simp[h1])
    clear h1;go_quiet (fail);go_wp2_with fail;go_meet;exact⟨rfl,rfl,rfl,by rw[HV.out],_,by first|rfl|exact fi ..⟩
   ·have e1:¬ (5:Int)<=(s.does:Int):=by omega
    have e2:decide ((5:Int)<=(s.does:Int))=false:=ee e1;have HV:Hid ((decide (5<=s.does) || decide (m.ak=s.ak))=(m.ak == s.ak)):=ae (by rw[ee h1,Bool.false_or,Bool.beq_eq_decide_eq])
    clear h1;go_quiet (fail);go_wp2_with fail;go_meet;exact⟨rfl,rfl,rfl,by rw[HV.out],_,by first|rfl|exact fi ..⟩
  case rest =>
   obtain⟨rfl,rfl,rfl,rfl,q2,rfl⟩:=hcut;generalize ph:(decide (s.does=1) || decide (m.ah=s.ah))=ep at *;generalize hba:(decide (5<=s.does) || decide (m.ak=s.ak))=ba at *;have HE:=ae (aP ph hba);clear ph hba;have ef:Hid (∀ W,ai K W->ai w W):=ae fun W hb=>hbw.trans (hb.mono hbw.size);go_upto_region 4 with fail
   go_cut [3,5,6,7,8] (fun p3 p5 p6 p7 p8 wx=>p3=.pointer (some w.heap.size)/\p5=.slice (some ⟨w.heap.size+1,0,none⟩) 7 7/\p6=.bool ep/\p7=.bool ba/\p8=.bool (decide (m.src∈s.all))/\ai K wx)
   case first=>as_aux_lemma =>
    go_region_law (first|(rw[if_pos (by simp[Region.wanted])];go_simp;go_at_call 176;refine (f_.out _ (ef.out _ (by first|exact aV (ax _ _) _|exact (aV (ax _ _) _).drew))).mono ?_;rintro e W1 ⟨x5,c5,rfl,fq,hbW1,iY⟩;have lU:=ae iY;have y1:=aF hbW1 k1;have HB1:Hid (ai K W1):=ae (((by first|exact aV (ax K.heap.size K) _|exact (aV (ax K.heap.size K) _).drew):ai K _).trans hbW1);clear iY fq hbW1)|(rw[if_pos (by simp[Region.wanted])];go_simp;go_at_call 212;refine (lU.out _ (by first|exact ax _ _|exact (ax _ _).drew)).mono ?_;rintro e W2 ⟨rfl,rfl⟩))
    all_goals (
     go_wp2_with fail;go_meet;exact⟨rfl,rfl,rfl,rfl,rfl,by first|exact HB1.out|exact HB1.out.drew⟩)
   case rest =>
    obtain⟨rfl,rfl,rfl,rfl,rfl,hbx⟩:=hcut;generalize hkn:decide (m.src∈s.all)=kn at *;obtain⟨wv,hwv⟩:∃ wv,wc=wv:=⟨_,rfl⟩;subst hwv;have x2:=aF hbx b2;have x0:=aF hbx k0;have x1:=aF hbx k1;have xk:wc.cell? ⟨w.heap.size+1,s.does,none⟩=some (.int .i64 (jC s.does)):=aF hbx ((aj gd.out.2.2.1 s.does).trans (PH s.does hd6));have HX:=ae hbx;have iU:=ae (eS.out wc (ef.out _ hbx));have hd0:(0:Int)<=(s.does:Int):=by omega
    have hd7:(s.does:Int)<7:=by omega
    clear hbx k0 k1 k3 k4 b2 b3 b4 eS f_;go_upto_region 5 with fail
    go_wp2_with fail;refine iU.out.mono ?_
    rintro e W2 ⟨rfl,rfl⟩;generalize hcm:s.du m.src=cm at *;have HF:Hid (s.fits m=(!decide (s.does=0) && decide (m.kind=jC s.does) && ep && ba && kn && !cm)):=ae (by rw[qR,HE.out.1,HE.out.2,hkn,hcm])
    clear hkn hcm iU;go_upto_region 6 with fail
    go_cut [3,5,6,7,8,9,82] (fun p3 p5 p6 p7 p8 p9 RU wx=>p3=.pointer (some w.heap.size)/\RU=.bool (!s.fits m)/\ai K wx)
    case first =>
     by_cases z0:s.does=0
     ·have e0:((s.does:Int) == 0)=true:=by simp[z0]
      have HV:Hid ((!s.fits m)=true):=ae (by rw[HF.out];simp[z0])
      clear z0 HF;as_aux_lemma =>
       go_quiet (fail);go_wp2_with fail;go_meet;exact⟨rfl,by rw[HV.out],aV HX.out _⟩
     have e0:((s.does:Int) == 0)=false:=by simp;omega
     by_cases zk:m.kind=jC s.does
     ·have e1:(m.kind != jC s.does)=false:=by simp[zk]
      have qL:(!(m.kind == jC s.does))=false:=by simp[zk]
      have LZ:(m.kind == jC s.does)=true:=by simp[zk]
      cases ep with
      | false =>
       have HV:Hid ((!s.fits m)=true):=ae (by rw[HF.out];simp)
       clear z0 zk HF;as_aux_lemma =>
        go_quiet (fail);go_wp2_with fail;go_meet;exact⟨rfl,by rw[HV.out],aV HX.out _⟩
      | true =>
       cases ba with
       | false =>
        have HV:Hid ((!s.fits m)=true):=ae (by rw[HF.out];simp)
        clear z0 zk HF;as_aux_lemma =>
         go_quiet (fail);go_wp2_with fail;go_meet;exact⟨rfl,by rw[HV.out],aV HX.out _⟩
       | true =>
        cases kn with
        | false =>
         have HV:Hid ((!s.fits m)=true):=ae (by rw[HF.out];simp)
         clear z0 zk HF;as_aux_lemma =>
          go_quiet (fail);go_wp2_with fail;go_meet;exact⟨rfl,by rw[HV.out],aV HX.out _⟩
        | true =>
         have HV:Hid ((!s.fits m)=cm):=ae (by rw[HF.out];simp[z0,zk])
         clear z0 zk HF;as_aux_lemma =>
          go_quiet (fail);go_wp2_with fail;go_meet;exact⟨rfl,by rw[HV.out],aV HX.out _⟩
     ·have e1:(m.kind != jC s.does)=true:=by simp[zk]
      have qL:(!(m.kind == jC s.does))=true:=by simp[zk]
      have LZ:(m.kind == jC s.does)=false:=by simp[zk]
      have HV:Hid ((!s.fits m)=true):=ae (by rw[HF.out];simp[zk])
      clear z0 zk HF;as_aux_lemma =>
       go_quiet (fail);go_wp2_with fail;go_meet;exact⟨rfl,by rw[HV.out],aV HX.out _⟩
    case rest =>
     obtain⟨rfl,rfl,hbx⟩:=hcut;have jz:=ae (gd.out.1.below hbx);clear x0 x1 x2 xk HX;rw[hfit];have HT:Hid (s.take m=(s,[])):=ae (by unfold aN.take;rw[if_neg (by rw[hfit];simp)])
     have Ip:=ae (ef.out _ hbx);clear hbx;go_wp2_with fail;go_ret;rw[HT.out];exact ij.still HR.out Ip.out
theorem GU {g:Nat}{T:TypeId}{a0 a1 a2 a3 a4 a5 a6 a7 a8 a9:Value}(n0 n1 n2 n3 n4 n5 n6 n7 n8 n9:Value)(h0:V.heap[g]?=some (.cells #[a0,a1,a2,a3,a4,a5,a6,a7,a8,a9] T)):((((((((((V.setCell g n0).setCell ⟨g,1,none⟩ n1).setCell ⟨g,2,none⟩ n2).setCell ⟨g,3,none⟩ n3).setCell ⟨g,4,none⟩ n4).setCell ⟨g,5,none⟩ n5).setCell ⟨g,6,none⟩ n6).setCell ⟨g,7,none⟩ n7).setCell ⟨g,8,none⟩ n8).setCell ⟨g,9,none⟩ n9).heap[g]?=some (.cells #[n0,n1,n2,n3,n4,n5,n6,n7,n8,n9] T):=by
 have h1:(V.setCell g n0).heap[g]?=some (.cells #[n0,a1,a2,a3,a4,a5,a6,a7,a8,a9] T):=bV _ _ 0 _ _ n0 h0;have h2:((V.setCell g n0).setCell ⟨g,1,none⟩ n1).heap[g]?=some (.cells #[n0,n1,a2,a3,a4,a5,a6,a7,a8,a9] T):=bV _ _ 1 _ _ n1 h1;have h3:(((V.setCell g n0).setCell ⟨g,1,none⟩ n1).setCell ⟨g,2,none⟩ n2).heap[g]?=some (.cells #[n0,n1,n2,a3,a4,a5,a6,a7,a8,a9] T):=bV _ _ 2 _ _ n2 h2;have h4:((((V.setCell g n0).setCell ⟨g,1,none⟩ n1).setCell ⟨g,2,none⟩ n2).setCell ⟨g,3,none⟩ n3).heap[g]?=some (.cells #[n0,n1,n2,n3,a4,a5,a6,a7,a8,a9] T):=bV _ _ 3 _ _ n3 h3;have h5:(((((V.setCell g n0).setCell ⟨g,1,none⟩ n1).setCell ⟨g,2,none⟩ n2).setCell ⟨g,3,none⟩ n3).setCell ⟨g,4,none⟩ n4).heap[g]?=some (.cells #[n0,n1,n2,n3,n4,a5,a6,a7,a8,a9] T):=bV _ _ 4 _ _ n4 h4;have h6:((((((V.setCell g n0).setCell ⟨g,1,none⟩ n1).setCell ⟨g,2,none⟩ n2).setCell ⟨g,3,none⟩ n3).setCell ⟨g,4,none⟩ n4).setCell ⟨g,5,none⟩ n5).heap[g]?=some (.cells #[n0,n1,n2,n3,n4,n5,a6,a7,a8,a9] T):=bV _ _ 5 _ _ n5 h5;have h7:(((((((V.setCell g n0).setCell ⟨g,1,none⟩ n1).setCell ⟨g,2,none⟩ n2).setCell ⟨g,3,none⟩ n3).setCell ⟨g,4,none⟩ n4).setCell ⟨g,5,none⟩ n5).setCell ⟨g,6,none⟩ n6).heap[g]?=some (.cells #[n0,n1,n2,n3,n4,n5,n6,a7,a8,a9] T):=bV _ _ 6 _ _ n6 h6;have h8:((((((((V.setCell g n0).setCell ⟨g,1,none⟩ n1).setCell ⟨g,2,none⟩ n2).setCell ⟨g,3,none⟩ n3).setCell ⟨g,4,none⟩ n4).setCell ⟨g,5,none⟩ n5).setCell ⟨g,6,none⟩ n6).setCell ⟨g,7,none⟩ n7).heap[g]?=some (.cells #[n0,n1,n2,n3,n4,n5,n6,n7,a8,a9] T):=bV _ _ 7 _ _ n7 h7;have h9:(((((((((V.setCell g n0).setCell ⟨g,1,none⟩ n1).setCell ⟨g,2,none⟩ n2).setCell ⟨g,3,none⟩ n3).setCell ⟨g,4,none⟩ n4).setCell ⟨g,5,none⟩ n5).setCell ⟨g,6,none⟩ n6).setCell ⟨g,7,none⟩ n7).setCell ⟨g,8,none⟩ n8).heap[g]?=some (.cells #[n0,n1,n2,n3,n4,n5,n6,n7,n8,a9] T):=bV _ _ 8 _ _ n8 h8;have h10:((((((((((V.setCell g n0).setCell ⟨g,1,none⟩ n1).setCell ⟨g,2,none⟩ n2).setCell ⟨g,3,none⟩ n3).setCell ⟨g,4,none⟩ n4).setCell ⟨g,5,none⟩ n5).setCell ⟨g,6,none⟩ n6).setCell ⟨g,7,none⟩ n7).setCell ⟨g,8,none⟩ n8).setCell ⟨g,9,none⟩ n9).heap[g]?=some (.cells #[n0,n1,n2,n3,n4,n5,n6,n7,n8,n9] T):=bV _ _ 9 _ _ n9 h9;exact h10
theorem Db (n0 n1 n2 n3 n4 n5 n6 n7 n8 n9:Value)(hb:ai wz V):ai wz ((((((((((V.setCell wz.heap.size n0).setCell ⟨wz.heap.size,1,none⟩ n1).setCell ⟨wz.heap.size,2,none⟩ n2).setCell ⟨wz.heap.size,3,none⟩ n3).setCell ⟨wz.heap.size,4,none⟩ n4).setCell ⟨wz.heap.size,5,none⟩ n5).setCell ⟨wz.heap.size,6,none⟩ n6).setCell ⟨wz.heap.size,7,none⟩ n7).setCell ⟨wz.heap.size,8,none⟩ n8).setCell ⟨wz.heap.size,9,none⟩ n9) :=
 ((((((((((hb.setCell (aG _) _).setCell (aG _) _).setCell (aG _) _).setCell (aG _) _).setCell (aG _) _).setCell (aG _) _).setCell (aG _) _).setCell (aG _) _).setCell (aG _) _).setCell (aG _) _)
structure mG (w W:World)(b:Nat)(cs mc:Array Value)(m:aK)(v1 v2:Value):Prop where
 blk:W.heap[b]?=some (.cells cs 199)
 msg:W.heap[w.heap.size]?=some (.cells mc 134)
 ms:bd W v1 m.af
 lg:bw W v2 m.log
 mv:Moved w W (fun k=>k=b)
theorem mG.below {W':World}(h:mG w W b cs mc m v1 v2)(hb:ai W W'):mG w W' b cs mc m v1 v2 where
 blk:=(hb.block _ (aQ h.blk)).trans h.blk
 msg:=(hb.block _ (aQ h.msg)).trans h.msg
 ms:=aS h.ms fun k _ hk=>hb.block k hk
 lg:=aS h.lg fun k _ hk=>hb.block k hk
 mv:=h.mv.mX (hb.mono h.mv.size) hb.size
theorem mG.set {i:Nat}{cs':Array Value}(h:mG w W b cs mc m v1 v2)(hbw:b<w.heap.size)(u:Value)(hs:(W.setCell ⟨b,i,none⟩ u).heap[b]?=some (.cells cs' 199)):mG w (W.setCell ⟨b,i,none⟩ u) b cs' mc m v1 v2 where
 blk:=hs
 msg:=(cJ _ _ _ _ (by show w.heap.size≠b;omega)).trans h.msg
 ms:=bu (a:=⟨b,i,none⟩) h.ms (aY h.blk h.ms (by decide)) _
 lg:=bu (a:=⟨b,i,none⟩) h.lg (aY h.blk h.lg (by decide)) _
 mv:=h.mv.setCell ⟨b,i,none⟩ rfl _
theorem SW (b:Nat)(r:aR)(vm vl:Value)(own:Int)(m:aK)(a1:Option Addr)(d1:Nat)(a2:Option Addr)(d2:Nat)(w:World)(h:RR w b r vm vl)(hk:m.kind=13)(hm0:m.af≠[])(eC:m.af.length<=5)(ja:m.log.length<=24)(hmm:bd w (.slice a1 m.af.length d1) m.af)(hml:bw w (.slice a2 m.log.length d2) m.log) :
  Calls prog 172 #[b,.int .i64 own,.agg #[m.kind,m.src,m.dst,m.ah,m.ak,m.aO,m.pos,m.value,.slice a1 m.af.length d1,.slice a2 m.log.length d2]] w fun e w'=>dJ w b vm vl e w' (r.take own m):=by
 have HT:Hid (r.take own m=(if r.ah<m.ah then { r with ah:=m.ah,af:=m.af,log:=m.log,base:=m.log.length,aU:=m.log.length } else r,[{ kind:=14,src:=own,dst:=m.src,ah:=m.ah }])):=ae (by
  unfold aR.take;simp[hk,aR.mC])
 obtain⟨B,hB,bz,bf⟩:=dk w m (.slice a1 m.af.length d1) (.slice a2 m.log.length d2);have da:=h.below bz;have HR:=ae h;obtain⟨al,cl,hvl⟩:=aM h.hl;subst hvl;obtain⟨am,cm,dG⟩:=aM h.hm;subst dG;have kU:b<w.heap.size:=(aQ h.blk);have eb:=bz.size;have k0:=au bf 0;have k1:=au bf 1;have k3:=au bf 3;have k8:=au bf 8;have b1:=au da.blk 1;have f1:=aW da.blk 1;have hn1:¬ b=w.heap.size:=by omega
 have hn2:¬ w.heap.size=b:=by omega
 have ur:(m.kind == 7)=false:=by rw[hk];rfl
 have EO:(m.kind == 13)=true:=by rw[hk];rfl
 have oj:=ae (aP da bz);have Ct:=ae bf;by_cases hgt:r.ah<m.ah
 ·rw[if_pos hgt] at HT
  have hgd:decide (r.ah<m.ah)=true:=eR hgt;have H1:Hid (∀ q,mG w ((B.drewN q).setCell ⟨b,1,none⟩ (.int .i64 m.ah)) b #[.bool r.up,m.ah,r.lock,.slice am r.af.length cm,.slice al r.log.length cl,.int .i64 (r.base:Int),.int .i64 (r.aU:Int)] #[m.kind,m.src,m.dst,m.ah,m.ak,m.aO,m.pos,m.value,.slice a1 m.af.length d1,.slice a2 m.log.length d2] m (.slice a1 m.af.length d1) (.slice a2 m.log.length d2)):=ae fun q=>by
   have hbq:=aV bz q;have h0:mG w (B.drewN q) b #[.bool r.up,r.ah,r.lock,.slice am r.af.length cm,.slice al r.log.length cl,.int .i64 (r.base:Int),.int .i64 (r.aU:Int)] #[m.kind,m.src,m.dst,m.ah,m.ak,m.aO,m.pos,m.value,.slice a1 m.af.length d1,.slice a2 m.log.length d2] m (.slice a1 m.af.length d1) (.slice a2 m.log.length d2) :=
    ⟨(da.below (aV (ax _ _) q)).blk,bf,aS hmm fun z _ hz=>hbq.block z hz,aS hml fun z _ hz=>hbq.block z hz,(Moved.refl w (fun k=>k=b)).below hbq⟩
   exact h0.set kU _ (TF _ h0.blk)
  have HI:Hid (∀ W cs,mG w W b cs #[m.kind,m.src,m.dst,m.ah,m.ak,m.aO,m.pos,m.value,.slice a1 m.af.length d1,.slice a2 m.log.length d2] m (.slice a1 m.af.length d1) (.slice a2 m.log.length d2)->Calls prog 132 #[.slice a1 m.af.length d1] W fun e w1=>∃ x c,e=.returned (.slice x m.af.length c)/\w1.ownsRow w.heap.size 3 1 (.slice x m.af.length c) m.af.length (aJ m.af)/\mG w w1 b cs #[m.kind,m.src,m.dst,m.ah,m.ak,m.aO,m.pos,m.value,.slice a1 m.af.length d1,.slice a2 m.log.length d2] m (.slice a1 m.af.length d1) (.slice a2 m.log.length d2)):=ae fun W cs hI=>by
   refine (Bx _ m.af W hI.ms hm0 (by omega)).mono ?_
   rintro e w1 ⟨x,c,rfl,h1,h2⟩;exact⟨x,c,rfl,obs h1 hI.mv.size,hI.below h2⟩
  have HE:Hid (∀ W cs,mG w W b cs #[m.kind,m.src,m.dst,m.ah,m.ak,m.aO,m.pos,m.value,.slice a1 m.af.length d1,.slice a2 m.log.length d2] m (.slice a1 m.af.length d1) (.slice a2 m.log.length d2)->Calls prog 208 #[.slice a2 m.log.length d2] W fun e w1=>∃ x c,e=.returned (.slice x m.log.length c)/\w1.ownsRow w.heap.size 42 5 (.slice x m.log.length c) m.log.length (aJ (bk m.log))/\ai W w1/\mG w w1 b cs #[m.kind,m.src,m.dst,m.ah,m.ak,m.aO,m.pos,m.value,.slice a1 m.af.length d1,.slice a2 m.log.length d2] m (.slice a1 m.af.length d1) (.slice a2 m.log.length d2)):=ae fun W cs hI=>by
   refine (nh _ m.log W hI.lg (by omega)).mono ?_
   rintro e w1 ⟨v',rfl,h1,h2⟩;obtain⟨x,c,rfl⟩:=aM h1;exact⟨x,c,rfl,obs h1 hI.mv.size,h2,hI.below h2⟩
  clear h da bf hmm hml hk;go_enter func172,ntmps172;go_wp2_with fail;go_quiet (fail);go_wp2_with fail;go_quiet (fail);go_wp2_with fail;refine (HI.out _ _ (H1.out _)).mono ?_
  rintro e W1 ⟨x1,c1,rfl,o1,I1⟩;have e3:=aj I1.blk 3;have g3:=aW I1.blk 3;have e9:=aj I1.msg 9;have I2:=I1.set kU (.slice x1 m.af.length c1) (TG _ I1.blk);have o2:=bu (a:=⟨b,3,none⟩) o1 (aY I1.blk o1 (by decide)) (.slice x1 m.af.length c1)
  have HI2:=ae (aP I2 o2);clear I1 I2 o1 o2 H1 HI k0 k1 k3 k8 b1 f1;go_wp2_with fail;refine (HE.out _ _ HI2.out.1).mono ?_
  rintro e W2 ⟨x2,c2,rfl,o3,hb3,I3⟩;have p1:=aS HI2.out.2 fun k _ hk=>hb3.block k hk;have e1:=aj I3.msg 1;have e3':=aj I3.msg 3;have e4:=aj I3.blk 4;have g4:=aW I3.blk 4;have g5:=aW I3.blk 5;have g6:=aW I3.blk 6;have q5:=aj I3.blk 5;have q6:=aj I3.blk 6;have HI3:=ae (aP I3 (aP o3 p1));clear I3 o3 p1 hb3 HI2 HE e3 g3 e9;go_wp2_with fail;go_ret;rw[HT.out];obtain⟨I3,o3,p1⟩:=HI3.out;have J4:=I3.set kU (.slice x2 m.log.length c2) (TH _ I3.blk);have J5:=J4.set kU (.int .i64 (m.log.length:Int)) (TI _ J4.blk);have J6:=J5.set kU (.int .i64 (m.log.length:Int)) (TJ _ J5.blk);have a4:=bu (a:=⟨b,4,none⟩) o3 (aY I3.blk o3 (by decide)) (.slice x2 m.log.length c2)
  have a5:=bu (a:=⟨b,5,none⟩) a4 (aY J4.blk a4 (by decide)) (.int .i64 (m.log.length:Int))
  have a6:=bu (a:=⟨b,6,none⟩) a5 (aY J5.blk a5 (by decide)) (.int .i64 (m.log.length:Int))
  have r4:=bu (a:=⟨b,4,none⟩) p1 (aY I3.blk p1 (by decide)) (.slice x2 m.log.length c2)
  have r5:=bu (a:=⟨b,5,none⟩) r4 (aY J4.blk r4 (by decide)) (.int .i64 (m.log.length:Int))
  have r6:=bu (a:=⟨b,6,none⟩) r5 (aY J5.blk r5 (by decide)) (.int .i64 (m.log.length:Int))
  have hR:RR (((W2.setCell ⟨b,4,none⟩ (.slice x2 m.log.length c2)).setCell ⟨b,5,none⟩ (.int .i64 (m.log.length:Int))).setCell ⟨b,6,none⟩ (.int .i64 (m.log.length:Int))) b { r with ah:=m.ah,af:=m.af,log:=m.log,base:=m.log.length,aU:=m.log.length } (.slice x1 m.af.length c1) (.slice x2 m.log.length c2):=⟨J6.blk,obs r6 (bl _),obs a6 (bl _)⟩
  refine dJ.wrote hR J6.mv ((ax _ _).alloc (aG _) _) (a_.one (g:=W2.heap.size) _ (.slice none 0 0) (.slice none 0 0) ?_ ?_ (bE _ _ _ _) (bE _ _ _ _)) (fun k e=>.inr (r6.lt k e).1) (fun k e=>.inr (a6.lt k e).1)
  ·have:=hnw (((W2.setCell ⟨b,4,none⟩ (.slice x2 m.log.length c2)).setCell ⟨b,5,none⟩ (.int .i64 (m.log.length:Int))).setCell ⟨b,6,none⟩ (.int .i64 (m.log.length:Int))) (.cells #[.int .i64 14,.int .i64 own,m.src,m.ah,(),(),(),(),true,true] 134)
   simp only [World.size_setCell] at this;exact this
  ·exact I3.mv.size
 ·rw[if_neg hgt] at HT
  have hgd:decide (r.ah<m.ah)=false:=ee hgt;clear h da bf hmm hml hk;go_enter func172,ntmps172;go_wp2_with fail;go_quiet (fail);go_wp2_with fail;go_quiet (fail);go_wp2_with fail;go_ret;rw[HT.out];have hbq:∀ q,ai w (B.drewN q):=fun q=>aV oj.out.2 q;have hal:∀ q o,ai w ((B.drewN q).alloc o):=fun q o=>(hbq q).alloc (hbq q).size o;exact dJ.msgs HR.out (hal _ _) (a_.one (g:=B.heap.size) _ (.slice none 0 0) (.slice none 0 0) (hnw _ _) oj.out.2.size (bE _ _ _ _) (bE _ _ _ _))
end Go.Proofs.YtgieeeeeiggoeaaGreat
