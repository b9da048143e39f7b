import Derived.Test.YtgieeeeeiggoeaaGreatD03
namespace Go.Proofs.YtgieeeeeiggoeaaGreat
variable {g g':Gh}{E E' a d i:Int}{out:List aK}{f:List UInt8 × Bool}{m:aK}{j n:Nat}{r:aR}
def ey (c:aq):St :=
 {R:=fun i=>if c.cN i then c.bq i else aR.first 0
  A:=fun a=>if dC a then c.acc a else Acc.first 0
  S:=fun k=>if b8 k then c.aX k else aN.still true 0 }
theorem xL {c:aq}(h:c.cN i):(ey c).R i=c.bq i:=if_pos h
theorem BO {c:aq}(h:dC i):(ey c).A i=c.acc i:=if_pos h
theorem vj {c:aq}(h:b8 i):(ey c).S i=c.aX i:=if_pos h
theorem GK {c:aq}{j:Int}(hd:c.cN d)(hj:c.cN j):(c.fJ d r).bq j=if j=d then r else c.bq j:=by
 unfold aq.cN at hd hj;show (c.aD.set d.toNat r).getD j.toNat (aR.first 0)=_;by_cases h:j=d
 ·subst h
  rw[if_pos rfl,List.getD,List.getElem?_set_self (by omega)]
  rfl
 ·rw[if_neg h,List.getD,List.getElem?_set_ne (by omega)]
  rfl
theorem AJ {c:aq}{j:Int}:(c.fJ d r).cN j↔c.cN j:=by
 unfold aq.cN aq.fJ;simp
theorem BQ {c:aq}(hd:c.cN d):ey (c.fJ d r)=(ey c).nW d r:=by
 unfold ey St.nW;congr 1;funext j;dsimp only;by_cases hj:c.cN j
 ·rw[if_pos (AJ.2 hj),GK hd hj,if_pos hj]
 ·rw[if_neg (fun q=>hj (AJ.1 q)),if_neg hj,if_neg (fun (q:j=d)=>hj (q ▸ hd))]
theorem CR {c:aq}{j:Int}{r:Acc}(hl:c.di.length=3)(hd:dC d)(hj:dC j):(c.iu d r).acc j=if j=d then r else c.acc j:=by
 unfold dC at hd hj;show (c.di.set (d-100).toNat r).getD (j-100).toNat (Acc.first 0)=_;by_cases h:j=d
 ·subst h
  rw[if_pos rfl,List.getD,List.getElem?_set_self (by omega)]
  rfl
 ·rw[if_neg h,List.getD,List.getElem?_set_ne (by omega)]
  rfl
theorem BP {c:aq}{r:Acc}(hl:c.di.length=3)(hd:dC d):ey (c.iu d r)=(ey c).pw d r:=by
 unfold ey St.pw;congr 1;funext j;dsimp only;by_cases hj:dC j
 ·rw[if_pos hj,CR hl hd hj,if_pos hj]
 ·rw[if_neg hj,if_neg hj,if_neg (fun (q:j=d)=>hj (q ▸ hd))]
theorem sO {c:aq}{j:Int}{r:aN}(hl:c.dH.length=2)(hd:b8 d)(hj:b8 j):(c.ej d r).aX j=if j=d then r else c.aX j:=by
 unfold b8 at hd hj;show (c.dH.set (d-200).toNat r).getD (j-200).toNat (aN.still true 0)=_;by_cases h:j=d
 ·subst h
  rw[if_pos rfl,List.getD,List.getElem?_set_self (by omega)]
  rfl
 ·rw[if_neg h,List.getD,List.getElem?_set_ne (by omega)]
  rfl
theorem xM {c:aq}{r:aN}(hl:c.dH.length=2)(hd:b8 d):ey (c.ej d r)=(ey c).nj d r:=by
 unfold ey St.nj;congr 1;funext j;dsimp only;by_cases hj:b8 j
 ·rw[if_pos hj,sO hl hd hj,if_pos hj]
 ·rw[if_neg hj,if_neg hj,if_neg (fun (q:j=d)=>hj (q ▸ hd))]
structure gi (c:aq)(E:Int)(g:Gh):Prop where
 n1:1<=c.aD.length
 n5:c.aD.length<=5
 a3:c.di.length=3
 m2:c.dH.length=2
 n:g.n=c.aD.length
 E0:0<=E
 R:∀ i,c.cN i->gj c.aD.length E (c.bq i)
 A:∀ a,dC a->ns c.aD.length E (c.acc a)
 S:∀ k,b8 k->d_ c.aD.length E (c.aX k)
 budget:E+(c.aX 200).reads+(c.aX 201).reads<=(c.aX 200).begun+(c.aX 201).begun
 inv:Inv g (ey c)
def iw (c:aq)(E:Int)(g:Gh)(m:aK):Prop:=cU c.aD.length E m/\jR g (ey c) m
def rY (c:aq)(E:Int)(g:Gh)(f:List UInt8 × Bool):Prop :=
 ∃ m,iw c E g m/\(f.1=m.frame\/(f.2=true/\lN f.1=none/\f.1.length=m.frame.length))
structure Good (c:aq)(E:Int)(g:Gh):Prop where
 nodes:gi c E g
 aE:c.aE.length<=200
 frames:∀ f∈c.aE,rY c E g f
theorem vd (s:aN):0<=s.reads/\s.reads<=1:=by unfold aN.reads;split<;>omega
theorem gi.jM {c:aq}(h:gi c E g):E<=2000:=by
 have h1:=(h.S 200 (by unfold b8;omega)).begun
 have h2:=(h.S 201 (by unfold b8;omega)).begun
 have:=h.budget;have:=vd (c.aX 200);have:=vd (c.aX 201);omega
theorem gi.frame {c:aq}(h:gi c E g)(hm:iw c E g m):lN m.frame=some m:=Rd m (hm.1.ok h.n5 h.jM)
theorem Good.msg {c:aq}(h:Good c E g)(hf:f∈c.aE)(hm:lN f.1=some m):iw c E g m:=by
 obtain⟨m0,h1,h2⟩:=h.frames f hf;rcases h2 with q|⟨_,q,_⟩
 ·rw[q,h.nodes.frame h1] at hm
  injection hm with hm
  exact hm ▸ h1
 ·rw[q] at hm;cases hm
theorem Good.msgs {c:aq}(h:Good c E g):∀ m∈c.msgs,iw c E g m:=by
 intro m hm;unfold aq.msgs at hm;rw[List.mem_filterMap] at hm;obtain⟨f,hf,hm⟩:=hm;exact h.msg hf hm
structure Later (c:aq)(E:Int)(g:Gh)(c':aq)(E':Int)(g':Gh):Prop where
 nodes:gi c' E' g'
 le:Le g (ey c) g' (ey c')
 E:E<=E'
 aD:c'.aD.length=c.aD.length
theorem Later.sent {c c':aq}(h:Later c E g c' E' g')(hm:iw c E g m):iw c' E' g' m :=
 ⟨by rw[h.aD];exact hm.1.mono h.E,hm.2.mono h.le⟩
theorem Later.zv {c c':aq}(h:Later c E g c' E' g')(hf:rY c E g f):rY c' E' g' f:=by
 obtain⟨m,h1,h2⟩:=hf;exact⟨m,h.sent h1,h2⟩
theorem Later.refl {c:aq}{E:Int}{g:Gh}(h:gi c E g):Later c E g c E g:=⟨h,Le.refl _ _,gv _,rfl⟩
theorem gi.aE {c:aq}(h:gi c E g)(b:List (List UInt8 × Bool))(t:List fY):gi { c with aE:=b,told:=t } E g :=
 ⟨h.n1,h.n5,h.a3,h.m2,h.n,h.E0,h.R,h.A,h.S,h.budget,h.inv⟩
theorem gi.AQ {c:aq}(h:gi c E g)(hd:c.cN d)(hw:gj c.aD.length E r)(hi:Inv g' ((ey c).nW d r))(hl:Le g (ey c) g' ((ey c).nW d r)) :
  Later c E g (c.fJ d r) E g':=by
 have hlen:(c.fJ d r).aD.length=c.aD.length:=by unfold aq.fJ;simp
 refine⟨?_,by rw[BQ hd];exact hl,gv _,hlen⟩
 exact
  {n1:=by rw[hlen];exact h.n1
   n5:=by rw[hlen];exact h.n5
   a3:=h.a3,m2:=h.m2
   n:=by rw[hlen,hl.n];exact h.n
   E0:=h.E0
   R:=by
    intro i hi;rw[hlen];rw[AJ] at hi;rw[GK hd hi];split
    ·exact hw
    ·exact h.R i hi
   A:=by rw[hlen];exact h.A
   S:=by rw[hlen];exact h.S
   budget:=h.budget
   inv:=by rw[BQ hd];exact hi }
theorem gi.AP {c:aq}(h:gi c E g)(hd:dC d){r:Acc}(hw:ns c.aD.length E r)(hi:Inv g' ((ey c).pw d r))(hl:Le g (ey c) g' ((ey c).pw d r)) :
  Later c E g (c.iu d r) E g':=by
 have hlen:(c.iu d r).di.length=c.di.length:=by unfold aq.iu;simp
 refine⟨?_,by rw[BP h.a3 hd];exact hl,gv _,rfl⟩
 exact
  {n1:=h.n1,n5:=h.n5,m2:=h.m2,E0:=h.E0,R:=h.R,S:=h.S,budget:=h.budget
   a3:=by rw[hlen];exact h.a3
   n:=by rw[hl.n];exact h.n
   A:=by
    intro i hi;rw[CR h.a3 hd hi];split
    ·exact hw
    ·exact h.A i hi
   inv:=by rw[BP h.a3 hd];exact hi }
theorem gi.xf {c:aq}(h:gi c E g)(hd:b8 d){r:aN}(hE:E<=E')(hw:d_ c.aD.length E' r)(hb:E'+r.reads-r.begun<=E+(c.aX d).reads-(c.aX d).begun)
  (hi:Inv g' ((ey c).nj d r)) (hl:Le g (ey c) g' ((ey c).nj d r)):Later c E g (c.ej d r) E' g':=by
 have hlen:(c.ej d r).dH.length=c.dH.length:=by unfold aq.ej;simp
 have h0:b8 200:=by unfold b8;omega
 have h1:b8 201:=by unfold b8;omega
 refine⟨?_,by rw[xM h.m2 hd];exact hl,hE,rfl⟩
 exact
  {n1:=h.n1,n5:=h.n5,a3:=h.a3,E0:=Int.le_trans h.E0 hE
   m2:=by rw[hlen];exact h.m2
   n:=by rw[hl.n];exact h.n
   R:=fun i hi=>(h.R i hi).mono hE
   A:=fun i hi=>(h.A i hi).mono hE
   S:=by
    intro i hi;rw[sO h.m2 hd hi];split
    ·exact hw
    ·exact (h.S i hi).mono hE
   budget:=by
    rw[sO h.m2 hd h0,sO h.m2 hd h1];have:=h.budget;have hd':=hd;unfold b8 at hd';by_cases q:d=200
    ·subst q
     rw[if_pos rfl,if_neg (by decide)]
     omega
    ·have:d=201:=by omega
     subst this;rw[if_neg (by decide),if_pos rfl]
     omega
   inv:=by rw[xM h.m2 hd];exact hi }
theorem rQ {c:aq}(h:gi c E g)(hd:c.cN d):0<=d/\d<=303/\d<g.n:=by
 have:=h.n5;have:=h.n;unfold aq.cN at hd;omega
theorem gi.takes {c:aq}(h:gi c E g)(hm:iw c E g m):∃ E' g',Later c E g (c.takes m).1 E' g'/\∀ x∈(c.takes m).2,iw (c.takes m).1 E' g' x:=by
 unfold aq.takes;split
 ·split
  ·rename_i hd
   obtain⟨d0,d1,d2⟩:=rQ h hd;obtain⟨w1,w2⟩:=Ti (h.R _ hd) h.n5 h.E0 ⟨d0,d1⟩ hm.1;obtain⟨g',i1,i2,i3⟩:=h.inv.Th (i:=m.dst) d0 d2 m hm.2 rfl;rw[xL hd] at i1 i2 i3;have hL:=h.AQ hd w1 i1 i2;refine⟨E,g',hL, ?_⟩
   intro x hx;exact⟨by rw[hL.aD];exact w2 x hx,by rw[BQ hd];exact i3 x hx⟩
  ·split
   ·rename_i hd
    obtain⟨w1,w2⟩:=JU (h.A _ hd) hm.1;obtain⟨g',i1,i2,i3⟩:=h.inv.JQ hd m hm.2 rfl;rw[BO hd] at i1 i2 i3;have hL:=h.AP hd w1 i1 i2;refine⟨E,g',hL, ?_⟩
    intro x hx;exact⟨w2 x hx,by rw[BP h.a3 hd];exact i3 x hx⟩
   ·rename_i hup hr ha
    have hd:b8 m.dst:=by
     unfold aq.cO at hup;rw[if_neg hr,if_neg ha] at hup;split at hup
     ·assumption
     ·cases hup
    obtain⟨w1,w2,w3,w4⟩:=QE (h.S _ hd) h.n5 h.E0 hm.1;obtain⟨g',i1,i2,i3⟩:=h.inv.QC hd m hm.2 rfl;rw[vj hd] at i1 i2 i3;have hL:=h.xf hd (E':=E+(c.aX m.dst).reads-((c.aX m.dst).take m).1.reads) (by omega) w1 (by omega) i1 i2
    refine⟨_,g',hL, ?_⟩
    intro x hx;exact⟨w4 x hx,by rw[xM h.m2 hd];exact i3 x hx⟩
 ·exact⟨E,g,Later.refl h,fun x hx=>by cases hx⟩
theorem gi.gO {c:aq}(h:gi c E g)(d:Int):∀ x∈c.gO d,iw c E g x:=by
 intro x hx;unfold aq.gO at hx;split at hx
 ·rename_i hd
  obtain⟨d0,d1,d2⟩:=rQ h hd;have:=h.inv.Uy (i:=d) d0 d2;rw[xL hd] at this;exact⟨Tj (h.R _ hd) h.n5 ⟨d0,d1⟩ x hx,this x hx⟩
 ·split at hx
  ·rename_i hd
   have:=(h.inv.aX hd).Ks;rw[vj hd] at this;exact⟨tD (h.S _ hd) h.n5 h.E0 (by unfold b8 at hd;omega) x hx,this x hx⟩
  ·cases hx
theorem MD {c:aq}{b:List (List UInt8 × Bool)}(hb:∀ f∈b,rY c E g f)(ho:∀ x∈out,iw c E g x):∀ f∈(b++out.map (fun m=>(m.frame,false))).take 200,rY c E g f:=by
 intro f hf;rcases fE.1 (List.mem_of_mem_take hf) with q|q
 ·exact hb f q
 ·simp only [List.mem_map] at q
  obtain⟨m,hm,rfl⟩:=q;exact⟨m,ho m hm,.inl rfl⟩
theorem gi.good {c:aq}(h:gi c E g)(hb:∀ f∈c.aE,rY c E g f)(ho:∀ x∈out,iw c E g x):Good (c.send out) E g :=
 ⟨h.aE _ _,by unfold aq.send;simp;omega,MD hb ho⟩
def gk (c:aq)(E:Int)(g:Gh)(c':aq):Prop:=∃ E' g',Good c' E' g'/\Le g (ey c) g' (ey c')/\E<=E'/\c'.aD.length=c.aD.length
theorem gk.same {c:aq}(h:Good c E g):gk c E g c:=⟨E,g,h,Le.refl _ _,gv _,rfl⟩
theorem Good.kO {c:aq}(h:Good c E g)(hm:iw c E g m):gk c E g (c.kO m):=by
 have ht:gi (c.tell m) E g:=by unfold aq.tell;split;exact h.nodes.aE _ _;exact h.nodes
 have hst:ey (c.tell m)=ey c:=by unfold aq.tell;split<;>rfl
 have hrl:(c.tell m).aD=c.aD:=by unfold aq.tell;split<;>rfl
 have hbg:(c.tell m).aE=c.aE:=by unfold aq.tell;split<;>rfl
 have hm':iw (c.tell m) E g m:=by unfold iw;rw[hst,hrl];exact hm
 obtain⟨E',g',hL,ho⟩:=ht.takes hm';have hb':((c.tell m).takes m).1.aE=c.aE:=by
  rw[<- hbg];unfold aq.takes;split
  ·split
   ·rfl
   ·split<;>rfl
  ·rfl
 refine⟨E',g',hL.nodes.good ?_ ho, ?_,hL.E, ?_⟩
 ·rw[hb']
  intro f hf;obtain⟨m0,h1,h2⟩:=h.frames f hf;exact hL.zv ⟨m0,by unfold iw;rw[hst,hrl];exact h1,h2⟩
 ·have:=hL.le
  rw[hst] at this;exact this
 ·show ((c.tell m).takes m).1.aD.length=_
  rw[hL.aD,hrl]
theorem Good.gone {c:aq}(h:Good c E g)(i:Int):Good (c.gone i) E g :=
 ⟨h.nodes.aE _ _,bP (by unfold aq.gone;exact List.length_eraseIdx_le _ _) h.aE,fun f hf=>h.frames f (List.mem_of_mem_eraseIdx hf)⟩
theorem wA {c:aq}(h:c.kT i):c.dX i∈c.aE:=by
 unfold aq.kT at h;unfold aq.dX;rw[List.getD,bU (by omega)]
 exact List.getElem_mem _
theorem Good.gI {c:aq}(h:Good c E g)(i:Int):gk c E g (c.gI i).1:=by
 unfold aq.gI;split
 ·rename_i hi
  split
  ·exact⟨E,g,h.gone i,Le.refl _ _,gv _,rfl⟩
  ·rename_i m hm
   exact (h.gone i).kO (h.msg (wA hi) hm)
 ·exact gk.same h
theorem Good.drop {c:aq}(h:Good c E g)(i:Int):gk c E g (c.drop i).1:=by
 unfold aq.drop;split
 ·exact⟨E,g,h.gone i,Le.refl _ _,gv _,rfl⟩
 ·exact gk.same h
theorem Good.double {c:aq}(h:Good c E g)(i:Int):gk c E g (c.double i).1:=by
 unfold aq.double;split
 ·rename_i hi
  refine⟨E,g,⟨h.nodes.aE _ _,by show ((c.aE++[c.dX i]).take 200).length<=200;rw[dA];omega, ?_⟩,Le.refl _ _,gv _,rfl⟩
  intro f hf;rcases fE.1 (List.mem_of_mem_take hf) with q|q
  ·exact h.frames f q
  ·rw[dg] at q
   subst q;exact h.frames _ (wA hi)
 ·exact gk.same h
theorem Good.tick {c:aq}(h:Good c E g)(d:Int):gk c E g (c.tick d).1:=by
 unfold aq.tick;split
 ·exact gk.same h
 ·exact gk.same h
 ·exact⟨E,g,h.nodes.good h.frames (h.nodes.gO d),Le.refl _ _,gv _,rfl⟩
theorem Later.step {c c':aq}(hL:Later c E g c' E' g')(h:Good c E g)(hb:c'.aE=c.aE)(ho:∀ x∈out,iw c' E' g' x):gk c E g (c'.send out) :=
 ⟨E',g',hL.nodes.good (by rw[hb];exact fun f hf=>hL.zv (h.frames f hf)) ho,hL.le,hL.E,hL.aD⟩
theorem Later.still {c c':aq}(hL:Later c E g c' E' g')(h:Good c E g)(hb:c'.aE=c.aE):gk c E g c' :=
 ⟨E',g',⟨hL.nodes,by rw[hb];exact h.aE,by rw[hb];exact fun f hf=>hL.zv (h.frames f hf)⟩,hL.le,hL.E,hL.aD⟩
theorem Good.dc {c:aq}(h:Good c E g)(d:Int):gk c E g (c.dc d).1:=by
 unfold aq.dc;split
 ·exact gk.same h
 ·exact gk.same h
 ·rename_i hup
  split
  ·rename_i hd
   obtain⟨d0,d1,d2⟩:=rQ h.nodes hd;obtain⟨g',i1,i2⟩:=h.nodes.inv.S9 (i:=d) d0 d2;rw[xL hd] at i1 i2;exact (h.nodes.AQ hd (Ta (h.nodes.R _ hd)) i1 i2).still h rfl
  ·rename_i hr
   split
   ·rename_i hd
    obtain⟨i1,i2⟩:=h.nodes.inv.CP hd (a':={ c.acc d with up:=false }) (by rw[BO hd]) rfl
    exact (h.nodes.AP hd (r:={ c.acc d with up:=false }) ⟨(h.nodes.A _ hd).ah,(h.nodes.A _ hd).af,(h.nodes.A _ hd).aZ⟩ i1 i2).still h rfl
   ·rename_i ha
    have hd:b8 d:=by
     unfold aq.cO at hup;rw[if_neg hr,if_neg ha] at hup;split at hup
     ·assumption
     ·cases hup
    obtain⟨i1,i2⟩:=h.nodes.inv.FK (k:=d) false;rw[vj hd] at i1 i2;have hrd:=vd (c.aX d);have e0:(aN.still false (c.aX d).begun).reads=0:=rfl;have e1:(aN.still false (c.aX d).begun).begun=(c.aX d).begun:=rfl;exact (h.nodes.xf hd (gv _) (AV _ (h.nodes.S _ hd).begun h.nodes.E0) (by rw[e0,e1];omega) i1 i2).still h rfl
theorem Good.cF {c:aq}(h:Good c E g)(d:Int):gk c E g (c.cF d).1:=by
 unfold aq.cF;split
 ·exact gk.same h
 ·exact gk.same h
 ·rename_i hup
  split
  ·rename_i hd
   obtain⟨d0,d1,d2⟩:=rQ h.nodes hd;obtain⟨g',i1,i2⟩:=h.nodes.inv.Td (i:=d) d0 d2;rw[xL hd] at i1 i2;exact (h.nodes.AQ hd (Tf (h.nodes.R _ hd)) i1 i2).still h rfl
  ·rename_i hr
   split
   ·rename_i hd
    obtain⟨i1,i2⟩:=h.nodes.inv.CP hd (a':={ c.acc d with up:=true }) (by rw[BO hd]) rfl
    exact (h.nodes.AP hd (r:={ c.acc d with up:=true }) ⟨(h.nodes.A _ hd).ah,(h.nodes.A _ hd).af,(h.nodes.A _ hd).aZ⟩ i1 i2).still h rfl
   ·rename_i ha
    have hd:b8 d:=by
     unfold aq.cO at hup;rw[if_neg hr,if_neg ha] at hup;split at hup
     ·assumption
     ·cases hup
    obtain⟨i1,i2⟩:=h.nodes.inv.FK (k:=d) true;rw[vj hd] at i1 i2;have hrd:=vd (c.aX d);have e0:(aN.still true (c.aX d).begun).reads=0:=rfl;have e1:(aN.still true (c.aX d).begun).begun=(c.aX d).begun:=rfl;exact (h.nodes.xf hd (gv _) (AV _ (h.nodes.S _ hd).begun h.nodes.E0) (by rw[e0,e1];omega) i1 i2).still h rfl
theorem Good.change {c:aq}(h:Good c E g)(d:Int)(l:List Int):gk c E g (c.change d l).1:=by
 unfold aq.change;split
 ·exact gk.same h
 ·rename_i hd
  have hd:b8 d:=Decidable.not_not.1 hd;split
  ·exact gk.same h
  ·rename_i hb
   split
   ·exact gk.same h
   ·rename_i hl
    have hl:dq l c.aD.length=true:=by simpa using hl
    obtain⟨i1,i2,i3⟩:=h.nodes.inv.Qx hd l (by rw[h.nodes.n];exact hl)
    rw[vj hd] at i1 i2 i3;have hwf:=AU (n:=c.aD.length) (E:=E) (own:=d) (s:=c.aX d) (l:=l) (by omega) h.nodes.E0 hd hl
    have e0:((c.aX d).begin d l).reads=1:=rfl;have e1:((c.aX d).begin d l).begun=(c.aX d).begun+1:=rfl;have hrd:=vd (c.aX d);have hL:=h.nodes.xf hd (gv _) hwf (by rw[e0,e1];omega) i1 i2
    refine hL.step h rfl ?_
    intro x hx;exact⟨tD hwf h.nodes.n5 h.nodes.E0 (by unfold b8 at hd;omega) x hx,by rw[xM h.nodes.m2 hd];exact i3 x hx⟩
theorem Good.ask {c:aq}(h:Good c E g)(d:Int)(e:aH)(hd:c.cN d)(he:e.ok=true):Good (c.ask d e).1 E (g.sm e)/\(c.ask d e).2=0:=by
 unfold aq.ask;rw[if_neg (fun q=>q hd),if_neg (by rw[he];exact Bool.noConfusion)]
 refine⟨?_,rfl⟩
 have hn:gi c E (g.sm e):=⟨h.nodes.n1,h.nodes.n5,h.nodes.a3,h.nodes.m2,h.nodes.n,h.nodes.E0,h.nodes.R,h.nodes.A,h.nodes.S,h.nodes.budget,h.nodes.inv.ask e⟩;obtain⟨d0,d1,d2⟩:=rQ h.nodes hd;refine hn.good ?_ ?_
 ·intro f hf
  obtain⟨m,h1,h2⟩:=h.frames f hf;exact⟨m,⟨h1.1,h1.2.sm e⟩,h2⟩
 ·intro x hx
  rw[dg] at hx;subst hx;have:=DM he;exact⟨xH he h.nodes.E0 (by omega) ⟨d0,d1⟩,Ra rfl trivial⟩
inductive bT where
 | bq (r:aR)
 | acc (a:Acc)
 | aX (s:aN)
def bY (n j:Nat):Int:=if j<n then (j:Int) else if j<n+3 then 100+((j:Int)-n) else 200+((j:Int)-n-3)
def dD (n:Nat)(d:Int):Option Nat :=
 if 0<=d/\d<n then some d.toNat else if 100<=d/\d<103 then some (n+(d-100).toNat) else if 200<=d/\d<202 then some (n+3+(d-200).toNat) else none
def aq.bj (c:aq)(j:Nat):bT :=
 if j<c.aD.length then .bq (c.bq (bY c.aD.length j)) else if j<c.aD.length+3 then .acc (c.acc (bY c.aD.length j)) else .aX (c.aX (bY c.aD.length j))
def bT.up : bT->Bool
 | .bq r=>r.up
 | .acc a=>a.up
 | .aX s=>s.up
def bT.take (x:bT)(own:Int)(m:aK):bT × List aK :=
 match x with
 | .bq r=>(.bq (r.take own m).1,(r.take own m).2)
 | .acc a=>(.acc (a.take m).1,(a.take m).2)
 | .aX s=>(.aX (s.take m).1,(s.take m).2)
def bT.tick (x:bT)(own:Int):List aK :=
 match x with
 | .bq r=>r.tick own
 | .acc _=>[]
 | .aX s=>s.asks own
def bT.dc (x:bT):bT :=
 match x with
 | .bq r=>.bq r.dc
 | .acc a=>.acc { a with up:=false }
 | .aX s=>.aX (aN.still false s.begun)
def bT.cF (x:bT)(own:Int):bT :=
 match x with
 | .bq r=>.bq (r.cF own)
 | .acc a=>.acc { a with up:=true }
 | .aX s=>.aX (aN.still true s.begun)
def bT.kin : bT->bT->Prop
 | .bq _,.bq _=>True
 | .acc _,.acc _=>True
 | .aX _,.aX _=>True
 | _,_=>False
def aq.dE (c:aq)(j:Nat)(x:bT):aq :=
 match x with
 | .bq r=>c.fJ (bY c.aD.length j) r
 | .acc a=>c.iu (bY c.aD.length j) a
 | .aX s=>c.ej (bY c.aD.length j) s
theorem mW (h:dD n d=some j):j<n+5:=by
 unfold dD at h;split at h
 ·cases h;omega
 ·split at h
  ·cases h;omega
  ·split at h
   ·cases h;omega
   ·cases h
theorem my (h:dD n d=some j):bY n j=d:=by
 unfold dD at h;unfold bY;split at h
 ·cases h
  rw[if_pos (by omega)]
  omega
 ·split at h
  ·cases h
   rw[if_neg (by omega),if_pos (by omega)]
   omega
  ·split at h
   ·cases h
    rw[if_neg (by omega),if_neg (by omega)]
    omega
   ·cases h
theorem F6 (hn:n<=5)(hj:j<n+5):dD n (bY n j)=some j:=by
 unfold dD bY;by_cases h1:j<n
 ·rw[if_pos h1,if_pos (by omega)];simp
 ·by_cases h2:j<n+3
  ·rw[if_neg h1,if_pos h2,if_neg (by omega),if_pos (by omega)]
   congr 1;omega
  ·rw[if_neg h1,if_neg h2,if_neg (by omega),if_neg (by omega),if_pos (by omega)]
   congr 1;omega
theorem uQ (c:aq)(d:Int):dD c.aD.length d=if c.cN d then some d.toNat else if dC d then some (c.aD.length+(d-100).toNat) else if b8 d then some (c.aD.length+3+(d-200).toNat) else none:=rfl
theorem lQ (c:aq)(d:Int):c.cO d=(dD c.aD.length d).map (fun j=>(c.bj j).up):=by
 have key:∀ j,dD c.aD.length d=some j->bY c.aD.length j=d:=fun j h=>my h;unfold aq.cO;by_cases h1:c.cN d
 ·rw[if_pos h1]
  have hp:dD c.aD.length d=some d.toNat:=by rw[uQ,if_pos h1]
  have:=key _ hp;rw[hp];have h2:d.toNat<c.aD.length:=by have:=h1.1;have:=h1.2;omega
  simp[aq.bj,h2,this,bT.up]
 ·rw[if_neg h1]
  by_cases h2:dC d
  ·rw[if_pos h2]
   have hp:dD c.aD.length d=some (c.aD.length+(d-100).toNat):=by rw[uQ,if_neg h1,if_pos h2]
   have e:=key _ hp;rw[hp];have h3:c.aD.length+(d-100).toNat<c.aD.length+3:=by have:=h2.1;have:=h2.2;omega
   simp only [Option.map_some,aq.bj];rw[if_neg (by omega),if_pos h3,e]
   rfl
  ·rw[if_neg h2]
   by_cases h3:b8 d
   ·rw[if_pos h3]
    have hp:dD c.aD.length d=some (c.aD.length+3+(d-200).toNat):=by rw[uQ,if_neg h1,if_neg h2,if_pos h3]
    have e:=key _ hp;rw[hp];simp only [Option.map_some,aq.bj];rw[if_neg (by omega),if_neg (by omega),e]
    rfl
   ·rw[if_neg h3]
    have hp:dD c.aD.length d=none:=by rw[uQ,if_neg h1,if_neg h2,if_neg h3]
    rw[hp];rfl
theorem Ro {c:aq}(h:dD c.aD.length d=some j) :
  (c.cN d/\j=d.toNat/\j<c.aD.length)\/(¬ c.cN d/\dC d/\j=c.aD.length+(d-100).toNat/\¬ j<c.aD.length/\j<c.aD.length+3)\/(¬ c.cN d/\¬ dC d/\b8 d/\j=c.aD.length+3+(d-200).toNat/\¬ j<c.aD.length/\¬ j<c.aD.length+3):=by
 rw[uQ] at h;by_cases h1:c.cN d
 ·rw[if_pos h1] at h
  cases h;exact .inl ⟨h1,rfl,by have:=h1.1;have:=h1.2;omega⟩
 ·rw[if_neg h1] at h
  by_cases h2:dC d
  ·rw[if_pos h2] at h
   cases h;exact .inr (.inl ⟨h1,h2,rfl,by omega,by have:=h2.1;have:=h2.2;omega⟩)
  ·rw[if_neg h2] at h
   by_cases h3:b8 d
   ·rw[if_pos h3] at h
    cases h;exact .inr (.inr ⟨h1,h2,h3,rfl,by omega,by omega⟩)
   ·rw[if_neg h3] at h
    cases h
theorem oJ {c:aq}(h:dD c.aD.length d=some j) :
  (c.cN d/\c.bj j=.bq (c.bq d)/\∀ r,c.dE j (.bq r)=c.fJ d r)\/(¬ c.cN d/\dC d/\c.bj j=.acc (c.acc d)/\∀ r,c.dE j (.acc r)=c.iu d r)\/(¬ c.cN d/\¬ dC d/\b8 d/\c.bj j=.aX (c.aX d)/\∀ r,c.dE j (.aX r)=c.ej d r):=by
 have e:=my h;rcases Ro h with ⟨h1,_,h2⟩|⟨h1,h2,_,h3,h4⟩|⟨h1,h2,h3,_,h4,h5⟩
 ·exact .inl ⟨h1,by unfold aq.bj;rw[if_pos h2,e],fun r=>by unfold aq.dE;simp only;rw[e]⟩
 ·exact .inr (.inl ⟨h1,h2,by unfold aq.bj;rw[if_neg h3,if_pos h4,e],fun r=>by unfold aq.dE;simp only;rw[e]⟩)
 ·exact .inr (.inr ⟨h1,h2,h3,by unfold aq.bj;rw[if_neg h4,if_neg h5,e],fun r=>by unfold aq.dE;simp only;rw[e]⟩)
theorem BS {c:aq}(h:dD c.aD.length m.dst=some j)(hu:(c.bj j).up=true):c.takes m=(c.dE j ((c.bj j).take m.dst m).1,((c.bj j).take m.dst m).2):=by
 unfold aq.takes;rw[if_pos (by rw[lQ c,h];simp[hu])]
 rcases oJ h with ⟨h1,h2,h3⟩|⟨h1,h2,h3,h4⟩|⟨h1,h2,_,h4,h5⟩
 ·rw[if_pos h1,h2]
  simp only [bT.take];rw[h3]
 ·rw[if_neg h1,if_pos h2,h3]
  simp only [bT.take];rw[h4]
 ·rw[if_neg h1,if_neg h2,h4]
  simp only [bT.take];rw[h5]
theorem Up {c:aq}(h:c.cO m.dst≠some true):c.takes m=(c,[]):=by
 unfold aq.takes;rw[if_neg h]
theorem BU {c:aq}(h:dD c.aD.length d=some j):c.gO d=(c.bj j).tick d:=by
 unfold aq.gO;rcases oJ h with ⟨h1,h2,_⟩|⟨h1,h2,h3,_⟩|⟨h1,h2,h3,h4,_⟩
 ·rw[if_pos h1,h2];rfl
 ·rw[if_neg h1,if_neg (by unfold b8;unfold dC at h2;omega),h3];rfl
 ·rw[if_neg h1,if_pos h3,h4];rfl
theorem LK {c:aq}(h:dD c.aD.length d=some j)(hu:(c.bj j).up=true):c.dc d=(c.dE j (c.bj j).dc,0):=by
 unfold aq.dc;rw[lQ c,h];simp only [Option.map_some,hu];rcases oJ h with ⟨h1,h2,h3⟩|⟨h1,h2,h3,h4⟩|⟨h1,h2,_,h4,h5⟩
 ·rw[if_pos h1,h2];simp only [bT.dc];rw[h3]
 ·rw[if_neg h1,if_pos h2,h3];simp only [bT.dc];rw[h4]
 ·rw[if_neg h1,if_neg h2,h4];simp only [bT.dc];rw[h5]
theorem To {c:aq}(h:dD c.aD.length d=some j)(hu:(c.bj j).up=false):c.cF d=(c.dE j ((c.bj j).cF d),0):=by
 unfold aq.cF;rw[lQ c,h];simp only [Option.map_some,hu];rcases oJ h with ⟨h1,h2,h3⟩|⟨h1,h2,h3,h4⟩|⟨h1,h2,_,h4,h5⟩
 ·rw[if_pos h1,h2];simp only [bT.cF];rw[h3]
 ·rw[if_neg h1,if_pos h2,h3];simp only [bT.cF];rw[h4]
 ·rw[if_neg h1,if_neg h2,h4];simp only [bT.cF];rw[h5]
theorem ta (c:aq)(j:Nat)(x:bT):(c.dE j x).aD.length=c.aD.length:=by
 unfold aq.dE aq.fJ aq.iu aq.ej;cases x<;>simp
theorem vi (c:aq)(j:Nat)(x:bT):(c.dE j x).aE=c.aE/\(c.dE j x).told=c.told/\(c.dE j x).di.length=c.di.length/\(c.dE j x).dH.length=c.dH.length:=by
 unfold aq.dE aq.fJ aq.iu aq.ej;cases x<;>simp
theorem zD {α : Type}(l:List α)(i:Nat)(x d : α)(h:i<l.length):(l.set i x).getD i d=x:=by
 rw[ew,List.getElem?_set_self h]
 rfl
theorem zB {α : Type}(l:List α)(i k:Nat)(x d : α)(h:i≠k):(l.set i x).getD k d=l.getD k d:=by
 rw[ew,List.getElem?_set_ne h,ew]
theorem xv {c:aq}{x:bT}(ha:c.di.length=3)(hm:c.dH.length=2)(hj:j<c.aD.length+5)(hk:(c.bj j).kin x)(k:Nat)(hk5:k<c.aD.length+5):(c.dE j x).bj k=if k=j then x else c.bj k:=by
 have hr:=ta c j x;unfold aq.bj at hk |-;rw[hr];by_cases h1:j<c.aD.length
 ·rw[if_pos h1] at hk
  cases x with
  | acc a=>cases hk
  | aX a=>cases hk
  | bq r =>
   have lJ:(bY c.aD.length j).toNat=j:=by unfold bY;rw[if_pos h1];simp
   by_cases hkj:k=j
   ·subst hkj
    rw[if_pos h1,if_pos rfl];unfold aq.bq aq.dE aq.fJ;simp only;rw[lJ,zD _ _ _ _ h1]
   ·rw[if_neg hkj]
    by_cases h2:k<c.aD.length
    ·have hnk:(bY c.aD.length k).toNat=k:=by unfold bY;rw[if_pos h2];simp
     rw[if_pos h2,if_pos h2];unfold aq.bq aq.dE aq.fJ;simp only;rw[lJ,hnk,zB _ _ _ _ _ (Ne.symm hkj)]
    ·rw[if_neg h2,if_neg h2]
     rfl
 ·rw[if_neg h1] at hk
  by_cases h2:j<c.aD.length+3
  ·rw[if_pos h2] at hk
   cases x with
   | bq a=>cases hk
   | aX a=>cases hk
   | acc r =>
    have lJ:(bY c.aD.length j-100).toNat=j-c.aD.length:=by unfold bY;rw[if_neg h1,if_pos h2];omega
    by_cases hkj:k=j
    ·subst hkj
     rw[if_neg h1,if_pos h2,if_pos rfl];unfold aq.acc aq.dE aq.iu;simp only;rw[lJ,zD _ _ _ _ (by omega)]
    ·rw[if_neg hkj]
     by_cases h3:k<c.aD.length
     ·rw[if_pos h3,if_pos h3];rfl
     ·rw[if_neg h3,if_neg h3]
      by_cases h4:k<c.aD.length+3
      ·have hnk:(bY c.aD.length k-100).toNat=k-c.aD.length:=by unfold bY;rw[if_neg h3,if_pos h4];omega
       rw[if_pos h4,if_pos h4];unfold aq.acc aq.dE aq.iu;simp only;rw[lJ,hnk,zB _ _ _ _ _ (by omega)]
      ·rw[if_neg h4,if_neg h4];rfl
  ·rw[if_neg h2] at hk
   cases x with
   | bq a=>cases hk
   | acc a=>cases hk
   | aX r =>
    have lJ:(bY c.aD.length j-200).toNat=j-c.aD.length-3:=by unfold bY;rw[if_neg h1,if_neg h2];omega
    by_cases hkj:k=j
    ·subst hkj
     rw[if_neg h1,if_neg h2,if_pos rfl];unfold aq.aX aq.dE aq.ej;simp only;rw[lJ,zD _ _ _ _ (by omega)]
    ·rw[if_neg hkj]
     by_cases h3:k<c.aD.length
     ·rw[if_pos h3,if_pos h3];rfl
     ·rw[if_neg h3,if_neg h3]
      by_cases h4:k<c.aD.length+3
      ·rw[if_pos h4,if_pos h4];rfl
      ·have hnk:(bY c.aD.length k-200).toNat=k-c.aD.length-3:=by unfold bY;rw[if_neg h3,if_neg h4];omega
       rw[if_neg h4,if_neg h4];unfold aq.aX aq.dE aq.ej;simp only;rw[lJ,hnk,zB _ _ _ _ _ (by omega)]
theorem AN (x:bT)(own:Int)(m:aK):x.kin (x.take own m).1:=by cases x<;>trivial
theorem Fx (x:bT):x.kin x.dc:=by cases x<;>trivial
theorem Fy (x:bT)(own:Int):x.kin (x.cF own):=by cases x<;>trivial
theorem Rs (n j:Nat)(hj:j<n+5):(aq.first n).bj j=if j<n then .bq (aR.first n) else if j<n+3 then .acc (Acc.first n) else .aX (aN.still true 0):=by
 have hl:(aq.first n).aD.length=n:=by simp[aq.first]
 unfold aq.bj;rw[hl];by_cases h1:j<n
 ·rw[if_pos h1,if_pos h1]
  have lJ:(bY n j).toNat=j:=by unfold bY;rw[if_pos h1];simp
  unfold aq.bq;rw[lJ];simp[aq.first,List.getD_eq_getElem?_getD,h1]
 ·rw[if_neg h1,if_neg h1]
  by_cases h2:j<n+3
  ·rw[if_pos h2,if_pos h2]
   have lJ:(bY n j-100).toNat=j-n:=by unfold bY;rw[if_neg h1,if_pos h2];omega
   unfold aq.acc;rw[lJ];rcases (by omega:j-n=0\/j-n=1\/j-n=2) with e|e|e<;>rw[e]<;>rfl
  ·rw[if_neg h2,if_neg h2]
   have lJ:(bY n j-200).toNat=j-n-3:=by unfold bY;rw[if_neg h1,if_neg h2];omega
   unfold aq.aX;rw[lJ];rcases (by omega:j-n-3=0\/j-n-3=1) with e|e<;>rw[e]<;>rfl
theorem Mt :(aq.first n).cN i↔0<=i/\i<n:=by
 unfold aq.cN aq.first;simp
theorem DY (h0:0<=i)(h1:i<n):(aq.first n).bq i=aR.first n:=by
 unfold aq.bq aq.first;simp only [];rw[List.getD,List.getElem?_replicate,if_pos (by omega)]
 rfl
theorem DW (h:dC a):(aq.first n).acc a=Acc.first n:=by
 unfold dC at h;unfold aq.acc aq.first;simp only [];rw[List.getD,List.getElem?_replicate,if_pos (by omega)]
 rfl
theorem wq (h:b8 a):(aq.first n).aX a=aN.still true 0:=by
 unfold b8 at h;unfold aq.aX aq.first;simp only [];rw[List.getD,List.getElem?_replicate,if_pos (by omega)]
 rfl
theorem Ms (n:Nat)(h:1<=n)(h5:n<=5):Good (aq.first n) 0 (⟨n⟩):=by
 have hl:(aq.first n).aD.length=n:=by unfold aq.first;simp
 refine⟨?_,by unfold aq.first;simp,fun f hf=>by cases hf⟩
 exact
  {n1:=by rw[hl];exact h
   n5:=by rw[hl];exact h5
   a3:=rfl,m2:=rfl
   n:=hl.symm
   E0:=gv _
   R:=by
    intro i hi;obtain⟨h0,h1⟩:=Mt.1 hi;rw[DY h0 h1,hl];exact⟨⟨gv _,gv _⟩,⟨gv _,gv _⟩,DV n h,mL,aG _,aG _,aG _⟩
   A:=by
    intro a ha;rw[DW ha,hl];refine⟨⟨gv _,gv _⟩,DV n h, ?_⟩
    intro e;exact⟨by show (-1:Int) <= -1/\(-1:Int)<=2001;omega,by show (-1:Int) <= -1/\(-1:Int)<=2001;omega,.inl rfl,fun q=>absurd q (by show ¬ (0:Int) <= -1;omega),mL⟩
   S:=by
    intro k hk;rw[wq hk];exact AV true (by omega) (gv _)
   budget:=by rw[wq (by unfold b8;omega),wq (by unfold b8;omega)];decide
   inv:=⟨⟩ }
end Go.Proofs.YtgieeeeeiggoeaaGreat
