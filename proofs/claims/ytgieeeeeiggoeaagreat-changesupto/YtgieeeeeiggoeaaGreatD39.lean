import Derived.Test.YtgieeeeeiggoeaaGreatD36
import Derived.Test.YtgieeeeeiggoeaaGreatD16
set_option maxRecDepth 100000
set_option maxHeartbeats 8000000
namespace Go.Proofs.YtgieeeeeiggoeaaGreat
open Go.RowKit Go.Shelf
open Tryz
variable {c:aq}{g:Gh}{E:Int}{l4:List (Value × Nat)}{B M N base bv t x:Nat}{F:Nat->Prop}{u v vA vC vI oL vL vT x0 x5:Value}{w w' w0:World}
structure Bk where
 lI:List (Value × Nat)
 lL:List (Value × Nat)
 lT:List (Value × Nat)
 lA:List (Value × Nat)
def Bk.own (b:Bk)(vI vL vT vA:Value)(k:Nat):Prop :=
 vI.ownBlock=some k\/vL.ownBlock=some k\/vT.ownBlock=some k\/vA.ownBlock=some k\/(∃ p∈b.lI,p.1.ownBlock=some k)\/(∃ p∈b.lL,p.1.ownBlock=some k)\/(∃ p∈b.lT,p.1.ownBlock=some k)\/∃ p∈b.lA,p.1.ownBlock=some k
structure ib (w:World)(B base:Nat)(x0 x5:Value)(b:Bk)(vI vL vT vA:Value):Prop where
 blk:w.heap[B]?=some (.cells #[x0,vI,vL,vT,vA,x5] 67)
 rI:w.ownsRow base 29 1 vI b.lI.length (b.lI.map Prod.fst)
 rL:w.ownsRow base 44 1 vL b.lL.length (b.lL.map Prod.fst)
 rT:w.ownsRow base 111 1 vT b.lT.length (b.lT.map Prod.fst)
 rA:w.ownsRow base 91 1 vA b.lA.length (b.lA.map Prod.fst)
 eI:∀ (i:Nat) (p:Value × Nat),b.lI[i]?=some p->p.2<=2000000000/\w.ownsRow base 3 1 p.1 p.2 (aJ (List.replicate p.2 (-1000-(i:Int) / 4)))
 eL:∀ (i:Nat) (p:Value × Nat),b.lL[i]?=some p->p.2<=2000000000/\w.ownsRow base 42 5 p.1 p.2 (aJ (bk (List.replicate p.2 (iN (-1000-(i:Int) / 4)))))
 eT:∀ (i:Nat) (p:Value × Nat),b.lT[i]?=some p->p.2<=2000000000/\w.ownsRow base 9 1 p.1 p.2 (eF (List.replicate p.2 (pt (i / 4))))
 eA:∀ (i:Nat) (p:Value × Nat),b.lA[i]?=some p->p.2<=2000000000/\w.ownsRow base 113 3 p.1 p.2 (aJ (dj (List.replicate p.2 (jo (-1000-(i:Int) / 4)))))
 bb:B<base
 bs:base<=w.heap.size
 mN:b.lI.length % 4=0/\b.lL.length % 4=0/\b.lT.length % 4=0/\b.lA.length % 4=0
theorem ib.keep {b:Bk}(h:ib w B base x0 x5 b vI vL vT vA)(hs:w.heap.size<=w'.heap.size)(hk:∀ k,k=B\/b.own vI vL vT vA k->w'.heap[k]?=w.heap[k]?):ib w' B base x0 x5 b vI vL vT vA where
 blk:=(hk B (.inl rfl)).trans h.blk
 rI:=cG h.rI fun k e=>hk k (.inr (.inl e))
 rL:=cG h.rL fun k e=>hk k (.inr (.inr (.inl e)))
 rT:=cG h.rT fun k e=>hk k (.inr (.inr (.inr (.inl e))))
 rA:=cG h.rA fun k e=>hk k (.inr (.inr (.inr (.inr (.inl e)))))
 eI:=fun i p hp=>⟨(h.eI i p hp).1,cG (h.eI i p hp).2 fun k e=>hk k (.inr (.inr (.inr (.inr (.inr (.inl ⟨p,dU hp,e⟩))))))⟩
 eL:=fun i p hp=>⟨(h.eL i p hp).1,cG (h.eL i p hp).2 fun k e=>hk k (.inr (.inr (.inr (.inr (.inr (.inr (.inl ⟨p,dU hp,e⟩)))))))⟩
 eT:=fun i p hp=>⟨(h.eT i p hp).1,cG (h.eT i p hp).2 fun k e=>hk k (.inr (.inr (.inr (.inr (.inr (.inr (.inr (.inl ⟨p,dU hp,e⟩))))))))⟩
 eA:=fun i p hp=>⟨(h.eA i p hp).1,cG (h.eA i p hp).2 fun k e=>hk k (.inr (.inr (.inr (.inr (.inr (.inr (.inr (.inr ⟨p,dU hp,e⟩))))))))⟩
 bb:=h.bb
 bs:=bP h.bs hs
 mN:=h.mN
theorem ib.whole {b:Bk}(h:ib w B base x0 x5 b vI vL vT vA)(h1:b.lI.length<=2000000000)(h2:b.lL.length<=2000000000)(h3:b.lT.length<=2000000000)(h4:b.lA.length<=2000000000) :
  Calls prog 24 #[.pointer (some ⟨B,1,none⟩)] w fun e w'=>e=.returned (.bool true)/\ai w w':=by
 obtain⟨aI,cI,hI⟩:=aM h.rI;obtain⟨aL,cL,hL⟩:=aM h.rL;obtain⟨aT,cT,hT⟩:=aM h.rT;obtain⟨aA,cA,hA⟩:=aM h.rA;subst hI hL hT hA;have at_:∀ {e:TypeId} {a:Option Addr} {c:Nat} {l:List (Value × Nat)},w.ownsRow base e 1 (.slice a l.length c) l.length (l.map Prod.fst)->∀ i,i<l.length->∃ b' p,l[i]?=some p/\a=some ⟨b',0,none⟩/\w.cell? ⟨b',i,none⟩=some p.1:=by
  intro e a c l ho i hi;obtain⟨g,cap,hv, -, -⟩:=ho.form (by omega)
  cases hv;refine⟨g,l[i],bU hi,rfl, ?_⟩
  rw[ev ho i (by omega),fe,bU hi]
  rfl
 refine KL B aI aL aT aA b.lI.length b.lL.length b.lT.length b.lA.length cI cL cT cA x0 x5 w h.blk (fun i hi => ?_) (fun i hi => ?_) (fun i hi => ?_) (fun i hi => ?_) h1 h2 h3 h4
 ·obtain⟨b',p,hp,ha,hc⟩:=at_ h.rI i hi
  refine⟨b',p.2,p.1,ha,hc,(h.eI i p hp).1,bJ.cM (base:=base) ?_⟩
  rw[List.length_replicate];exact (h.eI i p hp).2
 ·obtain⟨b',p,hp,ha,hc⟩:=at_ h.rL i hi
  refine⟨b',p.2,p.1,ha,hc,(h.eL i p hp).1,eM.cM (base:=base) ?_⟩
  rw[List.length_replicate];exact (h.eL i p hp).2
 ·obtain⟨b',p,hp,ha,hc⟩:=at_ h.rT i hi
  have ho:=(h.eT i p hp).2;obtain⟨a9,c9,dz⟩:=aM ho;rw[dz] at hc ho;refine⟨b',p.2,c9,a9,ha,hc,(h.eT i p hp).1,fun j hj => ?_⟩
  obtain⟨g,cap,hv, -, -⟩:=ho.form (by omega)
  cases hv;refine⟨g,rfl, ?_⟩
  rw[ev ho j (by omega)]
  unfold eF;rw[fe,List.getElem?_replicate,if_pos hj]
  rfl
 ·obtain⟨b',p,hp,ha,hc⟩:=at_ h.rA i hi
  have ho:=(h.eA i p hp).2;obtain⟨a9,c9,dz⟩:=aM ho;rw[dz] at hc ho;refine⟨b',p.2,c9,a9,ha,hc,(h.eA i p hp).1,fun j hj => ?_⟩
  obtain⟨g,cap,hv, -, -⟩:=ho.form (by omega)
  cases hv;have cc:∀ t,t<3->∀ z,(jo (-1000-(i:Int) / 4)).nums[t]?=some z->w.cell? ⟨g,j*3+t,none⟩=some (.int .i64 z):=by
   intro t ht z hz;rw[ev ho (j*3+t) (by omega)]
   unfold aJ;rw[fe,CX _ j t (jo (-1000-(i:Int) / 4)) (by rw[List.getElem?_replicate,if_pos hj]) ht,hz]
   rfl
  exact⟨g,rfl,cc 0 (by omega) _ rfl,cc 1 (by omega) _ rfl,cc 2 (by omega) _ rfl⟩
theorem wu {l:List (Value × Nat)}{a0 a1 a2 a3:Value × Nat}(h4:l4=[a0,a1,a2,a3])(i:Nat)(p:Value × Nat)(h:(l++l4)[i]?=some p):l[i]?=some p\/∃ t,t<4/\i=l.length+t/\l4[t]?=some p:=by
 by_cases hi:i<l.length
 ·rw[List.getElem?_append_left hi] at h
  exact .inl h
 ·right
  rw[kH (by omega)] at h
  have:=(dI.1 h).1;subst h4;simp only [eu,fG] at this;exact⟨i-l.length,by omega,by omega,h⟩
theorem AT (h:N % 4=0)(ht:t<4):(((N+t:Nat):Int) / 4)=(N:Int) / 4:=by omega
theorem ib.sM {b:Bk}(h:ib w B base x0 x5 b vI vL vT vA)(v:Value)(l:List Int)(hv:w.ownsRow bv 3 1 v l.length (aJ l))(hb1:base<=bv)(hb2:bv<=w.heap.size)
  (hf:∀ k,v.ownBlock=some k->¬ b.own vI vL vT vA k) (hN:b.lI.length<=1000000000) (hl:l.length<=1000000000) :
  Calls prog 100 #[.pointer (some ⟨B,1,none⟩),v] w fun e w'=>e=.returned (.tuple #[])/\∃ oL l4,l4.length=4/\ib w' B base x0 x5 { b with lI:=b.lI++l4 } oL vL vT vA/\Moved w w' (fun k=>k=B\/v.ownBlock=some k\/vI.ownBlock=some k) /\
   ∀ k,({ b with lI:=b.lI++l4 }:Bk).own oL vL vT vA k->b.own vI vL vT vA k\/bv<=k:=by
 have hbb:=h.bb;refine (KI B base bv b.lI.length x0 x5 v vI vL vT vA (b.lI.map Prod.fst) l w h.blk h.bb (by omega) h.bs hb2 hv h.rI hN hl).mono ?_
 rintro e w' ⟨rfl,v1,v2,v3,oL,hblk,hrow,o0,o1,o2,o3,hM,hg⟩;have hs:=hM.size;have keep:∀ {base size n:Nat} {e:TypeId} {u:Value} {xs:List Value},w.ownsRow base e size u n xs->e≠67->e≠29->(∀ k,u.ownBlock=some k->v.ownBlock≠some k)->w'.ownsRow base e size u n xs:=fun ho h1 h2 h3=>hM.owns ho fun k hk hS=>by
  rcases hS with q|q|q
  ·exact aY h.blk ho h1 (q ▸ hk)
  ·exact h3 k hk q
  ·exact bM ho h.rI h2 k hk q
 have hlen:(b.lI++[(v,l.length),(v1,l.length+1),(v2,l.length+2),(v3,l.length+3)]).length=b.lI.length+4:=by simp
 refine⟨rfl,oL,[(v,l.length),(v1,l.length+1),(v2,l.length+2),(v3,l.length+3)],rfl, ?_,hM, ?_⟩
 ·refine⟨hblk, ?_,keep h.rL (by decide) (by decide) (fun k hk hv=>hf k hv (.inr (.inl hk))),keep h.rT (by decide) (by decide) (fun k hk hv=>hf k hv (.inr (.inr (.inl hk)))),keep h.rA (by decide) (by decide) (fun k hk hv=>hf k hv (.inr (.inr (.inr (.inl hk))))),fun i p hp => ?_,fun i p hp => ?_,fun i p hp => ?_,fun i p hp => ?_,h.bb,bP h.bs hs, ?_⟩
  ·rw[hlen,gw]
   exact hrow
  ·rcases wu rfl i p hp with hp'|⟨t,ht,hi,hp'⟩
   ·exact⟨(h.eI i p hp').1,keep (h.eI i p hp').2 (by decide) (by decide) (fun k hk hv=>hf k hv (.inr (.inr (.inr (.inr (.inl ⟨p,dU hp',hk⟩))))))⟩
   ·rw[hi,AT h.mN.1 ht]
    rcases (by omega:t=0\/t=1\/t=2\/t=3) with q|q|q|q<;>subst q<;>(simp at hp';subst hp')
    ·exact⟨by show l.length<=_;omega,obs o0 hb1⟩
    ·exact⟨by show l.length+1<=_;omega,obs o1 hb1⟩
    ·exact⟨by show l.length+2<=_;omega,obs o2 hb1⟩
    ·exact⟨by show l.length+3<=_;omega,obs o3 hb1⟩
  ·exact⟨(h.eL i p hp).1,keep (h.eL i p hp).2 (by decide) (by decide) (fun k hk hv=>hf k hv (.inr (.inr (.inr (.inr (.inr (.inl ⟨p,dU hp,hk⟩)))))))⟩
  ·exact⟨(h.eT i p hp).1,keep (h.eT i p hp).2 (by decide) (by decide) (fun k hk hv=>hf k hv (.inr (.inr (.inr (.inr (.inr (.inr (.inl ⟨p,dU hp,hk⟩))))))))⟩
  ·exact⟨(h.eA i p hp).1,keep (h.eA i p hp).2 (by decide) (by decide) (fun k hk hv=>hf k hv (.inr (.inr (.inr (.inr (.inr (.inr (.inr ⟨p,dU hp,hk⟩))))))))⟩
  ·obtain⟨f1,f2,f3,f4⟩:=h.mN
   refine⟨?_,f2,f3,f4⟩
   rw[hlen];omega
 ·intro k hk
  rcases hk with q|q|q|q|q|q|q|q
  ·rcases hg k q with e|e
   ·exact .inl (.inl e)
   ·exact .inr (by omega)
  ·exact .inl (.inr (.inl q))
  ·exact .inl (.inr (.inr (.inl q)))
  ·exact .inl (.inr (.inr (.inr (.inl q))))
  ·obtain⟨p,hp,hpk⟩:=q
   rcases fE.1 hp with hp|hp
   ·exact .inl (.inr (.inr (.inr (.inr (.inl ⟨p,hp,hpk⟩)))))
   ·right
    simp at hp;rcases hp with rfl|rfl|rfl|rfl
    ·exact (o0.lt k hpk).1
    ·exact (o1.lt k hpk).1
    ·exact (o2.lt k hpk).1
    ·exact (o3.lt k hpk).1
  ·exact .inl (.inr (.inr (.inr (.inr (.inr (.inl q))))))
  ·exact .inl (.inr (.inr (.inr (.inr (.inr (.inr (.inl q)))))))
  ·exact .inl (.inr (.inr (.inr (.inr (.inr (.inr (.inr q)))))))
theorem ib.PD {b:Bk}(h:ib w B base x0 x5 b vI vL vT vA)(v:Value)(l:List aH)(hv:w.ownsRow bv 42 5 v l.length (aJ (bk l)))(hb1:base<=bv)(hb2:bv<=w.heap.size)
  (hf:∀ k,v.ownBlock=some k->¬ b.own vI vL vT vA k) (hN:b.lL.length<=1000000000) (hl:l.length<=1000000000) :
  Calls prog 101 #[.pointer (some ⟨B,1,none⟩),v] w fun e w'=>e=.returned (.tuple #[])/\∃ u' l4,l4.length=4/\ib w' B base x0 x5 { b with lL:=b.lL++l4 } vI u' vT vA/\Moved w w' (fun k=>k=B\/v.ownBlock=some k\/vL.ownBlock=some k) /\
   ∀ k,({ b with lL:=b.lL++l4 }:Bk).own vI u' vT vA k->b.own vI vL vT vA k\/bv<=k:=by
 have hbb:=h.bb;refine (KJ B base bv b.lL.length x0 x5 v vL vI vT vA (b.lL.map Prod.fst) l w h.blk h.bb (by omega) h.bs hb2 hv h.rL hN hl).mono ?_
 rintro e w' ⟨rfl,v1,v2,v3,u',hblk,hrow,o0,o1,o2,o3,hM,hg⟩;have hs:=hM.size;have keep:∀ {base size n:Nat} {e:TypeId} {u:Value} {xs:List Value},w.ownsRow base e size u n xs->e≠67->e≠44->(∀ k,u.ownBlock=some k->v.ownBlock≠some k)->w'.ownsRow base e size u n xs:=fun ho h1 h2 h3=>hM.owns ho fun k hk hS=>by
  rcases hS with q|q|q
  ·exact aY h.blk ho h1 (q ▸ hk)
  ·exact h3 k hk q
  ·exact bM ho h.rL h2 k hk q
 have hlen:(b.lL++[(v,l.length),(v1,l.length+1),(v2,l.length+2),(v3,l.length+3)]).length=b.lL.length+4:=by simp
 refine⟨rfl,u',[(v,l.length),(v1,l.length+1),(v2,l.length+2),(v3,l.length+3)],rfl, ?_,hM, ?_⟩
 ·refine⟨hblk,keep h.rI (by decide) (by decide) (fun k hk hv=>hf k hv (.inl hk)), ?_,keep h.rT (by decide) (by decide) (fun k hk hv=>hf k hv (.inr (.inr (.inl hk)))),keep h.rA (by decide) (by decide) (fun k hk hv=>hf k hv (.inr (.inr (.inr (.inl hk))))),fun i p hp => ?_,fun i p hp => ?_,fun i p hp => ?_,fun i p hp => ?_,h.bb,bP h.bs hs, ?_⟩
  ·rw[hlen,gw]
   exact hrow
  ·exact⟨(h.eI i p hp).1,keep (h.eI i p hp).2 (by decide) (by decide) (fun k hk hv=>hf k hv (.inr (.inr (.inr (.inr (.inl ⟨p,dU hp,hk⟩))))))⟩
  ·rcases wu rfl i p hp with hp'|⟨t,ht,hi,hp'⟩
   ·exact⟨(h.eL i p hp').1,keep (h.eL i p hp').2 (by decide) (by decide) (fun k hk hv=>hf k hv (.inr (.inr (.inr (.inr (.inr (.inl ⟨p,dU hp',hk⟩)))))))⟩
   ·rw[hi,AT h.mN.2.1 ht]
    rcases (by omega:t=0\/t=1\/t=2\/t=3) with q|q|q|q<;>subst q<;>(simp at hp';subst hp')
    ·exact⟨by show l.length<=_;omega,obs o0 hb1⟩
    ·exact⟨by show l.length+1<=_;omega,obs o1 hb1⟩
    ·exact⟨by show l.length+2<=_;omega,obs o2 hb1⟩
    ·exact⟨by show l.length+3<=_;omega,obs o3 hb1⟩
  ·exact⟨(h.eT i p hp).1,keep (h.eT i p hp).2 (by decide) (by decide) (fun k hk hv=>hf k hv (.inr (.inr (.inr (.inr (.inr (.inr (.inl ⟨p,dU hp,hk⟩))))))))⟩
  ·exact⟨(h.eA i p hp).1,keep (h.eA i p hp).2 (by decide) (by decide) (fun k hk hv=>hf k hv (.inr (.inr (.inr (.inr (.inr (.inr (.inr ⟨p,dU hp,hk⟩))))))))⟩
  ·obtain⟨f1,f2,f3,f4⟩:=h.mN
   refine⟨f1, ?_,f3,f4⟩
   rw[hlen];omega
 ·intro k hk
  rcases hk with q|q|q|q|q|q|q|q
  ·exact .inl (.inl q)
  ·rcases hg k q with e|e
   ·exact .inl (.inr (.inl e))
   ·exact .inr (by omega)
  ·exact .inl (.inr (.inr (.inl q)))
  ·exact .inl (.inr (.inr (.inr (.inl q))))
  ·exact .inl (.inr (.inr (.inr (.inr (.inl q)))))
  ·obtain⟨p,hp,hpk⟩:=q
   rcases fE.1 hp with hp|hp
   ·exact .inl (.inr (.inr (.inr (.inr (.inr (.inl ⟨p,hp,hpk⟩))))))
   ·right
    simp at hp;rcases hp with rfl|rfl|rfl|rfl
    ·exact (o0.lt k hpk).1
    ·exact (o1.lt k hpk).1
    ·exact (o2.lt k hpk).1
    ·exact (o3.lt k hpk).1
  ·exact .inl (.inr (.inr (.inr (.inr (.inr (.inr (.inl q)))))))
  ·exact .inl (.inr (.inr (.inr (.inr (.inr (.inr (.inr (q))))))))
theorem Qt (h:N % 4=0)(ht:t<4):(N+t) / 4=N / 4:=by omega
theorem ib.PF {b:Bk}(h:ib w B base x0 x5 b vI vL vT vA)(v:Value)(l:List (List UInt8))(hv:w.ownsRow bv 9 1 v l.length (eF l))(hb1:base<=bv)(hb2:bv<=w.heap.size)
  (hf:∀ k,v.ownBlock=some k->¬ b.own vI vL vT vA k) (hN:b.lT.length<=1000000000) (hl:l.length<=1000000000) :
  Calls prog 92 #[.pointer (some ⟨B,1,none⟩),v] w fun e w'=>e=.returned (.tuple #[])/\∃ u' l4,l4.length=4/\ib w' B base x0 x5 { b with lT:=b.lT++l4 } vI vL u' vA/\Moved w w' (fun k=>k=B\/v.ownBlock=some k\/vT.ownBlock=some k) /\
   ∀ k,({ b with lT:=b.lT++l4 }:Bk).own vI vL u' vA k->b.own vI vL vT vA k\/bv<=k:=by
 have hbb:=h.bb;refine (KK B base bv b.lT.length x0 x5 v vT vI vL vA (b.lT.map Prod.fst) l w h.blk h.bb (by omega) h.bs hb2 hv h.rT hN hl).mono ?_
 rintro e w' ⟨rfl,v1,v2,v3,u',hblk,hrow,o0,o1,o2,o3,hM,hg⟩;have hs:=hM.size;have keep:∀ {base size n:Nat} {e:TypeId} {u:Value} {xs:List Value},w.ownsRow base e size u n xs->e≠67->e≠111->(∀ k,u.ownBlock=some k->v.ownBlock≠some k)->w'.ownsRow base e size u n xs:=fun ho h1 h2 h3=>hM.owns ho fun k hk hS=>by
  rcases hS with q|q|q
  ·exact aY h.blk ho h1 (q ▸ hk)
  ·exact h3 k hk q
  ·exact bM ho h.rT h2 k hk q
 have hlen:(b.lT++[(v,l.length),(v1,l.length+1),(v2,l.length+2),(v3,l.length+3)]).length=b.lT.length+4:=by simp
 refine⟨rfl,u',[(v,l.length),(v1,l.length+1),(v2,l.length+2),(v3,l.length+3)],rfl, ?_,hM, ?_⟩
 ·refine⟨hblk,keep h.rI (by decide) (by decide) (fun k hk hv=>hf k hv (.inl hk)),keep h.rL (by decide) (by decide) (fun k hk hv=>hf k hv (.inr (.inl hk))), ?_,keep h.rA (by decide) (by decide) (fun k hk hv=>hf k hv (.inr (.inr (.inr (.inl hk))))),fun i p hp => ?_,fun i p hp => ?_,fun i p hp => ?_,fun i p hp => ?_,h.bb,bP h.bs hs, ?_⟩
  ·rw[hlen,gw]
   exact hrow
  ·exact⟨(h.eI i p hp).1,keep (h.eI i p hp).2 (by decide) (by decide) (fun k hk hv=>hf k hv (.inr (.inr (.inr (.inr (.inl ⟨p,dU hp,hk⟩))))))⟩
  ·exact⟨(h.eL i p hp).1,keep (h.eL i p hp).2 (by decide) (by decide) (fun k hk hv=>hf k hv (.inr (.inr (.inr (.inr (.inr (.inl ⟨p,dU hp,hk⟩)))))))⟩
  ·rcases wu rfl i p hp with hp'|⟨t,ht,hi,hp'⟩
   ·exact⟨(h.eT i p hp').1,keep (h.eT i p hp').2 (by decide) (by decide) (fun k hk hv=>hf k hv (.inr (.inr (.inr (.inr (.inr (.inr (.inl ⟨p,dU hp',hk⟩))))))))⟩
   ·rw[hi,Qt h.mN.2.2.1 ht]
    rcases (by omega:t=0\/t=1\/t=2\/t=3) with q|q|q|q<;>subst q<;>(simp at hp';subst hp')
    ·exact⟨by show l.length<=_;omega,obs o0 hb1⟩
    ·exact⟨by show l.length+1<=_;omega,obs o1 hb1⟩
    ·exact⟨by show l.length+2<=_;omega,obs o2 hb1⟩
    ·exact⟨by show l.length+3<=_;omega,obs o3 hb1⟩
  ·exact⟨(h.eA i p hp).1,keep (h.eA i p hp).2 (by decide) (by decide) (fun k hk hv=>hf k hv (.inr (.inr (.inr (.inr (.inr (.inr (.inr ⟨p,dU hp,hk⟩))))))))⟩
  ·obtain⟨f1,f2,f3,f4⟩:=h.mN
   refine⟨f1,f2, ?_,f4⟩
   rw[hlen];omega
 ·intro k hk
  rcases hk with q|q|q|q|q|q|q|q
  ·exact .inl (.inl q)
  ·exact .inl (.inr (.inl q))
  ·rcases hg k q with e|e
   ·exact .inl (.inr (.inr (.inl e)))
   ·exact .inr (by omega)
  ·exact .inl (.inr (.inr (.inr (.inl q))))
  ·exact .inl (.inr (.inr (.inr (.inr (.inl q)))))
  ·exact .inl (.inr (.inr (.inr (.inr (.inr (.inl q))))))
  ·obtain⟨p,hp,hpk⟩:=q
   rcases fE.1 hp with hp|hp
   ·exact .inl (.inr (.inr (.inr (.inr (.inr (.inr (.inl ⟨p,hp,hpk⟩)))))))
   ·right
    simp at hp;rcases hp with rfl|rfl|rfl|rfl
    ·exact (o0.lt k hpk).1
    ·exact (o1.lt k hpk).1
    ·exact (o2.lt k hpk).1
    ·exact (o3.lt k hpk).1
  ·exact .inl (.inr (.inr (.inr (.inr (.inr (.inr (.inr (q))))))))
theorem ib.PB {b:Bk}(h:ib w B base x0 x5 b vI vL vT vA)(v:Value)(l:List fY)(hv:w.ownsRow bv 113 3 v l.length (aJ (dj l)))(hb1:base<=bv)(hb2:bv<=w.heap.size)
  (hf:∀ k,v.ownBlock=some k->¬ b.own vI vL vT vA k) (hN:b.lA.length<=1000000000) (hl:l.length<=1000000000) :
  Calls prog 105 #[.pointer (some ⟨B,1,none⟩),v] w fun e w'=>e=.returned (.tuple #[])/\∃ u' l4,l4.length=4/\ib w' B base x0 x5 { b with lA:=b.lA++l4 } vI vL vT u'/\Moved w w' (fun k=>k=B\/v.ownBlock=some k\/vA.ownBlock=some k) /\
   ∀ k,({ b with lA:=b.lA++l4 }:Bk).own vI vL vT u' k->b.own vI vL vT vA k\/bv<=k:=by
 have hbb:=h.bb;refine (KH B base bv b.lA.length x0 x5 v vA vI vL vT (b.lA.map Prod.fst) l w h.blk h.bb (by omega) h.bs hb2 hv h.rA hN hl).mono ?_
 rintro e w' ⟨rfl,v1,v2,v3,u',hblk,hrow,o0,o1,o2,o3,hM,hg⟩;have hs:=hM.size;have keep:∀ {base size n:Nat} {e:TypeId} {u:Value} {xs:List Value},w.ownsRow base e size u n xs->e≠67->e≠91->(∀ k,u.ownBlock=some k->v.ownBlock≠some k)->w'.ownsRow base e size u n xs:=fun ho h1 h2 h3=>hM.owns ho fun k hk hS=>by
  rcases hS with q|q|q
  ·exact aY h.blk ho h1 (q ▸ hk)
  ·exact h3 k hk q
  ·exact bM ho h.rA h2 k hk q
 have hlen:(b.lA++[(v,l.length),(v1,l.length+1),(v2,l.length+2),(v3,l.length+3)]).length=b.lA.length+4:=by simp
 refine⟨rfl,u',[(v,l.length),(v1,l.length+1),(v2,l.length+2),(v3,l.length+3)],rfl, ?_,hM, ?_⟩
 ·refine⟨hblk,keep h.rI (by decide) (by decide) (fun k hk hv=>hf k hv (.inl hk)),keep h.rL (by decide) (by decide) (fun k hk hv=>hf k hv (.inr (.inl hk))),keep h.rT (by decide) (by decide) (fun k hk hv=>hf k hv (.inr (.inr (.inl hk)))), ?_,fun i p hp => ?_,fun i p hp => ?_,fun i p hp => ?_,fun i p hp => ?_,h.bb,bP h.bs hs, ?_⟩
  ·rw[hlen,gw]
   exact hrow
  ·exact⟨(h.eI i p hp).1,keep (h.eI i p hp).2 (by decide) (by decide) (fun k hk hv=>hf k hv (.inr (.inr (.inr (.inr (.inl ⟨p,dU hp,hk⟩))))))⟩
  ·exact⟨(h.eL i p hp).1,keep (h.eL i p hp).2 (by decide) (by decide) (fun k hk hv=>hf k hv (.inr (.inr (.inr (.inr (.inr (.inl ⟨p,dU hp,hk⟩)))))))⟩
  ·exact⟨(h.eT i p hp).1,keep (h.eT i p hp).2 (by decide) (by decide) (fun k hk hv=>hf k hv (.inr (.inr (.inr (.inr (.inr (.inr (.inl ⟨p,dU hp,hk⟩))))))))⟩
  ·rcases wu rfl i p hp with hp'|⟨t,ht,hi,hp'⟩
   ·exact⟨(h.eA i p hp').1,keep (h.eA i p hp').2 (by decide) (by decide) (fun k hk hv=>hf k hv (.inr (.inr (.inr (.inr (.inr (.inr (.inr ⟨p,dU hp',hk⟩))))))))⟩
   ·rw[hi,AT h.mN.2.2.2 ht]
    rcases (by omega:t=0\/t=1\/t=2\/t=3) with q|q|q|q<;>subst q<;>(simp at hp';subst hp')
    ·exact⟨by show l.length<=_;omega,obs o0 hb1⟩
    ·exact⟨by show l.length+1<=_;omega,obs o1 hb1⟩
    ·exact⟨by show l.length+2<=_;omega,obs o2 hb1⟩
    ·exact⟨by show l.length+3<=_;omega,obs o3 hb1⟩
  ·obtain⟨f1,f2,f3,f4⟩:=h.mN
   refine⟨f1,f2,f3, ?_⟩
   rw[hlen];omega
 ·intro k hk
  rcases hk with q|q|q|q|q|q|q|q
  ·exact .inl (.inl q)
  ·exact .inl (.inr (.inl q))
  ·exact .inl (.inr (.inr (.inl q)))
  ·rcases hg k q with e|e
   ·exact .inl (.inr (.inr (.inr (.inl e))))
   ·exact .inr (by omega)
  ·exact .inl (.inr (.inr (.inr (.inr (.inl q)))))
  ·exact .inl (.inr (.inr (.inr (.inr (.inr (.inl q))))))
  ·exact .inl (.inr (.inr (.inr (.inr (.inr (.inr (.inl q)))))))
  ·obtain⟨p,hp,hpk⟩:=q
   rcases fE.1 hp with hp|hp
   ·exact .inl (.inr (.inr (.inr (.inr (.inr (.inr (.inr (⟨p,hp,hpk⟩))))))))
   ·right
    simp at hp;rcases hp with rfl|rfl|rfl|rfl
    ·exact (o0.lt k hpk).1
    ·exact (o1.lt k hpk).1
    ·exact (o2.lt k hpk).1
    ·exact (o3.lt k hpk).1
def sj (w:World)(v:Value)(l:List (List UInt8)):Prop :=
 ∃ a c,v=.slice a l.length c/\∀ i x,l[i]?=some x->∃ g,a=some ⟨g,0,none⟩/\w.cell? ⟨g,i,none⟩=some (.string (bs x))
theorem sj.cM {l:List (List UInt8)}(h:w.ownsRow base 9 1 v l.length (eF l)):sj w v l:=by
 obtain⟨a,c,rfl⟩:=aM h;refine⟨a,c,rfl,fun i x hx => ?_⟩
 have hi:=(dI.1 hx).1;obtain⟨g,cap,hv, -, -⟩:=h.form (by omega)
 cases hv;refine⟨g,rfl, ?_⟩
 rw[ev h i (by omega)]
 unfold eF;rw[fe,hx];rfl
theorem Tx (a b:Value)(l:List (List UInt8))(w:World)(ha:sj w a l)(hb:sj w b l)(hl:l.length<=1000000000) :
  Calls prog 91 #[a,b] w fun e w'=>e=.returned (.bool true)/\∃ q,w'=w.drewN q:=by
 obtain⟨x,c,rfl,ha⟩:=ha;obtain⟨y,d,rfl,hb⟩:=hb;have HA:=ae ha;have HB:=ae hb;clear ha hb;go_enter func91,ntmps91;go_wp2_with fail;go_loopw [5] (fun i wr=>∃ k q:Nat,k<=l.length/\i=.int .i64 k/\wr=w.drewN q) (fun i _=>l.length-(intOf i).toNat)
 case atStart=>exact⟨0,0,bl _,rfl,rfl⟩
 case round =>
  obtain⟨k,q,hk,rfl,rfl⟩:=hrel;have hl0:(0:Int)<=(k:Int):=by omega
  by_cases hlt:k<l.length
  ·obtain⟨b1,rfl,c1⟩:=HA.out k _ (bU hlt)
   obtain⟨b2,rfl,c2⟩:=HB.out k _ (bU hlt);generalize l[k]=v at *;have hl1:(k:Int)<(l.length:Int):=by omega
   go_wp2_with fail;go_quiet (fail);go_wp2_with fail;exact⟨⟨k+1,_,by omega,by go_num,rfl⟩,by simp[intOf];omega⟩
  ·go_wp2_with fail
   go_ret;exact⟨rfl,q,rfl⟩
theorem Tw (xa ya:Option Addr)(ca cb:Nat)(l:List fY)(w:World)(ha:x8 w xa l)(hb:x8 w ya l)(hl:l.length<=1000000000) :
  Calls prog 104 #[.slice xa l.length ca,.slice ya l.length cb] w fun e w'=>e=.returned (.bool true)/\∃ q,w'=w.drewN q:=by
 have HA:=ae ha;have HB:=ae hb;clear ha hb;go_enter func104,ntmps104;go_wp2_with fail;go_loopw [5] (fun i wr=>∃ k q:Nat,k<=l.length/\i=.int .i64 k/\wr=w.drewN q) (fun i _=>l.length-(intOf i).toNat)
 case atStart=>exact⟨0,0,bl _,rfl,rfl⟩
 case round =>
  obtain⟨k,q,hk,rfl,rfl⟩:=hrel;have hl0:(0:Int)<=(k:Int):=by omega
  by_cases hlt:k<l.length
  ·obtain⟨b1,rfl,c1,c2,c3⟩:=HA.out k _ (bU hlt)
   obtain⟨b2,rfl,d1,d2,d3⟩:=HB.out k _ (bU hlt);generalize l[k]=v at *;have hl1:(k:Int)<(l.length:Int):=by omega
   go_wp2_with fail;go_quiet (fail);go_wp2_with fail;exact⟨⟨k+1,_,by omega,by go_num,rfl⟩,by simp[intOf];omega⟩
  ·go_wp2_with fail
   go_ret;exact⟨rfl,q,rfl⟩
structure Pr where
 q:Nat
 x:Nat
 y:Nat
 c:aq
 F:Nat->Prop
def eX (w:World)(p:Pr):Prop :=
 ∃ FX FY,w.heap[p.q]?=some (.cells #[p.x,p.y] 123)/\dM w FX p.x p.c/\cK w FY p.y p.c/\(∀ k,k=p.q\/FX k\/FY k->p.F k)/\((∀ k,FX k->¬ FY k)/\¬ FX p.q/\¬ FY p.q)/\∀ k,p.F k->k<w.heap.size
theorem eX.keep {p:Pr}(h:eX w p)(hk:∀ k,p.F k->w'.heap[k]?=w.heap[k]?):eX w' p:=by
 obtain⟨FX,FY,h1,h2,h3,h4,h5,h6⟩:=h;refine⟨FX,FY,(hk _ (h4 _ (.inl rfl))).trans h1, ?_,h3.keep fun k e=>hk k (h4 k (.inr (.inr e))),h4,h5,fun k e=>xj (h6 k e) (hk k e)⟩
 obtain⟨gs,cap,b,Fn,vr,va,vm,vb,vt,h2⟩:=h2;exact⟨gs,cap,b,Fn,vr,va,vm,vb,vt,h2.keep fun k e=>hk k (h4 k (.inr (.inl e)))⟩
structure kM (w0 w:World)(B:Nat)(x5:Value)(M:Nat)(b:Bk)(ps:List Pr)(vC vI vL vT vA:Value):Prop where
 book:ib w B (B+1) vC x5 b vI vL vT vA
 row:w.ownsRow (B+1) 104 1 vC ps.length (ps.map fun p=>Value.pointer (some ⟨p.q,0,none⟩))
 jd:∀ p∈ps,eX w p
 off:∀ p∈ps,∀ k,p.F k->B+1<=k/\¬ b.own vI vL vT vA k/\vC.ownBlock≠some k
 small:b.lI.length<=M/\b.lL.length<=M/\b.lT.length<=M/\b.lA.length<=M
 be:ai w0 w
 new:w0.heap.size<=B
 apart:ps.Pairwise (fun p q=>∀ k,p.F k->¬ q.F k)
def bZ (w0 w:World)(B:Nat)(x5:Value)(M:Nat)(ps:List Pr):Prop:=∃ b vC vI vL vT vA,kM w0 w B x5 M b ps vC vI vL vT vA
theorem Bk.lt {b:Bk}(h:ib w B base x0 x5 b vI vL vT vA){k:Nat}(hk:b.own vI vL vT vA k):k<w.heap.size:=by
 have key:∀ {base size n:Nat} {e:TypeId} {v:Value} {xs:List Value},w.ownsRow base e size v n xs->v.ownBlock=some k->k<w.heap.size:=fun hr e=>(dL.1 (bK hr e).choose_spec.1).1;rcases hk with q|q|q|q|⟨p,hp,q⟩|⟨p,hp,q⟩|⟨p,hp,q⟩|⟨p,hp,q⟩
 ·exact key h.rI q
 ·exact key h.rL q
 ·exact key h.rT q
 ·exact key h.rA q
 ·obtain⟨i,hi,rfl⟩:=List.getElem_of_mem hp
  exact key (h.eI i _ (bU hi)).2 q
 ·obtain⟨i,hi,rfl⟩:=List.getElem_of_mem hp
  exact key (h.eL i _ (bU hi)).2 q
 ·obtain⟨i,hi,rfl⟩:=List.getElem_of_mem hp
  exact key (h.eT i _ (bU hi)).2 q
 ·obtain⟨i,hi,rfl⟩:=List.getElem_of_mem hp
  exact key (h.eA i _ (bU hi)).2 q
theorem kM.below {b:Bk}{ps:List Pr}(h:kM w0 w B x5 M b ps vC vI vL vT vA)(hb:ai w w'):kM w0 w' B x5 M b ps vC vI vL vT vA where
 book:=h.book.keep hb.size fun k hk=>hb.block k (hk.elim (fun e=>by rw[e];exact (aQ h.book.blk)) (fun e=>Bk.lt h.book e))
 row:=aS h.row fun k _ hk=>hb.block k hk
 jd:=fun p hp=>(h.jd p hp).keep fun k hk=>hb.block k (by obtain⟨_,_,_,_,_,_,_,h6⟩:=h.jd p hp;exact h6 k hk)
 off:=h.off
 small:=h.small
 be:=h.be.trans (hb.mono h.be.size)
 new:=h.new
 apart:=h.apart
theorem kM.turned {b b':Bk}{ps:List Pr}{BX BY BW:Value}{e1 e2:TypeId}{s1 s2 n1 n2:Nat}{te tf:List Value}(h:kM w0 w B x5 M b ps vC vI vL vT vA)(kV:ib w' B (B+1) vC x5 b' oL BX BY BW)
  (hM:Moved w w' (fun k=>k=B\/v.ownBlock=some k\/u.ownBlock=some k)) (hu:w.ownsRow (B+1) e2 s2 u n2 tf) (huB:∀ k,u.ownBlock=some k->b.own vI vL vT vA k) (he2:e2≠104) (hv:w.ownsRow bv e1 s1 v n1 te) (he1:e1≠104) (hbv:∀ p∈ps,∀ k,p.F k->k<bv) (hB:B+1<=bv)
  (hown:∀ k,b'.own oL BX BY BW k->b.own vI vL vT vA k\/bv<=k) (hs:b'.lI.length<=M+4/\b'.lL.length<=M+4/\b'.lT.length<=M+4/\b'.lA.length<=M+4):kM w0 w' B x5 (M+4) b' ps vC oL BX BY BW where
 book:=kV
 row:=hM.owns h.row fun k hk hS=>by
  rcases hS with q|q|q
  ·exact aY h.book.blk h.row (by decide) (q ▸ hk)
  ·exact bM hv h.row he1 k q hk
  ·exact bM hu h.row he2 k q hk
 jd:=fun p hp=>(h.jd p hp).keep fun k hk=>hM.block k (by obtain⟨_,_,_,_,_,_,_,h6⟩:=h.jd p hp;exact h6 k hk) (fun hS=>by
  have ho:=h.off p hp k hk;rcases hS with q|q|q
  ·omega
  ·have:=(hv.lt k q).1
   have:=hbv p hp k hk;omega
  ·exact ho.2.1 (huB k q))
 off:=fun p hp k hk=>⟨(h.off p hp k hk).1,fun e=>by
  rcases hown k e with q|q
  ·exact (h.off p hp k hk).2.1 q
  ·have:=hbv p hp k hk
   omega,(h.off p hp k hk).2.2⟩
 small:=hs
 be:=h.be.trans (hM.jg (fun k q=>by
  have:=h.new;rcases q with q|q|q
  ·omega
  ·have:=(hv.lt k q).1
   omega
  ·have:=(hu.lt k q).1
   omega) h.be.size)
 new:=h.new
 apart:=h.apart
theorem T5 (l:List (List UInt8 × Bool)):nv l=eF (l.map Prod.fst):=by
 unfold nv;unfold eF;rw[List.map_map];rfl
theorem AR {ps:List Pr}{p:Pr}(h:bZ w0 w B x5 M ps)(hp:p∈ps)(hg:Good p.c E g)(hM:M<=1000000000) :
  Calls prog 43 #[B,p.q] w fun e w'=>e=.returned (.bool true)/\bZ w0 w' B x5 (M+4) ps:=by
 obtain⟨b,vC,vI,vL,vT,vA,h⟩:=h;obtain⟨FX,FY,hq,hX,hY,hF,i6,hlt⟩:=h.jd p hp;have hbl:=hg.aE;have q0:=au hq 0;have q1:=au hq 1;have HB:=ae (Lo hX hg.aE);have HY:=ae hY;have HL:=ae h;have jP:Hid (∀ p∈ps,∀ k,p.F k->k<w.heap.size):=ae fun p hp k hk=>by obtain⟨_,_,_,_,_,_,_,h6⟩:=h.jd p hp;exact h6 k hk
 clear hq hX hY hF i6 hlt h hg;go_enter func43,ntmps43;go_wp2_with fail;refine HB.out.mono ?_
 rintro e W1 ⟨v,rfl,hv,hb1⟩;rw[T5] at hv;obtain⟨av,cv,hvv⟩:=aM hv;subst hvv;have q1':=aF hb1 q1;have HV:=ae hv;have HT:=ae (S5 (HY.out.keep fun k hk=>hb1.block k (HY.out.lt' hk)) (by omega))
 clear hv q0;go_wp2_with fail;refine HT.out.mono ?_
 rintro e W2 ⟨v2,rfl,hv2,hb2⟩;obtain⟨qI,qK,AE⟩:=aM hv2;subst AE;have hlm:(p.c.aE.map Prod.fst).length=p.c.aE.length:=fF _;have sB:=hb1.trans (hb2.mono hb1.size);have AB:W2.ownsRow w.heap.size 9 1 (.slice av p.c.aE.length cv) p.c.aE.length (eF (p.c.aE.map Prod.fst)):=aS HV.out fun k _ hk=>hb2.block k hk;have HS:=ae (Tx (.slice av p.c.aE.length cv) (.slice qI p.c.aE.length qK) (p.c.aE.map Prod.fst) W2 (sj.cM (base:=w.heap.size) (by rw[hlm];exact AB)) (sj.cM (base:=W1.heap.size) (by rw[hlm];exact hv2)) (by omega))
 have HW2:=ae AB;clear hv2 AB q1 q1';go_wp2_with fail;refine HS.out.mono ?_
 rintro e W3 ⟨rfl,q9,rfl⟩;have hb3:ai w (W2.drewN q9):=aV sB q9;have hL3:=HL.out.below hb3;have hv3:(W2.drewN q9).ownsRow w.heap.size 9 1 (.slice av p.c.aE.length cv) (p.c.aE.map Prod.fst).length (eF (p.c.aE.map Prod.fst)):=by rw[hlm];exact HW2.out
 have hBl:B+1<=w.heap.size:=HL.out.book.bs;have HK:=ae (hL3.book.PF _ (p.c.aE.map Prod.fst) hv3 hBl (by have:=hb3.size;exact this) (fun k hk ho=>by
  have h1:=(hv3.lt k hk).1;have h2:=Bk.lt HL.out.book ho;omega) (by have:=hL3.small.2.2.1;omega) (by omega))
 have kL:=ae (aP hL3 hv3);clear hL3 hv3;go_wp2_with fail;refine HK.out.mono ?_
 rintro e W4 ⟨rfl,u',l4,hl4,kV,bI,hown⟩;have hfin:bZ w0 W4 B x5 (M+4) ps:=by
  obtain⟨s1,s2,s3,s4⟩:=kL.out.1.small;refine⟨_,vC,vI,vL,u',vA,kL.out.1.turned kV bI kL.out.1.book.rT (fun k e=>.inr (.inr (.inl e))) (by decide) kL.out.2 (by decide) jP.out hBl hown ⟨?_, ?_, ?_, ?_⟩⟩
  ·show b.lI.length<=M+4;omega
  ·show b.lL.length<=M+4;omega
  ·show (b.lT++l4).length<=M+4
   rw[bG];omega
  ·show b.lA.length<=M+4;omega
 have HF:=ae hfin;clear kV bI hown hfin;go_wp2_with fail;go_ret;exact⟨rfl,HF.out⟩
theorem FA {ps:List Pr}{p:Pr}(h:bZ w0 w B x5 M ps)(hp:p∈ps)(ht:p.c.told.length<=1000000000)(hM:M<=1000000000) :
  Calls prog 48 #[B,p.q] w fun e w'=>e=.returned (.bool true)/\bZ w0 w' B x5 (M+4) ps:=by
 obtain⟨b,vC,vI,vL,vT,vA,h⟩:=h;obtain⟨FX,FY,hq,hX,hY,hF,i6,hlt⟩:=h.jd p hp;have q0:=au hq 0;have q1:=au hq 1;have HB:=ae (Lm hX (by omega))
 obtain⟨br,ba,bm,vr,va,vm,vb,vt,vv,vc,hY⟩:=hY;obtain⟨at_,ct,lK,OB⟩:=yP hY.told;subst lK;have y4:=au hY.blk 4;have tr:=ae hY.told;have HL:=ae h;have jP:Hid (∀ p∈ps,∀ k,p.F k->k<w.heap.size):=ae fun p hp k hk=>by obtain⟨_,_,_,_,_,_,_,h6⟩:=h.jd p hp;exact h6 k hk
 clear hq hX hY hF i6 hlt h OB;go_enter func48,ntmps48;go_wp2_with fail;refine HB.out.mono ?_
 rintro e W1 ⟨v,rfl,hv,hb1⟩;obtain⟨av,cv,hvv,hva⟩:=yP hv;subst hvv;have q1':=aF hb1 q1;have U_:=aF hb1 y4;have HV:=ae hv;obtain⟨at2,Vr,OM,Fc⟩:=yP (aS tr.out fun k _ hk=>hb1.block k hk);cases OM;have HS:=ae (Tw av at_ cv ct p.c.told W1 hva Fc ht);clear hv hva Fc q0 q1 y4;go_wp2_with fail;refine HS.out.mono ?_
 rintro e W3 ⟨rfl,q9,rfl⟩;have hb3:ai w (W1.drewN q9):=aV hb1 q9;have hL3:=HL.out.below hb3;have hv3:(W1.drewN q9).ownsRow w.heap.size 113 3 (.slice av p.c.told.length cv) p.c.told.length (aJ (dj p.c.told)):=HV.out;have hBl:B+1<=w.heap.size:=HL.out.book.bs;have HK:=ae (hL3.book.PB _ p.c.told hv3 hBl (by have:=hb3.size;exact this) (fun k hk ho=>by
  have h1:=(hv3.lt k hk).1;have h2:=Bk.lt HL.out.book ho;omega) (by have:=hL3.small.2.2.2;omega) ht)
 have kL:=ae (aP hL3 hv3);clear hL3 hv3 q1' U_;go_wp2_with fail;refine HK.out.mono ?_
 rintro e W4 ⟨rfl,u',l4,hl4,kV,bI,hown⟩;have hfin:bZ w0 W4 B x5 (M+4) ps:=by
  obtain⟨s1,s2,s3,s4⟩:=kL.out.1.small;refine⟨_,vC,vI,vL,vT,u',kL.out.1.turned kV bI kL.out.1.book.rA (fun k e=>.inr (.inr (.inr (.inl e)))) (by decide) kL.out.2 (by decide) jP.out hBl hown ⟨?_, ?_, ?_, ?_⟩⟩
  ·show b.lI.length<=M+4;omega
  ·show b.lL.length<=M+4;omega
  ·show b.lT.length<=M+4;omega
  ·show (b.lA++l4).length<=M+4
   rw[bG];omega
 have HF:=ae hfin;clear kV bI hown hfin;go_wp2_with fail;go_ret;exact⟨rfl,HF.out⟩
theorem KA (d:Int)(h:dM w F x c)(hg:Good c E g)(hi : -9223372036854775808<=d/\d<=9223372036854775807) :
  ∃ (up:Bool) (ep:Int) (l:List Int) (code:Int),l.length<=1000 /\
   (Calls prog 20 #[x,.int .i64 d] w fun r w'=>∃ a c',r=.returned (.tuple #[.agg #[.bool up,.int .i64 ep,.slice a l.length c'],.int .i64 code])/\w'.ownsRow w.heap.size 3 1 (.slice a l.length c') l.length (aJ l)/\ai w w') /\
   ∀ (W:World) (FY:Nat->Prop) (y:Nat),cK W FY y c->Calls prog 102 #[.pointer (some ⟨y,0,none⟩),.int .i64 d] W fun r w'=>∃ a c',r=.returned (.tuple #[.agg #[.bool up,.int .i64 ep,.slice a l.length c'],.int .i64 code])/\bJ w' (.slice a l.length c') l/\ai W w':=by
 by_cases hd:dC d
 ·refine⟨(c.acc d).up,(c.acc d).ah,(c.acc d).af,0, ?_, ?_,fun W FY y hY => ?_⟩
  ·have h1:=e_ (hg.nodes.A d hd).af
   have h2:=hg.nodes.n5;omega
  ·refine (Lp d h hg hd).mono ?_
   rintro e w' ⟨vm,rfl,h1,h2⟩;obtain⟨a,c',rfl⟩:=aM h1;exact⟨a,c',rfl,h1,h2⟩
  ·refine (Sw d hY hg.nodes.n5 hd).mono ?_
   rintro e w' ⟨vm,rfl,h1,h2⟩;obtain⟨a,c',rfl⟩:=aM h1;exact⟨a,c',rfl,(bJ.cM h1).below h2,h2⟩
 ·refine⟨false,0,[],4,by simp, ?_,fun W FY y hY => ?_⟩
  ·refine (Lq d h hd hi).mono ?_
   rintro e w' ⟨rfl,h2⟩;exact⟨none,0,rfl,bE _ _ _ _,h2⟩
  ·refine (Sx d hY hg.nodes.n5 hd hi).mono ?_
   rintro e w' ⟨rfl,h2⟩;exact⟨none,0,rfl,⟨none,0,rfl,fun i hi=>absurd hi (Nat.not_lt_zero _)⟩,h2⟩
theorem TT (d:Int)(h:dM w F x c)(hg:Good c E g)(hi : -9223372036854775808<=d/\d<=9223372036854775807) :
  ∃ (up:Bool) (ep sl cm:Int) (l:List Int) (es:List aH) (code:Int),l.length<=1000/\es.length<=1000 /\
   (Calls prog 54 #[x,.int .i64 d] w fun r w'=>∃ a c' a2 c2,r=.returned (.tuple #[.agg #[.bool up,.int .i64 ep,.int .i64 sl,.int .i64 cm,.slice a l.length c',.slice a2 es.length c2],.int .i64 code])/\w'.ownsRow w.heap.size 3 1 (.slice a l.length c') l.length (aJ l)/\w'.ownsRow w.heap.size 42 5 (.slice a2 es.length c2) es.length (aJ (bk es))/\ai w w') /\
   ∀ (W:World) (FY:Nat->Prop) (y:Nat),cK W FY y c->Calls prog 97 #[.pointer (some ⟨y,0,none⟩),.int .i64 d] W fun r w'=>∃ a c' a2 c2,r=.returned (.tuple #[.agg #[.bool up,.int .i64 ep,.int .i64 sl,.int .i64 cm,.slice a l.length c',.slice a2 es.length c2],.int .i64 code])/\bJ w' (.slice a l.length c') l/\eM w' (.slice a2 es.length c2) es/\ai W w':=by
 by_cases hd:c.cN d
 ·have hwf:=hg.nodes.R d hd
  have h5:=hg.nodes.n5;refine⟨(c.bq d).up,(c.bq d).ah,(c.bq d).lock,((c.bq d).aU:Int),(c.bq d).af,(c.bq d).log,0, ?_, ?_, ?_,fun W FY y hY => ?_⟩
  ·have h1:=e_ hwf.af
   omega
  ·have:=hwf.log.1
   omega
  ·refine (Lz d h hg hd).mono ?_
   rintro e w' ⟨vm,vl,rfl,h1,h2,h3⟩;obtain⟨a,c',rfl⟩:=aM h1;obtain⟨a2,c2,rfl⟩:=aM h2;exact⟨a,c',a2,c2,rfl,h1,h2,h3⟩
  ·refine (SU d hY hg.nodes.n5 hd).mono ?_
   rintro e w' ⟨vm,vl,rfl,h1,h2,h3⟩;obtain⟨a,c',rfl⟩:=aM h1;obtain⟨a2,c2,rfl⟩:=aM h2;exact⟨a,c',a2,c2,rfl,(bJ.cM h1).below h3,(eM.cM h2).below h3,h3⟩
 ·refine⟨false,0,0,0,[],[],4,by simp,by simp, ?_,fun W FY y hY => ?_⟩
  ·refine (LA d h hd hi).mono ?_
   rintro e w' ⟨rfl,h2⟩;exact⟨none,0,none,0,rfl,bE _ _ _ _,bE _ _ _ _,h2⟩
  ·refine (SV d hY hg.nodes.n5 hd hi).mono ?_
   rintro e w' ⟨rfl,h2⟩;exact⟨none,0,none,0,rfl,⟨none,0,rfl,fun i hi=>absurd hi (Nat.not_lt_zero _)⟩,⟨none,0,rfl,fun i hi=>absurd hi (Nat.not_lt_zero _)⟩,h2⟩
theorem FB {ps:List Pr}{p:Pr}(d:Int)(h:bZ w0 w B x5 M ps)(hp:p∈ps)(hg:Good p.c E g)(hM:M<=1000000000)(hi : -9223372036854775808<=d/\d<=9223372036854775807) :
  Calls prog 47 #[B,p.q,.int .i64 d] w fun e w'=>e=.returned (.bool true)/\bZ w0 w' B x5 (M+4) ps:=by
 obtain⟨b,vC,vI,vL,vT,vA,h⟩:=h;obtain⟨FX,FY,hq,hX,hY,hF,i6,hlt⟩:=h.jd p hp;have q0:=au hq 0;have q1:=au hq 1;obtain⟨up,ep,l,code,hl,hc1,hc2⟩:=KA d hX hg hi;have HB:=ae hc1;have HR:=ae hc2;have HY:=ae hY;have HL:=ae h;have jP:Hid (∀ p∈ps,∀ k,p.F k->k<w.heap.size):=ae fun p hp k hk=>by obtain⟨_,_,_,_,_,_,_,h6⟩:=h.jd p hp;exact h6 k hk
 clear hq hX hY hF i6 hlt h hg hc1 hc2;go_enter func47,ntmps47;go_wp2_with fail;refine HB.out.mono ?_
 rintro e W1 ⟨av,cv,rfl,hv,hb1⟩;obtain⟨X1,hX1,kA,hM1⟩:=ch W1 #[.bool up,.int .i64 ep,.slice av l.length cv] 53;have pd:=hb1.trans (kA.mono hb1.size);have q1':=aF pd q1;have HV:=ae (aS hv fun k _ hk=>kA.block k hk);have HR2:=ae (HR.out X1 FY p.y (HY.out.keep fun k hk=>pd.block k (HY.out.lt' hk)));have yr:=ae hM1;have zP:W1.heap.size<X1.heap.size:=(aQ hM1);clear hv q0 q1 hM1;go_wp2_with fail;refine HR2.out.mono ?_
 rintro e W2 ⟨a2,c2,rfl,hv2,hb2⟩;obtain⟨X2,hX2,mR,hM2⟩:=ch W2 #[.bool up,.int .i64 ep,.slice a2 l.length c2] 53;have hbb:=hb2.trans (mR.mono hb2.size);have zW:=pd.trans (hbb.mono pd.size);have ox:=(hbb.block _ zP).trans yr.out;have hs2:=hb2.size;have hne1:¬ W1.heap.size=W2.heap.size:=by omega
 have hne2:¬ W2.heap.size=W1.heap.size:=by omega
 have b0:=aj ox 0;have b1:=aj ox 1;have b2:=aj ox 2;have d0:=aj hM2 0;have d1:=aj hM2 1;have d2:=aj hM2 2;have rB:=aS HV.out fun k _ hk=>hbb.block k hk;have HS:=ae (zh (.slice av l.length cv) (.slice a2 l.length c2) l X2 (bJ.cM rB) (hv2.below mR) (by omega))
 have qG:=ae rB;have vF:=ae (aP ox hM2);clear hv2 rB q1' ox hM2;go_wp2_with fail;refine HS.out.mono ?_
 rintro e W3 ⟨rfl,q9,rfl⟩;have hb3:ai w (X2.drewN q9):=aV zW q9;have hBl:B+1<=w.heap.size:=HL.out.book.bs;have HK:Hid (∀ W,W=(X2.drewN q9).drew->Calls prog 100 #[.pointer (some ⟨B,1,none⟩),.slice av l.length cv] W fun e w'=>e=.returned (.tuple #[])/\bZ w0 w' B x5 (M+4) ps/\w'.heap[W1.heap.size]?=some (.cells #[.bool up,.int .i64 ep,.slice av l.length cv] 53)/\w'.heap[W2.heap.size]?=some (.cells #[.bool up,.int .i64 ep,.slice a2 l.length c2] 53)):=ae fun W hW=>by
  subst hW;have hL3:=HL.out.below hb3.drew;have hv3:(X2.drewN q9).drew.ownsRow w.heap.size 3 1 (.slice av l.length cv) l.length (aJ l):=qG.out;refine (hL3.book.sM _ l hv3 hBl (by have:=hb3.size;exact this) (fun k hk ho=>by
   have h1:=(hv3.lt k hk).1;have h2:=Bk.lt HL.out.book ho;omega) (by have:=hL3.small.1;omega) (by omega)).mono ?_
  rintro e W4 ⟨rfl,u',l4,hl4,kV,bI,hown⟩;have hbx:∀ {k:Nat} {cs:Array Value},(X2.drewN q9).drew.heap[k]?=some (.cells cs 53)->W4.heap[k]?=some (.cells cs 53):=fun {k cs} e=>by
   refine (bI.block k (aQ e) fun hS => ?_).trans e
   rcases hS with q|q|q
   ·rw[q,hL3.book.blk] at e
    injection e with e
    injection e with e1 e2
    exact absurd e2 (by decide)
   ·exact aY e hv3 (by decide) q
   ·exact aY e hL3.book.rI (by decide) q
  refine⟨rfl, ?_,hbx vF.out.1,hbx vF.out.2⟩
  obtain⟨s1,s2,s3,s4⟩:=hL3.small;refine⟨_,vC,u',vL,vT,vA,hL3.turned kV bI hL3.book.rI (fun k e=>.inl e) (by decide) hv3 (by decide) jP.out hBl hown ⟨?_, ?_, ?_, ?_⟩⟩
  ·show (b.lI++l4).length<=M+4
   rw[bG];omega
  ·show b.lL.length<=M+4;omega
  ·show b.lT.length<=M+4;omega
  ·show b.lA.length<=M+4;omega
 go_wp2_with fail;go_region_held3 (fun w'=>w'.cell? (W1.heap.size,2)=some (.slice av l.length cv)) (first|assumption|(simp[go_sem, *];done))
  (first|(go_at_call 100;refine (HK.out _ rfl).mono ?_;rintro e W4 ⟨rfl,hfin,hm1,hm2⟩;have HF:=ae hfin;have z0:=aj hm1 0;have z1:=aj hm1 1;have z2:=aj hm1 2;have u0:=aj hm2 0;have u1:=aj hm2 1;clear hm1 hm2 hfin))
 all_goals (
  clear b0 b1 b2 d0 d1 d2;go_wp2_with fail;go_ret;exact⟨rfl,HF.out⟩)
theorem ME {b:Bk}{n:Nat}{xs:List Value}(h:ib w B base x0 x5 b vI vL vT vA)(h':ib w' B base x0 x5 { b with lI:=b.lI++l4 } oL vL vT vA)(hu:w'.ownsRow w.heap.size 42 5 u n xs) :
  ∀ k,u.ownBlock=some k->¬ ({ b with lI:=b.lI++l4 }:Bk).own oL vL vT vA k:=by
 intro k hk ho;rcases ho with q|q|q|q|⟨p,hp,q⟩|⟨p,hp,q⟩|⟨p,hp,q⟩|⟨p,hp,q⟩
 ·exact bM hu h'.rI (by decide) k hk q
 ·exact bM hu h'.rL (by decide) k hk q
 ·exact bM hu h'.rT (by decide) k hk q
 ·exact bM hu h'.rA (by decide) k hk q
 ·obtain⟨i,hi,rfl⟩:=List.getElem_of_mem hp
  exact bM hu (h'.eI i _ (bU hi)).2 (by decide) k hk q
 ·have h1:=(hu.lt k hk).1
  have h2:k<w.heap.size:=Bk.lt h (.inr (.inr (.inr (.inr (.inr (.inl ⟨p,hp,q⟩))))));omega
 ·obtain⟨i,hi,rfl⟩:=List.getElem_of_mem hp
  exact bM hu (h'.eT i _ (bU hi)).2 (by decide) k hk q
 ·obtain⟨i,hi,rfl⟩:=List.getElem_of_mem hp
  exact bM hu (h'.eA i _ (bU hi)).2 (by decide) k hk q
theorem FE {ps:List Pr}{p:Pr}(d:Int)(h:bZ w0 w B x5 M ps)(hp:p∈ps)(hg:Good p.c E g)(hM:M<=999999990)(hi : -9223372036854775808<=d/\d<=9223372036854775807) :
  Calls prog 46 #[B,p.q,.int .i64 d] w fun e w'=>e=.returned (.bool true)/\bZ w0 w' B x5 (M+8) ps:=by
 obtain⟨b,vC,vI,vL,vT,vA,h⟩:=h;obtain⟨FX,FY,hq,hX,hY,hF,i6,hlt⟩:=h.jd p hp;have q0:=au hq 0;have q1:=au hq 1;obtain⟨up,ep,sl,cm,l,es,code,hl,hes,hc1,hc2⟩:=TT d hX hg hi;have HB:=ae hc1;have HR:=ae hc2;have HY:=ae hY;have HL:=ae h;have jP:Hid (∀ p∈ps,∀ k,p.F k->k<w.heap.size):=ae fun p hp k hk=>by obtain⟨_,_,_,_,_,_,_,h6⟩:=h.jd p hp;exact h6 k hk
 clear hq hX hY hF i6 hlt h hg hc1 hc2;go_enter func46,ntmps46;go_wp2_with fail;refine HB.out.mono ?_
 rintro e W1 ⟨av,cv,al,cl,rfl,hv,hvl,hb1⟩;obtain⟨X1,hX1,kA,hM1⟩:=ch W1 #[.bool up,.int .i64 ep,.int .i64 sl,.int .i64 cm,.slice av l.length cv,.slice al es.length cl] 46;have pd:=hb1.trans (kA.mono hb1.size);have q1':=aF pd q1;have HV:=ae (aP (aS hv fun k _ hk=>kA.block k hk) (aS hvl fun k _ hk=>kA.block k hk));have HR2:=ae (HR.out X1 FY p.y (HY.out.keep fun k hk=>pd.block k (HY.out.lt' hk)));have yr:=ae hM1;have zP:W1.heap.size<X1.heap.size:=(aQ hM1);clear hv hvl q0 q1 hM1;go_wp2_with fail;refine HR2.out.mono ?_
 rintro e W2 ⟨a2,c2,a3,c3,rfl,hv2,hv3,hb2⟩;obtain⟨X2,hX2,mR,hM2⟩:=ch W2 #[.bool up,.int .i64 ep,.int .i64 sl,.int .i64 cm,.slice a2 l.length c2,.slice a3 es.length c3] 46;have hbb:=hb2.trans (mR.mono hb2.size);have zW:=pd.trans (hbb.mono pd.size);have ox:=(hbb.block _ zP).trans yr.out;have hs2:=hb2.size;have hne1:¬ W1.heap.size=W2.heap.size:=by omega
 have hne2:¬ W2.heap.size=W1.heap.size:=by omega
 have b4:=aj ox 4;have b5:=aj ox 5;have d4:=aj hM2 4;have d5:=aj hM2 5;have rB:=aS HV.out.1 fun k _ hk=>hbb.block k hk;have AA:=aS HV.out.2 fun k _ hk=>hbb.block k hk;have HS:=ae (zh (.slice av l.length cv) (.slice a2 l.length c2) l X2 (bJ.cM rB) (hv2.below mR) (by omega))
 have HS2:Hid (∀ q,Calls prog 99 #[.slice al es.length cl,.slice a3 es.length c3] (X2.drewN q) fun e w'=>e=.returned (.bool true)/\∃ q',w'=(X2.drewN q).drewN q'):=ae fun q=>LJ _ _ es _ ((eM.cM AA).below (aV (ax _ _) q)) ((hv3.below mR).below (aV (ax _ _) q)) (by omega)
 have qG:=ae (aP rB AA);have vF:=ae (aP ox hM2);clear hv2 hv3 rB AA q1' ox hM2;go_wp2_with fail;refine HS.out.mono ?_
 rintro e W3 ⟨rfl,q8,rfl⟩;go_wp2_with fail;refine (HS2.out q8).mono ?_
 rintro e W3 ⟨rfl,q9,rfl⟩;have hb3:ai w ((X2.drewN q8).drewN q9):=aV (aV zW q8) q9;have hBl:B+1<=w.heap.size:=HL.out.book.bs;have Eo:((X2.drewN q8).drewN q9).ownsRow w.heap.size 3 1 (.slice av l.length cv) l.length (aJ l)/\((X2.drewN q8).drewN q9).ownsRow w.heap.size 42 5 (.slice al es.length cl) es.length (aJ (bk es)):=qG.out;have zK:((X2.drewN q8).drewN q9).heap[W1.heap.size]?=some (.cells #[.bool up,.int .i64 ep,.int .i64 sl,.int .i64 cm,.slice av l.length cv,.slice al es.length cl] 46)/\((X2.drewN q8).drewN q9).heap[W2.heap.size]?=some (.cells #[.bool up,.int .i64 ep,.int .i64 sl,.int .i64 cm,.slice a2 l.length c2,.slice a3 es.length c3] 46):=vF.out;have e4:=au zK.1 4;generalize (X2.drewN q8).drewN q9=Y at *;have HK:Hid (∀ W,W=Y.drew->Calls prog 100 #[.pointer (some ⟨B,1,none⟩),.slice av l.length cv] W fun e w'=>e=.returned (.tuple #[])/\(∃ l4 u',kM w0 w' B x5 (M+4) { b with lI:=b.lI++l4 } ps vC u' vL vT vA)/\w'.ownsRow w.heap.size 42 5 (.slice al es.length cl) es.length (aJ (bk es))/\w'.heap[W1.heap.size]?=some (.cells #[.bool up,.int .i64 ep,.int .i64 sl,.int .i64 cm,.slice av l.length cv,.slice al es.length cl] 46)/\w'.heap[W2.heap.size]?=some (.cells #[.bool up,.int .i64 ep,.int .i64 sl,.int .i64 cm,.slice a2 l.length c2,.slice a3 es.length c3] 46)/\w.heap.size<=w'.heap.size):=ae fun W hW=>by
  subst hW;have hL3:=HL.out.below hb3.drew;have uI:Y.drew.ownsRow w.heap.size 3 1 (.slice av l.length cv) l.length (aJ l):=Eo.1;have hvl:Y.drew.ownsRow w.heap.size 42 5 (.slice al es.length cl) es.length (aJ (bk es)):=Eo.2;refine (hL3.book.sM _ l uI hBl (by have:=hb3.size;exact this) (fun k hk ho=>by
   have h1:=(uI.lt k hk).1;have h2:=Bk.lt HL.out.book ho;omega) (by have:=hL3.small.1;omega) (by omega)).mono ?_
  rintro e W4 ⟨rfl,u',l4,hl4,kV,bI,hown⟩;have hbx:∀ {k:Nat} {cs:Array Value},Y.drew.heap[k]?=some (.cells cs 46)->W4.heap[k]?=some (.cells cs 46):=fun {k cs} e=>by
   refine (bI.block k (aQ e) fun hS => ?_).trans e
   rcases hS with q|q|q
   ·rw[q,hL3.book.blk] at e
    injection e with e
    injection e with e1 e2
    exact absurd e2 (by decide)
   ·exact aY e uI (by decide) q
   ·exact aY e hL3.book.rI (by decide) q
  refine⟨rfl,⟨l4,u', ?_⟩,bI.owns hvl (fun k hk hS => ?_),hbx zK.1,hbx zK.2, ?_⟩
  ·obtain⟨s1,s2,s3,s4⟩:=hL3.small
   refine hL3.turned kV bI hL3.book.rI (fun k e=>.inl e) (by decide) uI (by decide) jP.out hBl hown ⟨?_, ?_, ?_, ?_⟩
   ·show (b.lI++l4).length<=M+4
    rw[bG];omega
   ·show b.lL.length<=M+4;omega
   ·show b.lT.length<=M+4;omega
   ·show b.lA.length<=M+4;omega
  ·rcases hS with q|q|q
   ·exact aY hL3.book.blk hvl (by decide) (q ▸ hk)
   ·exact bM hvl uI (by decide) k hk q
   ·exact bM hvl hL3.book.rI (by decide) k hk q
  ·have h1:=bI.size
   have h2:=hb3.size;exact bP h2 h1
 clear b4 b5 d4 d5;go_wp2_with fail;go_region_held3 (fun w'=>w'.cell? (W1.heap.size,4)=some (.slice av l.length cv)) (first|assumption|(simp[go_sem, *];done))
  (first|(go_at_call 100;refine (HK.out _ rfl).mono ?_;rintro e W4 ⟨rfl,hfin,dy,hm1,hm2,hsz⟩;have HF:=ae (aP hfin (aP dy (aP hm1 (aP hm2 hsz))));have z4:=aj hm1 4;have z5:=aj hm1 5;clear hm1 hm2 hfin dy hsz))
 all_goals (
  clear e4 HK;have IB:Hid (∀ W,W=W4.drew->Calls prog 101 #[.pointer (some ⟨B,1,none⟩),.slice al es.length cl] W fun e w'=>e=.returned (.tuple #[])/\bZ w0 w' B x5 (M+8) ps/\w'.heap[W1.heap.size]?=some (.cells #[.bool up,.int .i64 ep,.int .i64 sl,.int .i64 cm,.slice av l.length cv,.slice al es.length cl] 46)/\w'.heap[W2.heap.size]?=some (.cells #[.bool up,.int .i64 ep,.int .i64 sl,.int .i64 cm,.slice a2 l.length c2,.slice a3 es.length c3] 46)):=ae fun W hW=>by
   subst hW;obtain⟨⟨l4,u',hL4⟩,dy,hm1,hm2,hsz⟩:=HF.out;have hL5:=hL4.below (ax _ _).drew;have hvl:W4.drew.ownsRow w.heap.size 42 5 (.slice al es.length cl) es.length (aJ (bk es)):=dy;refine (hL5.book.PD _ es hvl hBl hsz (ME HL.out.book hL5.book hvl) (by have:=hL5.small.2.1;show b.lL.length<=_;have h9:b.lL.length<=M+4:=this;omega) (by omega)).mono ?_
   rintro e W6 ⟨rfl,v',m4,Ao,kV,bI,hown⟩;have hbx:∀ {k:Nat} {cs:Array Value},W4.drew.heap[k]?=some (.cells cs 46)->W6.heap[k]?=some (.cells cs 46):=fun {k cs} e=>by
    refine (bI.block k (aQ e) fun hS => ?_).trans e
    rcases hS with q|q|q
    ·rw[q,hL5.book.blk] at e
     injection e with e
     injection e with e1 e2
     exact absurd e2 (by decide)
    ·exact aY e hvl (by decide) q
    ·exact aY e hL5.book.rL (by decide) q
   refine⟨rfl, ?_,hbx hm1,hbx hm2⟩
   obtain⟨s1,s2,s3,s4⟩:=hL5.small;have s1':(b.lI++l4).length<=M+4:=s1;have s2':b.lL.length<=M+4:=s2;have s3':b.lT.length<=M+4:=s3;have Wp:b.lA.length<=M+4:=s4;refine⟨_,vC,u',v',vT,vA,hL5.turned kV bI hL5.book.rL (fun k e=>.inr (.inl e)) (by decide) hvl (by decide) jP.out hBl hown ⟨?_, ?_, ?_, ?_⟩⟩
   ·show (b.lI++l4).length<=M+4+4;omega
   ·show (b.lL++m4).length<=M+4+4
    rw[bG];omega
   ·show b.lT.length<=M+4+4;omega
   ·show b.lA.length<=M+4+4;omega
  go_wp2_with fail;go_region_held3 (fun w'=>w'.cell? (W1.heap.size,5)=some (.slice al es.length cl)) (first|assumption|(simp[go_sem, *];done))
   (first|(go_at_call 101;refine (IB.out _ rfl).mono ?_;rintro e W6 ⟨rfl,hfin,hm1,hm2⟩;have vD:=ae hfin;have y0:=aj hm1 0;have y1:=aj hm1 1;have y2:=aj hm1 2;have y3:=aj hm1 3;have y5:=aj hm1 5;have u0:=aj hm2 0;have u1:=aj hm2 1;have u2:=aj hm2 2;have u3:=aj hm2 3;clear hm1 hm2 hfin))
  all_goals (
   clear z4 z5;go_wp2_with fail;go_ret;exact⟨rfl,vD.out⟩))
end Go.Proofs.YtgieeeeeiggoeaaGreat
