import Derived.Test.YtgieeeeeiggoeaaGreatD41
import Derived.Test.YtgieeeeeiggoeaaGreatD42
set_option maxRecDepth 100000
set_option maxHeartbeats 8000000
namespace Go.Proofs.YtgieeeeeiggoeaaGreat
open Go.RowKit Go.Shelf
open Tryz
theorem pH.of {n:Nat}{E:Int}{r:aR}{own:Int}(h:gj n E r)(hn:n<=5)(hE:E<=2000):pH r own:=by
 obtain⟨h1,h2,_⟩:=(j0 _ _).1 h.af;have hl:=e_ h.af;exact⟨by omega,h2,fun x hx=>(h1 x hx).1,h.log.1,h.aU,fun y hy=>by have:=sP (h.log.2 y hy);omega,by have:=h.ah;omega⟩
theorem dW.rr' {w:World}{F:Nat->Prop}{y:Nat}{c:aq}{br ba bm:Nat->Nat}{vr va vm vb vt:Value}{vv vc:Nat->Value}(h:dW w F y c br ba bm vr va vm vb vt vv vc){i:Nat}(hi:i<c.aD.length):∃ um ul,RR w (br i) (c.bq i) um ul/\F (br i)/\bA F um/\bA F ul:=by
 obtain⟨um,ul,h1,h2,h3,h4,h5,h6⟩:=h.aD i hi;exact⟨um,ul,⟨h1,h2,h3⟩,h4,h5,h6⟩
theorem dW.F_ {w w':World}{F:Nat->Prop}{y:Nat}{c:aq}{br ba bm:Nat->Nat}{vr va vm vb vt:Value}{vv vc:Nat->Value}{i:Nat}{um ul xS xR:Value}{r:aR}(h:dW w F y c br ba bm vr va vm vb vt vv vc)(hi:i<c.aD.length)(hu:bA F um)(hl:bA F ul)(hR:RR w' (br i) r xS xR)(hM:Moved w w' (fun k=>k=br i))(g1:bO w um xS)(g2:bO w ul xR)(hb:F (br i)) :
  bH w F y (c.fJ i r) w':=by
 have hs:=hM.size;have Fj:∀ {u u':Value} {e:TypeId} {size n:Nat} {xs:List Value},bA F u->bO w u u'->w'.ownsRow 0 e size u' n xs->bA (Gr F w w') u':=fun hu g ho k hk=>by
  rcases g k hk with q|q
  ·exact .inl (hu k q)
  ·exact .inr ⟨q,(dL.1 (bK ho hk).choose_spec.1).1⟩
 exact⟨⟨br,ba,bm,vr,va,vm,vb,vt,vv,vc,h.Tk i hi r hM (fun k e=>.inl e) (Gr.lt h.lt hs) ⟨xS,xR,hR.blk,hR.hm,hR.hl,.inl hb,Fj hu g1 hR.hm,Fj hl g2 hR.hl⟩⟩,hM.wider (fun k e=>by rw[e];exact hb)⟩
theorem sR {w:World}{base:Nat}{e:TypeId}{size g n cap:Nat}{xs:List Value}(h:w.ownsRow base e size (.slice (some g) n cap) n xs)(j:Nat)(v:Value):(w.setCell ⟨g,j,none⟩ v).ownsRow base e size (.slice (some g) n cap) n (xs.set j v):=by
 obtain⟨hl,ho⟩:=h;rcases ho with ⟨h0,_⟩|⟨g',cap',cur,hv,hb,hg,hnc,hcm,hcs,htk⟩
 ·cases h0
 cases hv;refine⟨by rw[List.length_set];exact hl,.inr ⟨g,cap,cur.setIfInBounds j v,rfl,hb,bV _ _ _ _ _ _ hg,hnc,hcm,by rw[Array.size_setIfInBounds];exact hcs, ?_⟩⟩
 rw[Array.toList_setIfInBounds,List.take_set,htk]
theorem Sj (bm:Nat->Nat)(i b':Nat)(hi:i<2):(ec bm 0 2).set i (.pointer (some b'))=ec (fun j=>if j=i then b' else bm j) 0 2:=by
 have:i=0\/i=1:=by omega
 rcases this with rfl|rfl<;>rfl
theorem dW.FM {w w1:World}{F:Nat->Prop}{y:Nat}{c:aq}{br ba bm:Nat->Nat}{vr va vb vt:Value}{vv vc:Nat->Value}{gm cap:Nat}(h:dW w F y c br ba bm vr va (.slice (some gm) 2 cap) vb vt vv vc)(i:Nat)(hi:i<2)(s:aN)(b':Nat)(hb:ai w w1)(hS:ea (w1.setCell ⟨gm,i,none⟩ (.pointer (some b'))) (Gr F w (w1.setCell ⟨gm,i,none⟩ (.pointer (some b')))) b' (.slice none 0 0) s)(hnew:w.heap.size<=b') :
  bH w F y (c.ej (200+(i:Int)) s) (w1.setCell ⟨gm,i,none⟩ (.pointer (some b'))):=by
 have uo:F gm:=h.ft gm (.inr (.inr (.inr (.inr (.inr rfl)))));have hgl:=h.lt gm uo;have hM:Moved w (w1.setCell ⟨gm,i,none⟩ (.pointer (some b'))) (fun k=>k=gm):=((Moved.refl w (fun k=>k=gm)).below hb).setCell ⟨gm,i,none⟩ rfl _;have hT:rN w (fun k=>k=gm) [204]:=fun k hk _=>by
  rw[show k=gm from hk];exact⟨_,_,(bK h.rm (by rfl)).choose_spec.1,dg.2 rfl⟩
 have row:∀ {base size n:Nat} {e:TypeId} {v:Value} {xs:List Value},w.ownsRow base e size v n xs->e≠204->(w1.setCell ⟨gm,i,none⟩ (.pointer (some b'))).ownsRow base e size v n xs:=fun ho he=>hM.ve hT ho (fun q=>he (dg.1 q));have blk:∀ {b:Nat} {cs:Array Value} {t:TypeId},w.heap[b]?=some (.cells cs t)->t≠204->(w1.setCell ⟨gm,i,none⟩ (.pointer (some b'))).heap[b]?=w.heap[b]?:=fun hb ht=>(hM.tJ hT hb (fun q=>ht (dg.1 q))).trans hb.symm;have lists:∀ {e:TypeId},e=3\/e=42->e≠204:=fun q=>by rcases q with q|q<;>(rw[q];decide)
 have hF:∀ k,F k->Gr F w (w1.setCell ⟨gm,i,none⟩ (.pointer (some b'))) k:=fun k e=>.inl e;have Df:∀ j,j<2->bm j<w.heap.size:=fun j hj=>by
  obtain⟨_,_,_,_,q,_⟩:=h.dH j hj;exact (aQ q)
 refine⟨⟨br,ba,fun j=>if j=i then b' else bm j,vr,va,.slice (some gm) 2 cap,vb,vt,vv,fun j=>if j=i then .slice none 0 0 else vc j,⟨(blk h.blk (by decide)).trans h.blk,row h.rr (by decide),row h.ra (by decide), ?_,fun j hj => ?_,fun j hj => ?_,fun j hj => ?_,row h.aE (by decide),row h.told (by decide),fun k hk=>hF k (h.ft k hk),Gr.lt h.lt hM.size,⟨h.sizes.1, ?_⟩,h.k_,h.kZ,fun a b h1 h2 e => ?_,h.oG,fun a b k h1 h2 e1 e2 => ?_⟩⟩,hM.wider (fun k e=>by rw[e];exact uo)⟩
 ·rw[<- Sj bm i b' hi]
  exact sR (aS h.rm fun z _ hz=>hb.block z hz) i _
 ·obtain⟨_,_,q,_⟩:=h.aD j hj
  exact (h.aD j hj).keep hF (blk q (by decide)) (fun ho _ q=>row ho (lists q))
 ·obtain⟨_,q,_,_,_,vs,q2,_⟩:=h.di j hj
  refine (h.di j hj).keep hF (blk q (by decide)) (fun ho _ e => ?_)
  rcases e with e|e|e
  ·exact row ho (lists (.inl e))
  ·exact row ho (lists (.inr e))
  ·subst e
   exact hM.owns ho fun k hk hS=>bM q2 h.rm (by decide) k hk (by rw[hS];rfl)
 ·rw[FN c i j (by rw[h.sizes.2];exact hi) _]
  by_cases e:j=i
  ·subst e
   rw[if_pos rfl];simp only [if_true];exact hS
  ·rw[if_neg e]
   simp only [if_neg e];obtain⟨_,_,_,_,q,_,_,_,ws,_,q2,_⟩:=h.dH j hj;refine (h.dH j hj).keep hF (blk q (by decide)) (fun ho _ q4 => ?_)
   rcases q4 with q4|q4|q4
   ·exact row ho (lists (.inl q4))
   ·exact row ho (lists (.inr q4))
   ·subst q4
    exact hM.owns ho fun k hk hS=>bM q2 h.rm (by decide) k hk (by rw[hS];rfl)
 ·rw[<- h.sizes.2]
  exact List.length_set
 ·by_cases e1:a=i
  ·by_cases e2:b=i
   ·omega
   ·rw[if_pos e1,if_neg e2] at e
    have:=Df b h2;omega
  ·by_cases e2:b=i
   ·rw[if_neg e1,if_pos e2] at e
    have:=Df a h1;omega
   ·rw[if_neg e1,if_neg e2] at e
    exact h.qg a b h1 h2 e
 ·by_cases q1:a=i
  ·rw[if_pos q1] at e1
   exact absurd e1 eQ
  ·by_cases q2:b=i
   ·rw[if_pos q2] at e2
    exact absurd e2 eQ
   ·rw[if_neg q1] at e1
    rw[if_neg q2] at e2;exact h.oF a b k h1 h2 e1 e2
theorem dW.FL {w w1:World}{F:Nat->Prop}{y:Nat}{c:aq}{br ba bm:Nat->Nat}{vr va vb vt:Value}{vv vc:Nat->Value}{gm cap:Nat}(h:dW w F y c br ba bm vr va (.slice (some gm) 2 cap) vb vt vv vc)(i:Nat)(hi:i<2)(u:Bool)(n:Nat)(b':Nat)(hb:ai w w1)(hbl:w1.heap[b']?=some (.cells (oI u n) 206))(hnew:w.heap.size<=b') :
  bH w F y (c.ej (200+(i:Int)) (aN.still u n)) (w1.setCell ⟨gm,i,none⟩ (.pointer (some b'))):=by
 have hgl:=h.lt gm (h.ft gm (.inr (.inr (.inr (.inr (.inr rfl))))));have zT:b'<w1.heap.size:=(aQ hbl);exact h.FM i hi (aN.still u n) b' hb (ea.still ((cJ _ _ _ _ (by show b'≠gm;omega)).trans hbl) (.inr ⟨hnew,by simpa using zT⟩)) hnew
structure eY (w W:World)(F:Nat->Prop)(b:Nat)(jv:Value)(a:Acc)(vm vv:Value)(vs:List iG):Prop where
 blk:W.heap[b]?=some (.cells #[.bool a.up,.int .i64 a.ah,vm,vv] 203)
 own:bd W vm a.af
 fb:F b
 inf:bA (Fi F w) vm
 row:W.ownsRow 0 284 5 vv vs.length (vs.flatMap kh)
 inv:bA (Fi F w) vv
 ls:∀ t∈vs,bd W t.2.2.1 t.2.1.af/\bw W t.2.2.2 t.2.1.log/\bA (Fi F w) t.2.2.1/\bA (Fi F w) t.2.2.2 /\ -1<=t.1/\t.1<=65534
 is:oU vs a.aZ
 mv:Moved w W (fun k=>k=b\/jv.ownBlock=some k)
 gr:bO w jv vv
theorem eY.of {w:World}{F:Nat->Prop}{b:Nat}{vv:Value}{a:Acc}(h:jy w F b vv a):∃ vm vs,eY w w F b vv a vm vv vs:=by
 obtain⟨vm,h1,h2,h3,h4,vs,v1,v2,v3,v4⟩:=h;have hF:∀ k,F k->Fi F w k:=fun k e=>.inl e;exact⟨vm,vs,h1,h2,h3,h4.wider hF,v1,v2.wider hF,fun t ht=>⟨(v3 t ht).1,(v3 t ht).2.1,(v3 t ht).2.2.1.wider hF,(v3 t ht).2.2.2.1.wider hF,(v3 t ht).2.2.2.2⟩,v4,Moved.refl _ _,bO.refl _ _⟩
section
variable {w W:World} {F:Nat->Prop} {b:Nat} {jv:Value} {a:Acc} {vm vv:Value} {vs:List iG}
theorem eY.at (h:eY w W F b jv a vm vv vs):jy W (Gr F w W) b vv a :=
 ⟨vm,h.blk,h.own,.inl h.fb,h.inf.fit h.own,vs,h.row,h.inv.fit h.row,fun t ht=>⟨(h.ls t ht).1,(h.ls t ht).2.1,(h.ls t ht).2.2.1.fit (h.ls t ht).1,(h.ls t ht).2.2.2.1.fit (h.ls t ht).2.1,(h.ls t ht).2.2.2.2⟩,h.is⟩
theorem eY.below {W':World}(h:eY w W F b jv a vm vv vs)(hb:ai W W'):eY w W' F b jv a vm vv vs where
 blk:=(hb.block _ (aQ h.blk)).trans h.blk
 own:=aS h.own fun k _ hk=>hb.block k hk
 fb:=h.fb
 inf:=h.inf
 row:=aS h.row fun k _ hk=>hb.block k hk
 inv:=h.inv
 ls:=fun t ht=>⟨aS (h.ls t ht).1 fun k _ hk=>hb.block k hk,aS (h.ls t ht).2.1 fun k _ hk=>hb.block k hk,(h.ls t ht).2.2⟩
 is:=h.is
 mv:=h.mv.below hb
 gr:=h.gr
theorem eY.fin {W':World}{v:Value}{ms:List aK}(h:eY w W F b jv a vm vv vs)(hb:ai W W')(hm:a_ W' w.heap.size v ms):nr w F b jv (.returned v) W' (a,ms) :=
 ⟨v,vv,rfl,(h.below hb).at,hm,(h.below hb).mv,h.gr⟩
theorem eY.other (h:eY w W F b jv a vm vv vs){g j:Nat}{cs:Array Value}{T:TypeId}(hg:W.heap[g]?=some (.cells cs T))(hT:T≠3/\T≠42/\T≠203)(hw:w.heap.size<=g)(hv:vv.ownBlock≠some g)(u:Value):eY w (W.setCell ⟨g,j,none⟩ u) F b jv a vm vv vs where
 blk:=(cJ _ _ _ _ (by
  show b≠g;intro e;subst e;rw[h.blk] at hg;injection hg with hg
  injection hg with _ q
  exact hT.2.2 q.symm)).trans h.blk
 own:=bu (a:=⟨g,j,none⟩) h.own (aY hg h.own hT.1.symm) _
 fb:=h.fb
 inf:=h.inf
 row:=bu (a:=⟨g,j,none⟩) h.row hv _
 inv:=h.inv
 ls:=fun t ht=>⟨bu (a:=⟨g,j,none⟩) (h.ls t ht).1 (aY hg (h.ls t ht).1 hT.1.symm) _,bu (a:=⟨g,j,none⟩) (h.ls t ht).2.1 (aY hg (h.ls t ht).2.1 hT.2.1.symm) _,(h.ls t ht).2.2⟩
 is:=h.is
 mv:=⟨h.mv.os,h.mv.tape,h.mv.output,by simpa using h.mv.size,fun k hk hS=>(cJ _ _ _ _ (by show k≠g;omega)).trans (h.mv.block k hk hS)⟩
 gr:=h.gr
theorem eY.BJ (h:eY w W F b jv a vm vv vs)(e:Int):eY w (W.setCell ⟨b,1,none⟩ (.int .i64 e)) F b jv { a with ah:=e } vm vv vs where
 blk:=bV _ _ _ _ _ _ h.blk
 own:=bu (a:=⟨b,1,none⟩) h.own (aY h.blk h.own (by decide)) _
 fb:=h.fb
 inf:=h.inf
 row:=bu (a:=⟨b,1,none⟩) h.row (aY h.blk h.row (by decide)) _
 inv:=h.inv
 ls:=fun t ht=>⟨bu (a:=⟨b,1,none⟩) (h.ls t ht).1 (aY h.blk (h.ls t ht).1 (by decide)) _,bu (a:=⟨b,1,none⟩) (h.ls t ht).2.1 (aY h.blk (h.ls t ht).2.1 (by decide)) _,(h.ls t ht).2.2⟩
 is:=h.is
 mv:=h.mv.setCell ⟨b,1,none⟩ (.inl rfl) _
 gr:=h.gr
theorem eY.xK (h:eY w W F b jv a vm vv vs){v:Value}{l:List Int}(ho:bd W v l)(hf:bA (Fi F w) v):eY w (W.setCell ⟨b,2,none⟩ v) F b jv { a with af:=l } v vv vs where
 blk:=bV _ _ _ _ _ _ h.blk
 own:=bu (a:=⟨b,2,none⟩) ho (aY h.blk ho (by decide)) _
 fb:=h.fb
 inf:=hf
 row:=bu (a:=⟨b,2,none⟩) h.row (aY h.blk h.row (by decide)) _
 inv:=h.inv
 ls:=fun t ht=>⟨bu (a:=⟨b,2,none⟩) (h.ls t ht).1 (aY h.blk (h.ls t ht).1 (by decide)) _,bu (a:=⟨b,2,none⟩) (h.ls t ht).2.1 (aY h.blk (h.ls t ht).2.1 (by decide)) _,(h.ls t ht).2.2⟩
 is:=h.is
 mv:=h.mv.setCell ⟨b,2,none⟩ (.inl rfl) _
 gr:=h.gr
theorem Mz : ∀ (vs:List iG) (j:Nat) (u:iG),j<vs.length->(((((vs.flatMap kh).set (j*5) (.int .i64 u.1)).set (j*5+1) (.int .i64 u.2.1.promise)).set (j*5+2) (.int .i64 u.2.1.ak)).set (j*5+3) u.2.2.1).set (j*5+4) u.2.2.2=(vs.set j u).flatMap kh:=by
 intro vs;induction vs with
 | nil=>intro j u h;simp at h
 | cons a r ih =>
  intro j u h;cases j with
  | zero=>rfl
  | succ j =>
   have e:∀ t,(j+1)*5+t=j*5+t+5:=fun t=>by omega
   have e0:(j+1)*5=j*5+5:=by omega
   have:=ih j u (by simpa using h)
   rw[ir,List.flatMap_cons,List.flatMap_cons, <- this,e0];rw[show j*5+5+1=j*5+1+5 by omega,show j*5+5+2=j*5+2+5 by omega,show j*5+5+3=j*5+3+5 by omega,show j*5+5+4=j*5+4+5 by omega]
   rfl
theorem eY.G_ {g cap j:Nat}(h:eY w W F b jv a vm (.slice (some g) vs.length cap) vs){t u:iG}(hj:vs[j]?=some t)(hu:u.1=t.1)(h1:bd W u.2.2.1 u.2.1.af)(h2:bw W u.2.2.2 u.2.1.log)(f1:bA (Fi F w) u.2.2.1)(f2:bA (Fi F w) u.2.2.2) :
  eY w (((((W.setCell ⟨g,j*5,none⟩ (.int .i64 u.1)).setCell ⟨g,j*5+1,none⟩ (.int .i64 u.2.1.promise)).setCell ⟨g,j*5+2,none⟩ (.int .i64 u.2.1.ak)).setCell ⟨g,j*5+3,none⟩ u.2.2.1).setCell ⟨g,j*5+4,none⟩ u.2.2.2) F b jv { a with aZ:=upd a.aZ u.1 u.2.1 } vm (.slice (some g) vs.length cap) (vs.set j u):=by
 have hjl:=(dI.1 hj).1;have hr:=sR (sR (sR (sR (sR h.row (j*5) (.int .i64 u.1)) (j*5+1) (.int .i64 u.2.1.promise)) (j*5+2) (.int .i64 u.2.1.ak)) (j*5+3) u.2.2.1) (j*5+4) u.2.2.2;rw[Mz vs j u hjl] at hr;have hM:Moved W (((((W.setCell ⟨g,j*5,none⟩ (.int .i64 u.1)).setCell ⟨g,j*5+1,none⟩ (.int .i64 u.2.1.promise)).setCell ⟨g,j*5+2,none⟩ (.int .i64 u.2.1.ak)).setCell ⟨g,j*5+3,none⟩ u.2.2.1).setCell ⟨g,j*5+4,none⟩ u.2.2.2) (fun k=>k=g) :=
  (((((Moved.refl W (fun k=>k=g)).setCell ⟨g,j*5,none⟩ rfl _).setCell ⟨g,j*5+1,none⟩ rfl _).setCell ⟨g,j*5+2,none⟩ rfl _).setCell ⟨g,j*5+3,none⟩ rfl _).setCell ⟨g,j*5+4,none⟩ rfl _
 generalize ((((W.setCell ⟨g,j*5,none⟩ (.int .i64 u.1)).setCell ⟨g,j*5+1,none⟩ (.int .i64 u.2.1.promise)).setCell ⟨g,j*5+2,none⟩ (.int .i64 u.2.1.ak)).setCell ⟨g,j*5+3,none⟩ u.2.2.1).setCell ⟨g,j*5+4,none⟩ u.2.2.2=W' at *;have row:∀ {base size n:Nat} {e:TypeId} {v:Value} {xs:List Value},W.ownsRow base e size v n xs->e≠284->W'.ownsRow base e size v n xs:=fun ho he=>hM.owns ho fun k hk hS=>bM ho h.row he k hk (by rw[show k=g from hS];rfl)
 refine⟨(hM.block b (aQ h.blk) (fun e=>aY h.blk h.row (by decide) (by rw[show b=g from e];rfl))).trans h.blk,row h.own (by decide),h.fb,h.inf,by rw[List.length_set];exact hr,h.inv,fun z hz => ?_,h.is.set hj hu,h.mv.trans hM (fun k hk e => ?_),h.gr⟩
 ·rcases List.mem_or_eq_of_mem_set hz with q|q
  ·exact⟨row (h.ls z q).1 (by decide),row (h.ls z q).2.1 (by decide),(h.ls z q).2.2⟩
  ·subst q
   exact⟨row h1 (by decide),row h2 (by decide),f1,f2,by rw[hu];exact (h.ls t (dU hj)).2.2.2.2⟩
 ·rcases h.gr g rfl with q|q
  ·exact .inr (by rw[show k=g from e];exact q)
  ·have:k=g:=e
   omega
theorem xJ {W:World}{g j n cap:Nat}{ys:List Value}{c0 c1 c2 c3 c4:Value}(hr:W.ownsRow 0 284 5 (.slice (some g) n cap) n ys){base size k:Nat}{e:TypeId}{v:Value}{xs:List Value}(h:W.ownsRow base e size v k xs)(he:e≠284) :
  (((((W.setCell ⟨g,j*5,none⟩ c0).setCell ⟨g,j*5+1,none⟩ c1).setCell ⟨g,j*5+2,none⟩ c2).setCell ⟨g,j*5+3,none⟩ c3).setCell ⟨g,j*5+4,none⟩ c4).ownsRow base e size v k xs:=by
 have hM:Moved W (((((W.setCell ⟨g,j*5,none⟩ c0).setCell ⟨g,j*5+1,none⟩ c1).setCell ⟨g,j*5+2,none⟩ c2).setCell ⟨g,j*5+3,none⟩ c3).setCell ⟨g,j*5+4,none⟩ c4) (fun k=>k=g) :=
  (((((Moved.refl W (fun k=>k=g)).setCell ⟨g,j*5,none⟩ rfl _).setCell ⟨g,j*5+1,none⟩ rfl _).setCell ⟨g,j*5+2,none⟩ rfl _).setCell ⟨g,j*5+3,none⟩ rfl _).setCell ⟨g,j*5+4,none⟩ rfl _
 exact hM.owns h fun k hk hS=>bM h hr he k hk (by rw[show k=g from hS];rfl)
theorem Pg : (prog.info? 284).map (fun i=>(i.zero,i.size,i.bytes))=some (some (.agg #[(),(),(),true,true]),5,72):=by kernel_rfl
theorem eY.CT {g:Nat}{u:iG}(h:eY w W F b jv a vm vv vs)(hg:W.heap[g]?=some (.cells (kh u).toArray 284))(hn:∀ t∈vs,t.1≠u.1)(hu : -1<=u.1/\u.1<=65534)(h1:bd W u.2.2.1 u.2.1.af)(h2:bw W u.2.2.2 u.2.1.log)(f1:bA (Fi F w) u.2.2.1)(f2:bA (Fi F w) u.2.2.2)(hl:vs.length<=65536) :
  ∃ g' cap W1,(∀ ty,(Builtin.append_ #[201,201] ty #[vv,.slice (some g) 1 1]).run prog W=.ok (.slice (some ⟨g',0,none⟩) (vs.length+1) cap) W1)/\W1.heap[b]?=some (.cells #[.bool a.up,a.ah,vm,vv] 203)/\eY w (W1.setCell ⟨b,3,none⟩ (.slice (some ⟨g',0,none⟩) (vs.length+1) cap)) F b jv { a with aZ:=upd a.aZ u.1 u.2.1 } vm (.slice (some ⟨g',0,none⟩) (vs.length+1) cap) (vs++[u])/\Moved W W1 (fun k=>vv.ownBlock=some k):=by
 obtain⟨b1,e1,hv1⟩:=aM h1;obtain⟨b2,e2,hv2⟩:=aM h2;obtain⟨g',cap,W1,hr,ho,hgr,ek⟩:=vZ (t:=201) Pg underlying201 rfl (by decide) W 0 vv vs.length (vs.flatMap kh) (kh u) g h.row hg rfl (by intro z hz;unfold kh at hz;rw[hv1,hv2] at hz;simp at hz;rcases hz with rfl|rfl|rfl|rfl|rfl<;>rfl) (by omega) (by omega) (bl _)
 have hM:Moved W W1 (fun k=>vv.ownBlock=some k):=(Moved.refl W _).grown hgr (fun k _ e=>e);have hb1:W1.heap[b]?=some (.cells #[.bool a.up,a.ah,vm,vv] 203):=(hM.block b (aQ h.blk) (aY h.blk h.row (by decide))).trans h.blk
 have row:∀ {base size n:Nat} {e:TypeId} {v:Value} {xs:List Value},W.ownsRow base e size v n xs->e≠284->e≠203->(W1.setCell ⟨b,3,none⟩ (.slice (some ⟨g',0,none⟩) (vs.length+1) cap)).ownsRow base e size v n xs:=fun ho he he2=>by
  have:=hM.owns ho fun k hk hS=>bM ho h.row he k hk hS;exact bu (a:=⟨b,3,none⟩) this (aY hb1 this he2) _
 have cj:Moved w W1 (fun k=>k=b\/jv.ownBlock=some k):=h.mv.trans hM (fun k hk e=>by
  rcases h.gr k e with q|q
  ·exact .inr q
  ·omega)
 have key:∀ k,(Value.slice (some ⟨g',0,none⟩) (vs.length+1) cap).ownBlock=some k->vv.ownBlock=some k\/W.heap.size<=k:=fun k hk=>by
  have:g'=k:=by simpa [Value.ownBlock] using hk
  subst this;exact ek.imp id (fun q=>by omega)
 refine⟨g',cap,W1,hr,hb1,⟨bV _ _ _ _ _ _ hb1,row h.own (by decide) (by decide),h.fb,h.inf, ?_,fun k hk => ?_,fun z hz => ?_,h.is.snoc hn,cj.setCell ⟨b,3,none⟩ (.inl rfl) _,fun k hk => ?_⟩,hM⟩
 ·rw[bG,List.flatMap_append]
  have:=bu (a:=⟨b,3,none⟩) ho (aY hb1 ho (by decide)) (.slice (some ⟨g',0,none⟩) (vs.length+1) cap)
  simpa using this
 ·rcases key k hk with q|q
  ·exact h.inv k q
  ·exact .inr (by have:=h.mv.size;omega)
 ·rcases fE.1 hz with q|q
  ·exact⟨row (h.ls z q).1 (by decide) (by decide),row (h.ls z q).2.1 (by decide) (by decide),(h.ls z q).2.2⟩
  ·rw[dg] at q
   subst q;exact⟨row h1 (by decide) (by decide),row h2 (by decide) (by decide),f1,f2,hu⟩
 ·rcases key k hk with q|q
  ·exact h.gr k q
  ·exact .inr (by have:=h.mv.size;omega)
end
end Go.Proofs.YtgieeeeeiggoeaaGreat
namespace Go.Proofs.YtgieeeeeiggoeaaGreat
open Go.RowKit Go.Shelf
open Tryz
def aq.turn (c:aq)(d:Int)(tu:Bool):aq × Int:=if tu then c.cF d else c.dc d
theorem RR.up {V:World}{b:Nat}{r:aR}{vm vl:Value}(h:RR V b r vm vl)(u:Bool):RR (V.setCell b (.bool u)) b { r with up:=u } vm vl :=
 ⟨bV _ _ _ _ _ _ h.blk,bu (a:=⟨b,0,none⟩) h.hm (aY h.blk h.hm (by decide)) _,bu (a:=⟨b,0,none⟩) h.hl (aY h.blk h.hl (by decide)) _⟩
theorem UE {c:aq}{i:Nat}{tu:Bool}(hi:i<c.aD.length)(hu:(c.bq i).up = !tu):c.turn i tu=(c.fJ i (if tu then (c.bq i).cF i else (c.bq i).dc),0):=by
 have hr:c.cN (i:Int):=⟨by omega,by omega⟩
 have hup:c.cO (i:Int)=some (!tu):=by unfold aq.cO;rw[if_pos hr,hu]
 unfold aq.turn;cases tu
 ·simp only [Bool.false_eq_true,if_false]
  unfold aq.dc;rw[hup];simp only [Bool.not_false];rw[if_pos hr]
 ·simp only [if_true]
  unfold aq.cF;rw[hup];simp only [Bool.not_true];rw[if_pos hr]
theorem UB {c:aq}{i:Nat}{tu:Bool}(hn:c.aD.length<=5)(hi:i<3)(hu:(c.acc (100+(i:Int))).up = !tu):c.turn (100+(i:Int)) tu=(c.iu (100+(i:Int)) { c.acc (100+(i:Int)) with up:=tu },0):=by
 have hr:¬ c.cN (100+(i:Int)):=fun e=>by have:=e.2;omega
 have ha:dC (100+(i:Int)):=by unfold dC;omega
 have hup:c.cO (100+(i:Int))=some (!tu):=by unfold aq.cO;rw[if_neg hr,if_pos ha,hu]
 unfold aq.turn;cases tu
 ·simp only [Bool.false_eq_true,if_false]
  unfold aq.dc;rw[hup];simp only [Bool.not_false];rw[if_neg hr,if_pos ha]
 ·simp only [if_true]
  unfold aq.cF;rw[hup];simp only [Bool.not_true];rw[if_neg hr,if_pos ha]
theorem UC {c:aq}{i:Nat}{tu:Bool}(hn:c.aD.length<=5)(hi:i<2)(hu:(c.aX (200+(i:Int))).up = !tu):c.turn (200+(i:Int)) tu=(c.ej (200+(i:Int)) (aN.still tu (c.aX (200+(i:Int))).begun),0):=by
 have hr:¬ c.cN (200+(i:Int)):=fun e=>by have:=e.2;omega
 have ha:¬ dC (200+(i:Int)):=fun e=>by have:=e.2;omega
 have hm:b8 (200+(i:Int)):=by unfold b8;omega
 have hup:c.cO (200+(i:Int))=some (!tu):=by unfold aq.cO;rw[if_neg hr,if_neg ha,if_pos hm,hu]
 unfold aq.turn;cases tu
 ·simp only [Bool.false_eq_true,if_false]
  unfold aq.dc;rw[hup];simp only [Bool.not_false];rw[if_neg hr,if_neg ha]
 ·simp only [if_true]
  unfold aq.cF;rw[hup];simp only [Bool.not_true];rw[if_neg hr,if_neg ha]
theorem UD {c:aq}{d:Int}{tu:Bool}(hu:c.cO d=none):c.turn d tu=(c,4):=by
 unfold aq.turn aq.dc aq.cF;rw[hu];cases tu<;>rfl
theorem BV {c:aq}{d:Int}{tu:Bool}(hu:c.cO d=some tu):c.turn d tu=(c,5):=by
 unfold aq.turn aq.dc aq.cF;rw[hu];cases tu<;>rfl
theorem GJ {w:World}{F:Nat->Prop}{y:Nat}{c:aq}{E:Int}{g:Gh}(d:Int)(tu:Bool)(h:cK w F y c)(hg:Good c E g)(hi : -9223372036854775808<=d/\d<=9223372036854775807) :
  Calls prog 143 #[y,.int .i64 d,.bool tu] w fun r w'=>r=.returned (.int .i64 (c.turn d tu).2)/\bH w F y (c.turn d tu).1 w':=by
 have HA:=ae h;have hn:=hg.nodes.n5;have HU:=ae (sW d h hn hi);obtain⟨br,ba,bm,vr,va,vm,vb,vt,vv,vc,hI⟩:=h;obtain⟨ar,cr,dp⟩:=aM hI.rr;subst dp;have c0:=au hI.blk 0;have c1:=au hI.blk 1;have c2:=au hI.blk 2;have HK:Hid (∀ q,Calls prog 133 #[y,.int .i64 d] (w.drewN q) fun e w'=>e=.returned (.tuple #[.int .i64 (cE c.aD.length d).1,.int .i64 (cE c.aD.length d).2])/\w'=w.drewN q):=ae fun q=>mB y c.aD.length _ cr d (w.drewN q) c0 hn hi;rcases who c d hn with ⟨i,hil,rfl,hk,hu⟩|⟨i,hil,rfl,hk,hu⟩|⟨i,hil,rfl,hk,hu⟩|⟨hk,hu⟩
 ·rw[hk] at HK
  rw[hu] at HU;by_cases hsame:(c.bq i).up=tu
  ·have HV:Hid (c.turn (i:Int) tu=(c,5)):=ae (BV (by rw[hu,hsame]))
   rw[hsame] at HU;have hbb:(tu == tu)=true:=by cases tu<;>rfl
   clear hI hk hu hsame;go_enter func143,ntmps143;go_wp2_with fail;refine HU.out.mono ?_
   rintro e W ⟨rfl,q,rfl⟩;go_wp2_with fail;go_ret;rw[HV.out];exact⟨rfl,bH.still HA.out (aV (ax _ _) q)⟩
  ·have hup:(c.bq i).up = !tu:=by cases h1:(c.bq i).up<;>cases tu<;>simp_all
   have HV:=ae (UE (tu:=tu) hil hup);rw[hup] at HU;obtain⟨g1,cap,hv,hgl,hcell⟩:=hI.v_ hil;cases hv;obtain⟨um,ul,hR,sE,Az,qf⟩:=hI.rr' hil;have hf:=pH.of (own:=i) (hg.nodes.R i ⟨by omega,by omega⟩) hn hg.nodes.jM
   have hi1:(i:Int)<(c.aD.length:Int):=by omega
   have hi0:(0:Int)<=(i:Int):=by omega
   have hbb:((!tu) == tu)=false:=by cases tu<;>rfl
   have HF:Hid (∀ W r',RR W (br i) r' um ul->Moved w W (fun k=>k=br i)->bH w F y (c.fJ i r') W):=ae fun W r' hR' hM'=>hI.F_ hil Az qf hR' hM' (bO.refl _ _) (bO.refl _ _) sE;obtain⟨am,cm,dG⟩:=aM hR.hm;subst dG;obtain⟨al,cl,hvl⟩:=aM hR.hl;subst hvl;have hbl:br i<w.heap.size:=(aQ hR.blk);generalize hrr:c.bq i=r at *;have r0:=au hR.blk 0;have r5:=au hR.blk 5;have r6:=au hR.blk 6;have r3:=au hR.blk 3;have r4:=au hR.blk 4;have f0:=aW hR.blk 0;have f6:=aW hR.blk 6;have HR2:Hid (∀ q,RR (((w.drewN q).setCell ⟨br i,0,none⟩ (.bool tu)).setCell ⟨br i,6,none⟩ (.int .i64 (r.base:Int))) (br i) { r with up:=tu,aU:=r.base } (.slice am r.af.length cm) (.slice al r.log.length cl)/\Moved w (((w.drewN q).setCell ⟨br i,0,none⟩ (.bool tu)).setCell ⟨br i,6,none⟩ (.int .i64 (r.base:Int))) (fun k=>k=br i)):=ae fun q=>⟨((hR.below (aV (ax _ _) q)).up tu).aU r.base,(((Moved.refl w (fun k=>k=br i)).below (aV (ax _ _) q)).setCell ⟨br i,0,none⟩ rfl _).setCell ⟨br i,6,none⟩ rfl _⟩
   have HS:Hid (∀ q,Calls prog 175 #[.pointer (some ⟨br i,0,none⟩),.int .i64 (i:Int)] (((w.drewN q).setCell ⟨br i,0,none⟩ (.bool tu)).setCell ⟨br i,6,none⟩ (.int .i64 (r.base:Int))) fun e w'=>e=.returned (.tuple #[.int .i64 (ed r.af i),.bool (r.live i)])/\∃ q2,w'=(((w.drewN q).setCell ⟨br i,0,none⟩ (.bool tu)).setCell ⟨br i,6,none⟩ (.int .i64 (r.base:Int))).drewN q2):=ae fun q=>by
    have:=sV (br i) { r with up:=tu,aU:=r.base } _ _ (i:Int) _ (HR2.out q).1.ka hf.ml
    rw[xg hf.nd] at this;exact this
   have hRs:Hid (r.cF (i:Int)={ r with up:=true,aU:=if r.live (i:Int)/\bS r.af (i:Int)=none then r.log.length else r.base }):=ae rfl
   have VL:Hid (r.dc={ r with up:=false,aU:=r.base }):=ae rfl
   have hlr:=fun hm:(i:Int)∈r.af=>AO hf.nd hm;have hwr:IntKind.i64.wrap ((r.af.length:Int)-1)=(r.af.length:Int)-1:=by have:=hf.ml;rw[dV];omega
   have hrg:=xD r.af (i:Int) r.af.length;have hro:j_ r.af (i:Int) r.af.length=ed r.af (i:Int):=rfl;rw[hro] at hrg;have hml:=hf.ml;clear hI hk hu hsame hup hR hf hro;have yg:Hid (∀ q q2,bH w F y (c.fJ i { r with up:=tu,aU:=r.base }) ((((w.drewN q).setCell ⟨br i,0,none⟩ (.bool tu)).setCell ⟨br i,6,none⟩ (.int .i64 (r.base:Int))).drewN q2)):=ae fun q q2=>HF.out _ _ ((HR2.out q).1.below (aV (ax _ _) q2)) ((HR2.out q).2.mX (aV (ax _ _) q2) (aG _))
   have Iw:Hid (∀ q q2,bH w F y (c.fJ i { r with up:=tu,aU:=r.log.length }) (((((w.drewN q).setCell ⟨br i,0,none⟩ (.bool tu)).setCell ⟨br i,6,none⟩ (.int .i64 (r.base:Int))).drewN q2).setCell ⟨br i,6,none⟩ (.int .i64 (r.log.length:Int)))):=ae fun q q2=>HF.out _ _ (((HR2.out q).1.below (aV (ax _ _) q2)).aU r.log.length) (((HR2.out q).2.mX (aV (ax _ _) q2) (aG _)).setCell ⟨br i,6,none⟩ rfl _)
   cases tu with
   | false =>
    clear hlr hrg;go_enter func143,ntmps143;go_wp2_with fail;refine HU.out.mono ?_
    rintro e W ⟨rfl,q,rfl⟩;go_wp2_with fail;refine (HK.out q).mono ?_
    rintro e W ⟨rfl,rfl⟩;go_wp2_with fail;refine (HS.out q).mono ?_
    rintro e W ⟨rfl,q2,rfl⟩;go_wp2_with fail;go_ret;rw[HV.out];exact⟨rfl,yg.out q q2⟩
   | true =>
    cases hlv:r.live (i:Int) with
    | false =>
     have tq:Hid (r.cF (i:Int)={ r with up:=true,aU:=r.base }):=ae (by rw[hRs.out,if_neg (by rw[hlv];simp)])
     rw[hlv] at HS;clear hlr hrg;go_enter func143,ntmps143;go_wp2_with fail;refine HU.out.mono ?_
     rintro e W ⟨rfl,q,rfl⟩;go_wp2_with fail;refine (HK.out q).mono ?_
     rintro e W ⟨rfl,rfl⟩;go_wp2_with fail;refine (HS.out q).mono ?_
     rintro e W ⟨rfl,q2,rfl⟩;go_wp2_with fail;go_ret;rw[HV.out];simp only [if_true];rw[tq.out];exact⟨rfl,yg.out q q2⟩
    | true =>
     have hmem:(i:Int)∈r.af:=by
      unfold aR.live at hlv;rw[Bool.and_eq_true,jt] at hlv;exact hlv.1
     have hl2:=hlr hmem;rw[hlv] at HS;by_cases hR:ed r.af (i:Int)=(r.af.length:Int)-1
     ·have tq:Hid (r.cF (i:Int)={ r with up:=true,aU:=r.log.length }):=ae (by rw[hRs.out,if_pos ⟨hlv,hl2.1 hR⟩])
      generalize ed r.af (i:Int)=R at *;have hR':(R == (r.af.length:Int)-1)=true:=by simp[hR]
      clear hlr hrg hl2 hR;go_enter func143,ntmps143;go_wp2_with fail;refine HU.out.mono ?_
      rintro e W ⟨rfl,q,rfl⟩;go_wp2_with fail;refine (HK.out q).mono ?_
      rintro e W ⟨rfl,rfl⟩;go_wp2_with fail;refine (HS.out q).mono ?_
      rintro e W ⟨rfl,q2,rfl⟩;go_wp2_with fail;go_ret;rw[HV.out];simp only [if_true];rw[tq.out];exact⟨rfl,Iw.out q q2⟩
     ·have tq:Hid (r.cF (i:Int)={ r with up:=true,aU:=r.base }):=ae (by rw[hRs.out,if_neg (fun e=>hR (hl2.2 e.2))])
      generalize ed r.af (i:Int)=R at *;have hR':(R == (r.af.length:Int)-1)=false:=by simp[hR]
      clear hlr hrg hl2 hR;go_enter func143,ntmps143;go_wp2_with fail;refine HU.out.mono ?_
      rintro e W ⟨rfl,q,rfl⟩;go_wp2_with fail;refine (HK.out q).mono ?_
      rintro e W ⟨rfl,rfl⟩;go_wp2_with fail;refine (HS.out q).mono ?_
      rintro e W ⟨rfl,q2,rfl⟩;go_wp2_with fail;go_ret;rw[HV.out];simp only [if_true];rw[tq.out];exact⟨rfl,yg.out q q2⟩
 ·rw[hk] at HK
  rw[hu] at HU;by_cases hsame:(c.acc (100+(i:Int))).up=tu
  ·have HV:Hid (c.turn (100+(i:Int)) tu=(c,5)):=ae (BV (by rw[hu,hsame]))
   rw[hsame] at HU;have hbb:(tu == tu)=true:=by cases tu<;>rfl
   clear hI hk hu hsame;go_enter func143,ntmps143;go_wp2_with fail;refine HU.out.mono ?_
   rintro e W ⟨rfl,q,rfl⟩;go_wp2_with fail;go_ret;rw[HV.out];exact⟨rfl,bH.still HA.out (aV (ax _ _) q)⟩
  ·have hup:(c.acc (100+(i:Int))).up = !tu:=by cases h1:(c.acc (100+(i:Int))).up<;>cases tu<;>simp_all
   have HV:=ae (UB (tu:=tu) hn hil hup);rw[hup] at HU;obtain⟨g1,cap,hv,hgl,hcell⟩:=hI.yV hil;subst hv;obtain⟨um,hb,hm1,sE,ux,lK⟩:=hI.di i hil;have hi1:(i:Int)<3:=by omega
   have hi0:(0:Int)<=(i:Int):=by omega
   have hbb:((!tu) == tu)=false:=by cases tu<;>rfl
   have r0:=au hb 0;have f0:=aW hb 0;have OL:=lK;obtain⟨H0,qv,_⟩:=OL;have HF:Hid (∀ q,bH w F y (c.iu (100+(i:Int)) { c.acc (100+(i:Int)) with up:=tu }) ((w.drewN q).setCell ⟨ba i,0,none⟩ (.bool tu))):=ae fun q=>by
    have hM:Moved w ((w.drewN q).setCell ⟨ba i,0,none⟩ (.bool tu)) (fun k=>k=ba i\/(vv i).ownBlock=some k):=((Moved.refl w _).below (aV (ax _ _) q)).setCell ⟨ba i,0,none⟩ (.inl rfl) _;have hM1:Moved w ((w.drewN q).setCell ⟨ba i,0,none⟩ (.bool tu)) (fun k=>k=ba i):=((Moved.refl w (fun k=>k=ba i)).below (aV (ax _ _) q)).setCell ⟨ba i,0,none⟩ rfl _;have keep:∀ {base size n:Nat} {e:TypeId} {v:Value} {xs:List Value},w.ownsRow base e size v n xs->e≠203->((w.drewN q).setCell ⟨ba i,0,none⟩ (.bool tu)).ownsRow base e size v n xs:=fun ho he=>hM1.owns ho fun k hk hS=>aY hb ho he (hS ▸ hk);refine⟨⟨br,ba,bm,_,_,vm,vb,vt,_,vc,hI.CQ i hil _ (vv i) hM (fun k e=>.inl e) (Gr.lt hI.lt hM.size) ⟨um,bV _ _ _ _ _ _ hb,keep hm1 (by decide),.inl sE,ux.wider (fun k e=>.inl e),lK.keep (fun k e=>.inl e) (fun ho _ e => ?_)⟩ (fun k e=>.inl e)⟩,hM1.wider (fun k e=>by rw[e];exact sE)⟩
    rcases e with e|e|e
    ·exact keep ho (by rw[e];decide)
    ·exact keep ho (by rw[e];decide)
    ·subst e
     exact hM1.owns ho fun k hk hS=>aY hb qv (by decide) (hS ▸ hk)
   clear hI hk hu hsame hup hb hm1 lK qv;go_enter func143,ntmps143;go_wp2_with fail;refine HU.out.mono ?_
   rintro e W ⟨rfl,q,rfl⟩;go_wp2_with fail;refine (HK.out q).mono ?_
   rintro e W ⟨rfl,rfl⟩;go_wp2_with fail;go_ret;rw[HV.out];exact⟨rfl,HF.out q⟩
 ·rw[hk] at HK
  rw[hu] at HU;by_cases hsame:(c.aX (200+(i:Int))).up=tu
  ·have HV:Hid (c.turn (200+(i:Int)) tu=(c,5)):=ae (BV (by rw[hu,hsame]))
   rw[hsame] at HU;have hbb:(tu == tu)=true:=by cases tu<;>rfl
   clear hI hk hu hsame;go_enter func143,ntmps143;go_wp2_with fail;refine HU.out.mono ?_
   rintro e W ⟨rfl,q,rfl⟩;go_wp2_with fail;go_ret;rw[HV.out];exact⟨rfl,bH.still HA.out (aV (ax _ _) q)⟩
  ·have hup:(c.aX (200+(i:Int))).up = !tu:=by cases h1:(c.aX (200+(i:Int))).up<;>cases tu<;>simp_all
   have HV:=ae (UC (tu:=tu) hn hil hup);rw[hup] at HU;obtain⟨g1,cap,hv,hgl,hcell⟩:=hI.tE hil;subst hv;obtain⟨_,_,_,_,hb,_⟩:=hI.dH i hil;have hi1:(i:Int)<2:=by omega
   have hi0:(0:Int)<=(i:Int):=by omega
   have hbb:((!tu) == tu)=false:=by cases tu<;>rfl
   have r1:=au hb 1;have hgc:w.heap[g1]?=some (.cells (bK hI.rm (by rfl)).choose 204):=(bK hI.rm (by rfl)).choose_spec.1
   have HF:Hid (∀ q,bH w F y (c.ej (200+(i:Int)) (aN.still tu (c.aX (200+(i:Int))).begun)) (((w.drewN q).alloc (.cells (oI tu (c.aX (200+(i:Int))).begun) 206)).setCell ⟨g1,i,none⟩ (.pointer (some w.heap.size)))):=ae fun q=>hI.FL i hil tu _ w.heap.size ((aV (ax _ _) q).alloc (aG _) _) (hnw _ _) (aG _);have vD:Hid (∀ q q2,bH w F y (c.ej (200+(i:Int)) (aN.still tu (c.aX (200+(i:Int))).begun)) ((((w.drewN q).alloc (.cells (oI tu (c.aX (200+(i:Int))).begun) 206)).drewN q2).setCell ⟨g1,i,none⟩ (.pointer (some w.heap.size)))):=ae fun q q2=>hI.FL i hil tu _ w.heap.size (aV ((aV (ax _ _) q).alloc (aG _) _) q2) (hnw _ _) (aG _);have z1:∀ q o,((w.drewN q).alloc o).cell? ⟨g1,i,none⟩=some (.pointer (some ⟨bm i,0,none⟩)):=fun q o=>aF ((aV (ax _ _) q).alloc (aG _) o) hcell;have z2:∀ q o,((w.drewN q).alloc o).frozen? ⟨g1,i,none⟩=false:=fun q o=>aW ((((aV (ax _ w) q).alloc (aG _) o).block _ hgl).trans hgc) i;have z3:∀ q o,((w.drewN q).alloc o).cell? (y,2)=some (.slice (some g1) 2 cap):=fun q o=>aF ((aV (ax _ _) q).alloc (aG _) o) c2;have mixed:prog.follows Departure.mixedOrders=true:=by kernel_rfl
   unfold oI at HF vD;generalize (c.aX (200+(i:Int))).begun=bg at *;clear hI hk hu hsame hup hb hgc;go_enter func143,ntmps143;go_wp2_with fail;refine HU.out.mono ?_
   rintro e W ⟨rfl,q,rfl⟩;go_wp2_with fail;refine (HK.out q).mono ?_
   rintro e W ⟨rfl,rfl⟩;go_wp2_with fail;go_region;go_wp2_with fail;go_ret;rw[HV.out];refine⟨rfl, ?_⟩
   first
    | exact HF.out _
    | exact vD.out _ _
    | (simp only [World.drew_drewN];exact HF.out _)
    | trace_state
 ·rw[hk] at HK
  rw[hu] at HU;have HV:Hid (c.turn d tu=(c,4)):=ae (UD hu);clear hI hk hu;go_enter func143,ntmps143;go_wp2_with fail;refine HU.out.mono ?_
  rintro e W ⟨rfl,q,rfl⟩;go_wp2_with fail;go_ret;rw[HV.out];exact⟨rfl,bH.still HA.out (aV (ax _ _) q)⟩
def ij (w:World)(F:Nat->Prop)(b:Nat)(vv:Value)(e:Ending)(w':World)(p:aN × List aK):Prop :=
 ∃ v v',e=.returned v/\ea w' (Gr F w w') b v' p.1/\a_ w' w.heap.size v p.2/\Moved w w' (fun k=>k=b\/vv.ownBlock=some k)/\∀ k,v'.ownBlock=some k->vv.ownBlock=some k\/w.heap.size<=k
theorem ea.pM {w:World}{F:Nat->Prop}{b:Nat}{vv:Value}{s:aN}(h:ea w F b vv s):b<w.heap.size:=by
 obtain⟨_,_,_,_,q,_⟩:=h;exact (aQ q)
theorem ea.below {w W:World}{F:Nat->Prop}{b:Nat}{vv:Value}{s:aN}(h:ea w F b vv s)(hb:ai w W):ea W F b vv s :=
 h.keep (fun _ e=>e) (hb.block _ h.pM) (fun ho _ _=>aS ho fun k _ hk=>hb.block k hk)
theorem ij.before {w W w':World}{F:Nat->Prop}{b:Nat}{vv:Value}{e:Ending}{p:aN × List aK}(h:ij W F b vv e w' p)(hb:ai w W):ij w F b vv e w' p:=by
 obtain⟨v,v',rfl,h1,h2,h3,h4⟩:=h;exact⟨v,v',rfl,h1.keep (Gr.before hb.size) rfl (fun ho _ _=>ho),h2.base hb.size,((Moved.refl w _).below hb).trans h3 (fun _ _ e=>e),fun k e=>(h4 k e).imp id (fun q=>bP hb.size q)⟩
theorem ij.still {w w':World}{F:Nat->Prop}{b:Nat}{vv:Value}{s:aN}(h:ea w F b vv s)(hb:ai w w'):ij w F b vv (.returned true) w' (s,[]) :=
 ⟨_,vv,rfl,(h.below hb).keep (fun _ e=>Gr.old e) rfl (fun ho _ _=>ho),a_.nil _ _,(Moved.refl w _).below hb,fun _ e=>.inl e⟩
theorem dW.RI {w w':World}{F:Nat->Prop}{y:Nat}{c:aq}{br ba bm:Nat->Nat}{vr va vm vb vt:Value}{vv vc:Nat->Value}{i:Nat}{e:Ending}{p:aN × List aK}(h:dW w F y c br ba bm vr va vm vb vt vv vc)(hi:i<2)(hA:ij w F (bm i) (vc i) e w' p) :
  ∃ v,e=.returned v/\a_ w' w.heap.size v p.2/\bH w F y (c.ej (200+(i:Int)) p.1) w':=by
 obtain⟨v,v',rfl,h1,h2,h3,h4⟩:=hA;obtain⟨_,_,_,_,_,_,q1,_,_,_,_,q2,_⟩:=h.dH i hi;exact⟨v,rfl,h2,⟨br,ba,bm,vr,va,vm,vb,vt,vv,_,h.QM i hi p.1 v' h3 (fun k e=>.inl e) (Gr.lt h.lt h3.size) h1 h4⟩,h3.wider (fun k e=>by
  rcases e with e|e
  ·rw[e];exact q1
  ·exact q2 k e)⟩
theorem d_.kP {n:Nat}{E:Int}{s:aN}(h:d_ n E s)(hn:n<=5):s.came.length<=5:=by
 by_cases e:s.does=5
 ·have h1:=h.few.2.1 e
  have h2:=e_ (h.af (by omega))
  omega
 ·have:=h.few.1 e
  omega
theorem d_.oW {n:Nat}{E:Int}{s:aN}(h:d_ n E s)(hn:n<=5):s.all.length<=5:=by
 unfold aN.all;split
 ·simp
 ·rename_i e
  have:=e_ (h.old (by omega))
  omega
 ·rename_i e
  have:=e_ (h.af (by omega))
  omega
 ·simp
theorem Pk {w:World}{base g:Nat}(l:List Int)(hg:w.heap[g]?=some (.cells (aJ l).toArray 3))(hb:base<=g)(hl:l.length<=100):w.ownsRow base 3 1 (.slice (some g) l.length l.length) l.length (aJ l) :=
 ⟨by simp[aJ],.inr ⟨g,l.length,_,rfl,hb,hg,aG _,by unfold maxLen;omega,by simp[aJ],by simp[aJ,List.take_of_length_le]⟩⟩
theorem qx (b:Nat)(vc:Value)(s:aN)(F:Nat->Prop)(w:World)(h:ea w F b vc s)(hd:s.does<=6) :
  Calls prog 176 #[b] w fun e w'=>∃ v,e=.returned v/\bd w' v s.all/\ai w w':=by
 obtain⟨vw,vo,vm,vl,hb,⟨hw,ho,hm,hl⟩, -⟩:=h;have HO:=ae (aP ho hm);obtain⟨ao,co,OK⟩:=aM ho;subst OK;obtain⟨am,cm,dG⟩:=aM hm;subst dG;have c2:=aj hb 2;have c6:=aj hb 6;have c7:=aj hb 7;have HA:Hid (s.all=match s.does with|0=>[] | 2=>s.old|5=>s.af|_=>[100,101,102]):=ae rfl
 clear hb hw ho hm hl;have key:s.does=0\/s.does=2\/s.does=5\/(s.does=1\/s.does=3\/s.does=4\/s.does=6):=by omega
 rcases key with e|e|e|e
 ·rw[e] at c2 HA
  have c2':w.cell? (b,2)=some (.int .i64 0):=c2;clear c2;go_enter func176,ntmps176;go_wp2_with fail;go_ret;rw[HA.out];exact⟨_,rfl,bd.nil _,ax _ _⟩
 ·rw[e] at c2 HA
  have c2':w.cell? (b,2)=some (.int .i64 2):=c2;clear c2;go_enter func176,ntmps176;go_wp2_with fail;go_ret;rw[HA.out];exact⟨_,rfl,HO.out.1,ax _ _⟩
 ·rw[e] at c2 HA
  have c2':w.cell? (b,2)=some (.int .i64 5):=c2;clear c2;go_enter func176,ntmps176;go_wp2_with fail;go_ret;rw[HA.out];exact⟨_,rfl,HO.out.2,ax _ _⟩
 ·have HV:Hid (s.all=[100,101,102]):=ae (by rcases e with e|e|e|e<;>(rw[HA.out,e];rfl))
  clear HA;rcases e with e|e|e|e
  all_goals (
   rw[e] at c2;simp at c2;go_enter func176,ntmps176;go_wp2_with fail;go_ret;rw[HV.out];exact⟨_,rfl,Pk (base:=0) [100,101,102] (hnw _ _) (bl _) (by simp),(ax _ _).alloc (aG _) _⟩)
theorem Re : ∀ (vs:List gy) (k:Nat) (u:gy),vs[k]?=some u->∀ t,t<10->(vs.flatMap cd)[k*10+t]?=(cd u)[t]?:=by
 intro vs;induction vs with
 | nil=>intro k u hu;simp at hu
 | cons a r ih =>
  intro k u hu t ht;have hl:(cd a).length=10:=rfl;rw[List.flatMap_cons];cases k with
  | zero =>
   simp at hu;subst hu;rw[Nat.zero_mul,fh,List.getElem?_append_left (by omega)]
  | succ k =>
   rw[kH (by omega),hl,show (k+1)*10+t-10=k*10+t by omega]
   exact ih k u (by simpa using hu) t ht
theorem zf {w:World}{base:Nat}{vv:Value}{vs:List gy}{n k:Nat}{u:gy}(h:w.ownsRow base 134 10 vv n (vs.flatMap cd))(hn:vs.length=n)(hk:vs[k]?=some u) :
  ∃ g cap,vv=.slice (some ⟨g,0,none⟩) n cap/\∀ t,t<10->w.cell? ⟨g,k*10+t,none⟩=(cd u)[t]?:=by
 have hkl:k<vs.length:=(dI.1 hk).1;obtain⟨g,cap,hv, -, -⟩:=h.form (by omega)
 subst hv;refine⟨g,cap,rfl,fun t ht => ?_⟩
 rw[ev h (k*10+t) (by omega)]
 exact Re vs k u hk t ht
theorem qy (b:Nat)(vc:Value)(s:aN)(F:Nat->Prop)(x:Int)(w:World)(h:ea w F b vc s)(hl:s.came.length<=5) :
  Calls prog 177 #[b,.int .i64 x] w fun e w'=>e=.returned (.bool (s.du x))/\w'=w:=by
 obtain⟨vw,vo,vm,vl,hb, -, -, -,ws,hws,hrow, -, -⟩:=h;obtain⟨ac,cc,OH⟩:=aM hrow;subst OH;have c9:=aj hb 9;have hwl:ws.length=s.came.length:=by rw[<- hws,fF]
 have HR:=ae hrow;have HS:Hid (s.du x=s.came.any (fun m=>decide (m.src=x))):=ae rfl;have hat:∀ (k:Nat) (u:gy),ws[k]?=some u->s.came[k]?=some u.1:=fun k u hu=>by rw[<- hws,fe,hu];rfl
 have Ik:=ae hat;clear hb hrow hws hat;go_enter func177,ntmps177;go_wp2_with fail;go_loopw [5] (fun i wr=>∃ k:Nat,k<=s.came.length/\i=.int .i64 k/\wr=w/\∀ j m,j<k->s.came[j]?=some m->m.src≠x) (fun i _=>s.came.length-(intOf i).toNat)
 case atStart=>exact⟨0,bl _,rfl,rfl,fun j m hj=>by omega⟩
 case round =>
  obtain⟨k,hk,rfl,rfl,hno⟩:=hrel;have HN:=ae hno;clear hno;by_cases hlt:k<s.came.length
  ·have hk0:(0:Int)<=(k:Int):=by omega
   have hk1:(k:Int)<(s.came.length:Int):=by omega
   obtain⟨u,hu⟩:∃ u,ws[k]?=some u:=⟨_,bU (by omega)⟩
   obtain⟨g,cap,hv,hc⟩:=zf HR.out hwl hu;cases hv;have k1:wr.cell? ⟨g,k*10+1,none⟩=some (.int .i64 u.1.src):=hc 1 (by omega)
   have HU:=ae (Ik.out k u hu);clear hc hu;by_cases he:u.1.src=x
   ·have H:Hid (s.du x=true):=ae (by rw[HS.out,List.any_eq_true];exact⟨u.1,dU HU.out,by simp[he]⟩)
    have rn:(u.1.src == x)=true:=by simp[he]
    go_wp2_with fail;go_ret;exact⟨by rw[H.out];rfl,rfl⟩
   ·have rn:(u.1.src == x)=false:=by simp[he]
    go_wp2_with fail;go_roundw
    case rel =>
     refine⟨k+1,by omega,by go_num,by trivial,fun j m hj hm => ?_⟩
     by_cases hjk:j=k
     ·subst hjk
      rw[HU.out] at hm;injection hm with hm
      rw[<- hm];exact he
     ·exact HN.out j m (by omega) hm
    case measure=>simp[intOf];omega
  ·obtain rfl:k=s.came.length:=by omega
   have H:Hid (s.du x=false):=ae (by
    rw[HS.out,List.any_eq_false];intro m hm;obtain⟨j,hj⟩:=List.getElem?_of_mem hm
    have:=HN.out j m (dI.1 hj).1 hj
    simpa using this)
   go_wp2_with fail;go_ret;exact⟨by rw[H.out];rfl,rfl⟩
theorem B6 {ops:Array Oper}{rest:List Oper}{o:Oper}{a:Act}{W:World}{Q:Exit->Act->World->Prop}(hgd:o.guard=none)(s x:Operand)
  (hop:o.op=Op.call { callee:=Callee.builtin Builtin.append,args:=#[s,x],argTypes:=#[97,97] }) (base:Nat) (v:Value) (ms:List aK) (g:Nat) (m:aK) (xm xl:Value) (hs:a.eval s=v) (hx:a.eval x=.slice (some g) 1 1)
  (h1:a_ W base v ms) (hg:W.heap[g]?=some (.cells (cd (m,xm,xl)).toArray 134)) (i1:bd W xm m.af) (i2:bw W xl m.log) (hl:ms.length<=1000) (hb:base<=W.heap.size)
  (h:∀ a' c' W',a_ W' base (.slice a' (ms++[m]).length c') (ms++[m])->Below base W W'->wpList prog ops Q rest (a.put o.dst (.slice a' (ms++[m]).length c')) W'):wpList prog ops Q (o :: rest) a W:=by
 have hone:a_ W 0 (.slice (some g) 1 1) [m]:=a_.one m xm xl hg (bl _) i1 i2;obtain⟨v',W',hr,h3,hb3, -⟩:=a_.plus h1 hone (by simp;omega) hb
 obtain⟨a',c',hv'⟩:=h3.shape;subst hv';exact kI hgd s x _ hop v _ _ W' hs hx hr (h a' c' W' h3 hb3)
theorem Kt (s:aN)(own:Int)(k:Nat)(hk:k<s.all.length):((s.all.take (k+1)).filter (fun x => !s.du x)).map (s.ask own)=((s.all.take k).filter (fun x => !s.du x)).map (s.ask own)++(if s.du (s.all.getD k 0) then [] else [s.ask own (s.all.getD k 0)]):=by
 rw[mD s.all k hk,List.filter_append,gw];congr 1;generalize s.all.getD k 0=x;cases e:s.du x<;>simp[e]
theorem Bv (b:Nat)(vc:Value)(s:aN)(F:Nat->Prop)(own:Int)(w:World)(h:ea w F b vc s)(hd:s.does<=6)(ha:s.all.length<=5)(hc:s.came.length<=5) :
  Calls prog 145 #[b,.int .i64 own] w fun e w'=>∃ v,e=.returned v/\a_ w' w.heap.size v (s.asks own)/\ai w w':=by
 have HA:=ae (qx b vc s F w h hd);have eS:Hid (∀ W x,ai w W->Calls prog 177 #[b,.int .i64 x] W fun e w'=>e=.returned (.bool (s.du x))/\w'=W):=ae fun W x hb=>qy b vc s F x W (h.below hb) hc;obtain⟨vw,vo,vm,vl,hblk,⟨-, -,hm,hl⟩, -⟩:=h;obtain⟨am,cm,dG⟩:=aM hm;subst dG;obtain⟨al,cl,hvl⟩:=aM hl;subst hvl;have c2:=au hblk 2;have c3:=au hblk 3;have c4:=au hblk 4;have c7:=au hblk 7;have c8:=au hblk 8;have HL:=ae (aP hm hl);have HS:Hid (s.asks own=((s.all.take s.all.length).filter (fun x => !s.du x)).map (s.ask own)):=ae (by rw[je];rfl)
 have hd0:0<s.all.length->s.does=1\/s.does=2\/s.does=3\/s.does=4\/s.does=5\/s.does=6:=fun q=>by
  have:s.does≠0:=fun e=>by unfold aN.all at q;rw[e] at q;simp at q
  omega
 have sf:=ae (Kt s own);have oN:Hid (∀ x,s.ask own x=match s.does with
 | 1=>{ kind:=5,src:=own,dst:=x,ak:=s.ak }
 | 2=>{ kind:=7,src:=own,dst:=x,ah:=s.ah,ak:=s.ak }
 | 3=>{ kind:=9,src:=own,dst:=x,ah:=s.ah,ak:=s.ak }
 | 4=>{ kind:=11,src:=own,dst:=x,ah:=s.ah,ak:=s.ak,af:=s.af,log:=s.log }
 | 5=>{ kind:=13,src:=own,dst:=x,ah:=s.ah,af:=s.af,log:=s.log }
 | _=>{ kind:=15,src:=own,dst:=x,ah:=s.ah,af:=s.af }):=ae fun x=>rfl
 have mixed:prog.follows Departure.mixedOrders=true:=by kernel_rfl
 clear hblk hm hl;go_enter func145,ntmps145;go_wp2_with fail;refine HA.out.mono ?_
 rintro e W1 ⟨v,rfl,ho,hb1⟩;obtain⟨a5,c5,rfl⟩:=aM ho;obtain⟨a',c',hv,hcl⟩:=bJ.cM ho;cases hv;have HI:=ae hcl;clear hcl ho HA;go_wp2_with fail;go_loopw [5,7] (fun v i wr=>∃ k:Nat,k<=s.all.length/\i=.int .i64 k/\a_ wr W1.heap.size v (((s.all.take k).filter (fun x => !s.du x)).map (s.ask own))/\ai W1 wr) (fun _ i _=>s.all.length-(intOf i).toNat)
 case atStart=>exact⟨0,bl _,rfl,a_.nil _ _,ax _ _⟩
 case round =>
  obtain⟨k,hk,rfl,hms,hbr⟩:=hrel;obtain⟨a9,c9,hsh⟩:=hms.shape;subst hsh;have HM:=ae (aP hms hbr);by_cases hlt:k<s.all.length
  ·have hk0:(0:Int)<=(k:Int):=by omega
   have hk1:(k:Int)<(s.all.length:Int):=by omega
   obtain⟨gb,off,rfl,ck⟩:=HI.out k hlt;have zg:=aF hbr ck;have hbw:ai w wr:=hb1.trans (hbr.mono hb1.size);have r2:=aF hbw c2;have r3:=aF hbw c3;have r4:=aF hbw c4;have r7:=aF hbw c7;have r8:=aF hbw c8;have HT:=ae (sf.out k hlt);have yp:=ae (aP (aS HL.out.1 fun z _ hz=>hbw.block z hz) (aS HL.out.2 fun z _ hz=>hbw.block z hz));have hdd:=hd0 (by omega)
   have HC:=ae (eS.out wr (s.all.getD k 0) hbw);have As:(((s.all.take k).filter (fun x => !s.du x)).map (s.ask own)).length<=1000:=by
    rw[fF];have:=List.length_filter_le (fun x => !s.du x) (s.all.take k);rw[dA] at this;omega
   have oc:=ae (oN.out (s.all.getD k 0));have zz:∀ o,ai wr (wr.alloc o):=fun o=>(ax _ wr).alloc (aG _) o;have z3:=fun o=>aF (zz o) r3;have z4:=fun o=>aF (zz o) r4;have zk:=fun o=>aF (zz o) zg;have z7:=fun o=>aF (zz o) r7;have z8:=fun o=>aF (zz o) r8;clear hms ck c2 c3 c4 c7 c8 sf eS hd0 oN HI;generalize ((s.all.take k).filter (fun x => !s.du x)).map (s.ask own)=ms at *;generalize s.all.getD k 0=x at *;cases hcf:s.du x with
   | true =>
    rw[hcf] at HC HT;go_wp2_with fail;refine HC.out.mono ?_
    rintro e W2 ⟨rfl,rfl⟩;go_wp2_with fail;go_roundw
    case rel =>
     refine⟨k+1,by omega,by go_num, ?_,HM.out.2⟩
     rw[HT.out];simpa using HM.out.1
    case measure=>simp[intOf];omega
   | false =>
    rw[hcf] at HC HT;go_wp2_with fail;refine HC.out.mono ?_
    rintro e W2 ⟨rfl,rfl⟩;rcases hdd with hdd|hdd|hdd|hdd|hdd|hdd
    all_goals (
     rw[hdd] at r2 oc;simp at r2;have z2:=fun o=>aF (zz o) r2;go_wp2_with fail;go_region;go_wp2_with (at_builtin;first
      | refine B6 rfl (.tmp 89) (.tmp 91) rfl W1.heap.size (.slice a9 ms.length c9) ms (W2.heap.size+1) (s.ask own x) (.slice none 0 0) (.slice none 0 0) (by simp[Act.eval]) (by simp[Act.eval]) (HM.out.1.below (((zz _).drew).alloc (by simp) _)) (by rw[oc.out];exact kX _ _ _) (by rw[oc.out];exact bd.nil _) (by rw[oc.out];exact bw.nil _) As (by have:=HM.out.2.size;simp;omega) ?_
      | refine B6 rfl (.tmp 89) (.tmp 91) rfl W1.heap.size (.slice a9 ms.length c9) ms (W2.heap.size+1) (s.ask own x) (.slice am s.af.length cm) (.slice al s.log.length cl) (by simp[Act.eval]) (by simp[Act.eval]) (HM.out.1.below (((zz _).drew).alloc (by simp) _)) (by rw[oc.out];exact kX _ _ _) (by rw[oc.out];exact aS yp.out.1 fun z _ hz=>(((zz _).drew).alloc (by simp) _).block z hz) (by rw[oc.out];exact aS yp.out.2 fun z _ hz=>(((zz _).drew).alloc (by simp) _).block z hz) As (by have:=HM.out.2.size;simp;omega) ?_
      | refine B6 rfl (.tmp 89) (.tmp 91) rfl W1.heap.size (.slice a9 ms.length c9) ms (W2.heap.size+1) (s.ask own x) (.slice am s.af.length cm) (.slice none 0 0) (by simp[Act.eval]) (by simp[Act.eval]) (HM.out.1.below (((zz _).drew).alloc (by simp) _)) (by rw[oc.out];exact kX _ _ _) (by rw[oc.out];exact aS yp.out.1 fun z _ hz=>(((zz _).drew).alloc (by simp) _).block z hz) (by rw[oc.out];exact bw.nil _) As (by have:=HM.out.2.size;simp;omega) ?_)
     intro a6 c6 W6 h6 hb6;have H6:=ae (aP h6 hb6);clear h6 hb6;go_wp2_with fail;go_roundw
     case rel =>
      refine⟨k+1,by omega,by go_num,by rw[HT.out];simpa using H6.out.1, ?_⟩
      exact (HM.out.2.trans ((((zz _).drew).alloc (by simp) _).mono HM.out.2.size)).trans H6.out.2
     case measure=>simp[intOf];omega)
  ·obtain rfl:k=s.all.length:=by omega
   clear hms;go_wp2_with fail;go_ret;rw[HS.out];exact⟨_,rfl,HM.out.1.base hb1.size,hb1.trans (HM.out.2.mono hb1.size)⟩
section
variable {W:World} {g:Nat} {T:TypeId} {a0 a1 a2 a3 a4 a5 a6:Value}
theorem TF (v:Value)(h:W.heap[g]?=some (.cells #[a0,a1,a2,a3,a4,a5,a6] T)):(W.setCell ⟨g,1,none⟩ v).heap[g]?=some (.cells #[a0,v,a2,a3,a4,a5,a6] T):=bV _ _ _ _ _ _ h
theorem TG (v:Value)(h:W.heap[g]?=some (.cells #[a0,a1,a2,a3,a4,a5,a6] T)):(W.setCell ⟨g,3,none⟩ v).heap[g]?=some (.cells #[a0,a1,a2,v,a4,a5,a6] T):=bV _ _ _ _ _ _ h
theorem TH (v:Value)(h:W.heap[g]?=some (.cells #[a0,a1,a2,a3,a4,a5,a6] T)):(W.setCell ⟨g,4,none⟩ v).heap[g]?=some (.cells #[a0,a1,a2,a3,v,a5,a6] T):=bV _ _ _ _ _ _ h
theorem TI (v:Value)(h:W.heap[g]?=some (.cells #[a0,a1,a2,a3,a4,a5,a6] T)):(W.setCell ⟨g,5,none⟩ v).heap[g]?=some (.cells #[a0,a1,a2,a3,a4,v,a6] T):=bV _ _ _ _ _ _ h
theorem TJ (v:Value)(h:W.heap[g]?=some (.cells #[a0,a1,a2,a3,a4,a5,a6] T)):(W.setCell ⟨g,6,none⟩ v).heap[g]?=some (.cells #[a0,a1,a2,a3,a4,a5,v] T):=bV _ _ _ _ _ _ h
end
theorem dJ.wrote {w U w':World}{b:Nat}{r':aR}{vm vl bN bD v:Value}{ms:List aK}(hR:RR U b r' bN bD)(hM:Moved w U (fun k=>k=b))(hb:ai U w')(hm:a_ w' w.heap.size v ms)(g1:bO w vm bN)(g2:bO w vl bD):dJ w b vm vl (.returned v) w' (r',ms) :=
 ⟨v,bN,bD,rfl,hR.below hb,hm,hM.mX (hb.mono hM.size) hb.size,g1,g2⟩
theorem RR.seal {V:World}{b:Nat}{r:aR}{vm vl:Value}(h:RR V b r vm vl)(e:Int):RR (V.setCell ⟨b,2,none⟩ (.int .i64 e)) b { r with lock:=e } vm vl :=
 ⟨bV _ _ _ _ _ _ h.blk,bu (a:=⟨b,2,none⟩) h.hm (aY h.blk h.hm (by decide)) _,bu (a:=⟨b,2,none⟩) h.hl (aY h.blk h.hl (by decide)) _⟩
theorem SX (b:Nat)(r:aR)(vm vl:Value)(own:Int)(m:aK)(a1:Option Addr)(d1:Nat)(a2:Option Addr)(d2:Nat)(w:World)(h:RR w b r vm vl)(hk:m.kind=7)(hle:m.ah<=r.ah+1)(he:0<=r.ah/\r.ah<=100000) :
  Calls prog 172 #[b,.int .i64 own,.agg #[m.kind,m.src,m.dst,m.ah,m.ak,m.aO,m.pos,m.value,.slice a1 m.af.length d1,.slice a2 m.log.length d2]] w fun e w'=>dJ w b vm vl e w' (r.take own m):=by
 have HT:Hid (r.take own m=({ r with lock:=if m.ah=r.ah+1 then m.ah else r.lock },[{ kind:=8,src:=own,dst:=m.src,ah:=m.ah,ak:=m.ak,log:=r.log }])):=ae (by
  unfold aR.take;rw[if_neg (by omega),if_neg (by omega),if_neg (by omega),if_pos hk]
  unfold aR.lp;rw[if_neg (by omega)])
 obtain⟨B,hB,bz,bf⟩:=dk w m (.slice a1 m.af.length d1) (.slice a2 m.log.length d2);have da:=h.below bz;have HR:=ae h;obtain⟨al,cl,hvl⟩:=aM h.hl;subst hvl;obtain⟨am,cm,dG⟩:=aM h.hm;subst dG;have kU:b<w.heap.size:=(aQ h.blk);have k0:=au bf 0;have k1:=au bf 1;have k3:=au bf 3;have k4:=au bf 4;have b1:=au da.blk 1;have b2:=au da.blk 2;have f2:=aW da.blk 2;have b4:=au da.blk 4;have hn1:¬ b=w.heap.size:=by omega
 have hn2:¬ w.heap.size=b:=by omega
 have hwr:IntKind.i64.wrap (r.ah+1)=r.ah+1:=by rw[dV];omega
 have hk':(m.kind == 7)=true:=by simp[hk]
 have oj:=ae (aP da bz);clear h bf da hk;by_cases hgt:r.ah<m.ah
 ·have HL:Hid (({ r with lock:=if m.ah=r.ah+1 then m.ah else r.lock }:aR)={ r with lock:=m.ah }):=ae (by rw[if_pos (by omega)])
  go_enter func172,ntmps172;go_wp2_with fail;go_quiet (fail);go_wp2_with fail;go_quiet (fail);go_wp2_with fail;go_region;go_wp2_with fail;go_ret;rw[HT.out,HL.out];have hU:=fun q=>(oj.out.1.below (aV (ax B.heap.size B) q)).seal m.ah;refine dJ.wrote (hU _) (((Moved.refl w (fun k=>k=b)).below (aV oj.out.2 _)).setCell ⟨b,2,none⟩ rfl _) (by first|exact (ax _ _).alloc (aG _) _|exact ((ax _ _).alloc (aG _) _).drew) (a_.one (g:=B.heap.size) _ (.slice none 0 0) (.slice al r.log.length cl) ?_ oj.out.2.size (bE _ _ _ _) ?_) (bO.refl _ _) (bO.refl _ _)
  ·have:=hnw ((B.drewN 0).setCell ⟨b,2,none⟩ (.int .i64 m.ah)) (.cells #[.int .i64 8,.int .i64 own,m.src,m.ah,m.ak,(),(),(),true,.slice al r.log.length cl] 134)
   rw[World.size_setCell] at this;exact this
  ·exact aS (hU _).hl fun z _ hz=>by
    first
     | exact ((ax _ _).alloc (aG _) _).block z hz
     | exact (((ax _ _).alloc (aG _) _).drew).block z hz
 ·have HL:Hid (({ r with lock:=if m.ah=r.ah+1 then m.ah else r.lock }:aR)=r):=ae (by rw[if_neg (by omega)])
  go_enter func172,ntmps172;go_wp2_with fail;go_quiet (fail);go_wp2_with fail;go_quiet (fail);go_wp2_with fail;go_region;go_wp2_with fail;go_ret;rw[HT.out,HL.out];have hbq:∀ q,ai w (B.drewN q):=fun q=>aV oj.out.2 q;have hal:∀ q o,ai w ((B.drewN q).alloc o):=fun q o=>(hbq q).alloc (hbq q).size o;exact dJ.msgs HR.out (hal _ _) (a_.one (g:=B.heap.size) _ (.slice none 0 0) (.slice al r.log.length cl) (hnw _ _) oj.out.2.size (bE _ _ _ _) (aS HR.out.hl fun z _ hz=>(hal _ _).block z hz))
end Go.Proofs.YtgieeeeeiggoeaaGreat
