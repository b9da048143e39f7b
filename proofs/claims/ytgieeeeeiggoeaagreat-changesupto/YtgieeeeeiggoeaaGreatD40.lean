import Derived.Test.YtgieeeeeiggoeaaGreatD36
set_option maxRecDepth 100000
set_option maxHeartbeats 4000000
namespace Go.Proofs.YtgieeeeeiggoeaaGreat
open Go.RowKit Go.Shelf
open Tryz
variable {a:Int}{c g i k m n x:Nat}{b:Nat->Nat}{Fn:Nat->Nat->Prop}{v' va vm vr vs vs':Value}{W2 w w0 w1 w3:World}
theorem Tu (n:Nat):ia 0 n=dn n:=by
 unfold ia dn;refine List.map_congr_left fun i _ => ?_
 simp
theorem BB (a:Int)(n:Nat):(ia a n).length=n:=by unfold ia;simp
theorem Ri (n k:Nat)(v:Value)(w:World)(hk:k<n)(hv:bd w v (dn n))(hn:n<=5) :
  Calls prog 107 #[.int .i64 (bY n k),v] w fun e w'=>∃ b F,e=.returned (.pointer (some ⟨b,0,none⟩))/\eW w' F b (bY n k) (gn n k)/\(∀ z,F z->w.heap.size<=z)/\ai w w':=by
 refine (Tb (bY n k) (dn n) v w hv (by simp[dn];omega)).mono ?_
 rintro e w' ⟨b,vm,rfl,h1,h2,h3,h4⟩;refine⟨b,fun z=>lz b vm (.slice none 0 0) z,rfl, ?_, ?_,h4⟩
 ·unfold gn
  rw[if_pos hk];refine⟨⟨vm,_,h1,fun _ e=>e, ?_⟩,fun e=>by simp[aR.first] at e⟩
  rintro z (e|e|e)
  ·rw[e];exact (aQ h1.blk)
  ·exact (dL.1 (bK h1.hm e).choose_spec.1).1
  ·exact absurd e eQ
 ·rintro z (e|e|e)
  ·omega
  ·exact h3 z e
  ·exact absurd e eQ
theorem Rf (n k:Nat)(v:Value)(w:World)(hk:¬ k<n)(hk2:k<n+3)(hv:bd w v (dn n))(hn:n<=5) :
  Calls prog 109 #[.int .i64 (bY n k),v] w fun e w'=>∃ b F,e=.returned (.pointer (some ⟨b,0,none⟩))/\eW w' F b (bY n k) (gn n k)/\(∀ z,F z->w.heap.size<=z)/\ai w w':=by
 refine (JN (bY n k) (dn n) v w hv (by simp[dn];omega)).mono ?_
 rintro e w' ⟨b,F,rfl,h1,h2,h3⟩;refine⟨b,F,rfl, ?_,h2,h3⟩
 unfold gn;rw[if_neg hk,if_pos hk2];exact h1
theorem Rh (n k:Nat)(w:World)(hk:¬ k<n+3) :
  Calls prog 110 #[.int .i64 (bY n k)] w fun e w'=>∃ b F,e=.returned (.pointer (some ⟨b,0,none⟩))/\eW w' F b (bY n k) (gn n k)/\(∀ z,F z->w.heap.size<=z)/\ai w w':=by
 refine (QA (bY n k) w).mono ?_
 rintro e w' ⟨b,F,rfl,h1,h2,h3⟩;refine⟨b,F,rfl, ?_,h2,h3⟩
 unfold gn;rw[if_neg (by omega),if_neg hk]
 refine⟨⟨_,⟨rfl,rfl,fun e=>absurd rfl e,rfl,rfl,fun e=>by simp[aN.still] at e,fun e=>by simp[aN.still] at e,fun e=>by simp[aN.still] at e,fun e=>by simp[aN.still] at e,fun e=>by simp[aN.still] at e,by simp,by simp,by simp⟩,h1⟩,fun e=>by simp[aN.still] at e⟩
theorem ez.sM {v:Value}{l:List Int}(h:ez w0 w x n k b Fn vs vr va vm)(h1:ai w w1)(hM:Moved w1 w3 (ig x vs vr va vm))(hv:bd w v l):bd w3 v l:=by
 refine hM.owns (aS hv fun z _ hz=>h1.block z hz) fun z hz hO => ?_
 rcases hO with e|e|e|e|e
 ·exact aY h.blk hv (by decide) (e ▸ hz)
 ·exact bM hv h.rs (by decide) z hz e
 ·exact bM hv h.rr (by decide) z hz e
 ·exact bM hv h.ra (by decide) z hz e
 ·exact bM hv h.rm (by decide) z hz e
theorem Bq {t e:TypeId}(hinfo:(prog.info? e).map (fun i=>(i.zero,i.size,i.bytes))=some (some (.pointer none),1,8))(hu:prog.underlying t=some (.slice e))(he:e≠93)(W:World)(x m:Nat)(v:Value)(xs:List Value)(p:Option Addr)(cs:Array Value)
  (hrow:W.ownsRow 0 e 1 v m xs) (hblk:W.heap[x]?=some (.cells cs 93)) (hm:m<=100) :
  ∃ g' cap W2,(∀ ty,(Builtin.append_ #[t,t] ty #[v,.slice (some W.heap.size) 1 1]).run prog (W.alloc (.cells #[.pointer p] e))=.ok (.slice (some ⟨g',0,none⟩) (m+1) cap) W2)/\W2.heap[x]?=some (.cells cs 93)/\W2.ownsRow 0 e 1 (.slice (some ⟨g',0,none⟩) (m+1) cap) (m+1) (xs++[.pointer p])/\Moved W W2 (fun z=>v.ownBlock=some z)/\bO W v (.slice (some ⟨g',0,none⟩) (m+1) cap):=by
 have hbX:ai W (W.alloc (.cells #[.pointer p] e)):=(ax _ W).alloc (aG _) _;have hxl:x<W.heap.size:=(aQ hblk);obtain⟨g',cap',W1,hrun,ho1,hg1,ek⟩:=oX (t:=t) hinfo hu rfl (by decide) (W.alloc (.cells #[.pointer p] e)) 0 v m xs [.pointer p] W.heap.size (aS hrow fun k _ hk=>hbX.block k hk) (hnw _ _) rfl (by intro u hu;rw[dg] at hu;subst hu;rfl) (by omega) (by decide) (bl _)
 have nb:v.ownBlock≠some x:=aY hblk hrow he;refine⟨g',cap',W1,hrun,(hg1.block x (by simp;omega) (fun e=>nb e.symm)).trans ((hbX.block x hxl).trans hblk),ho1,((Moved.refl W _).below hbX).grown hg1 (fun k _ e=>e), ?_⟩
 intro z hz;have:g'=z:=by simpa [Value.ownBlock] using hz
 subst this;rcases ek with h5|h5
 ·exact .inl h5
 ·exact .inr (by rw[h5];simp)
theorem ez.T3 (h:ez w0 w x n k b Fn vs vr va vm)(b':Nat)(F':Nat->Prop)(hk:k<n)
  (h1:ai w w1) (hN:eW w1 F' b' (bY n k) (gn n k)) (hF:∀ z,F' z->w.heap.size<=z)
  (hrow2:W2.ownsRow 0 129 1 v' (min k n+1) (ec b 0 (min k n)++[.pointer (some b')])) (hM2:Moved w1 W2 (fun z=>vr.ownBlock=some z)) (hG2:bO w1 vr v') (hx2:W2.heap[x]?=some (.cells #[vs,vr,va,vm,true,true] 93))
  (hblk:w3.heap[x]?=some (.cells #[vs',v',va,vm,true,true] 93)) (hrs:w3.ownsRow 0 183 3 vs' (k+1) ((List.range k).flatMap (fU n b)++[.int .i64 (bY n k),.int .i64 0,.iface (fu (gn n k)) (.pointer (some b'))]))
  (i5:Moved (W2.setCell ⟨x,1,none⟩ v') w3 (fun z=>z=x\/vs.ownBlock=some z)) (hG3:bO (W2.setCell ⟨x,1,none⟩ v') vs vs') :
  ez w0 w3 x n (k+1) (dP b k b') (nS Fn k F') vs' v' va vm/\Moved w1 w3 (ig x vs vr va vm):=by
 have hs2:=hM2.size;have hsc:(W2.setCell ⟨x,1,none⟩ v').heap.size=W2.heap.size:=by simp
 have hs3:=i5.size;have uD:(W2.setCell ⟨x,1,none⟩ v').ownsRow 0 183 3 vs k ((List.range k).flatMap (fU n b)):=bu (hM2.owns (aS h.rs fun z _ hz=>h1.block z hz) (fun z e e2=>bM h.rs h.rr (by decide) z e e2)) (aY h.blk h.rs (by decide)) _
 have qc:∀ {base size m:Nat} {e:TypeId} {v:Value} {xs:List Value},W2.ownsRow base e size v m xs->e≠183->e≠93->w3.ownsRow base e size v m xs:=by
  intro base size m e v xs hv e1 e2;have hv2:(W2.setCell ⟨x,1,none⟩ v').ownsRow base e size v m xs:=bu hv (aY hx2 hv e2) _;refine i5.owns hv2 fun z hz hS => ?_
  rcases hS with e3|e3
  ·exact aY hx2 hv e2 (e3 ▸ hz)
  ·exact bM hv2 uD e1 z hz e3
 have hrow3:∀ {base size m:Nat} {e:TypeId} {v:Value} {xs:List Value},w.ownsRow base e size v m xs->e≠183->e≠93->e≠129->w3.ownsRow base e size v m xs:=by
  intro base size m e v xs hv e1 e2 e3;exact qc (hM2.owns (aS hv fun z _ hz=>h1.block z hz) (fun z e4 e5=>bM hv h.rr e3 z e4 e5)) e1 e2
 have mP:Moved w1 w3 (ig x vs vr va vm):=by
  refine ((hM2.wider (fun z (e:vr.ownBlock=some z)=>.inr (.inr (.inl e)))).setCell ⟨x,1,none⟩ (.inl rfl) v').trans i5 (fun z _ hS => ?_)
  rcases hS with e|e
  ·exact .inl e
  ·exact .inr (.inl e)
 refine⟨h.step b' F' h1 hN hF mP ?_ hblk hrs (by
   have e1:min (k+1) n=min k n+1:=by omega
   have e2:0+(min k n)=k:=by omega
   rw[e1,uZ,nR (dP b k b') b 0 (min k n) (fun i hi=>by unfold dP;rw[if_neg (by omega)])]
   have e3:dP b k b' (0+(min k n))=b':=by unfold dP;rw[if_pos e2]
   rw[e3];exact qc hrow2 (by decide) (by decide)) (by
   have e1:min (k+1-n) 3=min (k-n) 3:=by omega
   rw[e1,nR (dP b k b') b n (min (k-n) 3) (fun i hi=>by unfold dP;rw[if_neg (by omega)])]
   exact hrow3 h.ra (by decide) (by decide) (by decide)) (by
   have e1:k+1-n-3=k-n-3:=by omega
   rw[e1,nR (dP b k b') b (n+3) (k-n-3) (fun i hi=>by unfold dP;rw[if_neg (by omega)])]
   exact hrow3 h.rm (by decide) (by decide) (by decide)),mP⟩
 ·intro z hz
  have kv:v'.ownBlock=some z->ig x vs vr va vm z\/w1.heap.size<=z:=fun e=>(hG2 z e).imp (fun e=>.inr (.inr (.inl e))) id;have ks:vs'.ownBlock=some z->ig x vs vr va vm z\/w1.heap.size<=z:=fun e=>(hG3 z e).imp (fun e=>.inr (.inl e)) (fun e=>by omega)
  rcases hz with e|e|e|e|e
  ·exact .inl (.inl e)
  ·exact ks e
  ·exact kv e
  ·exact .inl (.inr (.inr (.inr (.inl e))))
  ·exact .inl (.inr (.inr (.inr (.inr e))))
theorem ez.TV (h:ez w0 w x n k b Fn vs vr va vm)(b':Nat)(F':Nat->Prop)(hk:¬ k<n)(hk2:k<n+3)
  (h1:ai w w1) (hN:eW w1 F' b' (bY n k) (gn n k)) (hF:∀ z,F' z->w.heap.size<=z)
  (hrow2:W2.ownsRow 0 99 1 v' (min (k-n) 3+1) (ec b n (min (k-n) 3)++[.pointer (some b')])) (hM2:Moved w1 W2 (fun z=>va.ownBlock=some z)) (hG2:bO w1 va v') (hx2:W2.heap[x]?=some (.cells #[vs,vr,va,vm,true,true] 93))
  (hblk:w3.heap[x]?=some (.cells #[vs',vr,v',vm,true,true] 93)) (hrs:w3.ownsRow 0 183 3 vs' (k+1) ((List.range k).flatMap (fU n b)++[.int .i64 (bY n k),.int .i64 0,.iface (fu (gn n k)) (.pointer (some b'))]))
  (i5:Moved (W2.setCell ⟨x,2,none⟩ v') w3 (fun z=>z=x\/vs.ownBlock=some z)) (hG3:bO (W2.setCell ⟨x,2,none⟩ v') vs vs') :
  ez w0 w3 x n (k+1) (dP b k b') (nS Fn k F') vs' vr v' vm/\Moved w1 w3 (ig x vs vr va vm):=by
 have hs2:=hM2.size;have hsc:(W2.setCell ⟨x,2,none⟩ v').heap.size=W2.heap.size:=by simp
 have hs3:=i5.size;have uD:(W2.setCell ⟨x,2,none⟩ v').ownsRow 0 183 3 vs k ((List.range k).flatMap (fU n b)):=bu (hM2.owns (aS h.rs fun z _ hz=>h1.block z hz) (fun z e e2=>bM h.rs h.ra (by decide) z e e2)) (aY h.blk h.rs (by decide)) _
 have qc:∀ {base size m:Nat} {e:TypeId} {v:Value} {xs:List Value},W2.ownsRow base e size v m xs->e≠183->e≠93->w3.ownsRow base e size v m xs:=by
  intro base size m e v xs hv e1 e2;have hv2:(W2.setCell ⟨x,2,none⟩ v').ownsRow base e size v m xs:=bu hv (aY hx2 hv e2) _;refine i5.owns hv2 fun z hz hS => ?_
  rcases hS with e3|e3
  ·exact aY hx2 hv e2 (e3 ▸ hz)
  ·exact bM hv2 uD e1 z hz e3
 have hrow3:∀ {base size m:Nat} {e:TypeId} {v:Value} {xs:List Value},w.ownsRow base e size v m xs->e≠183->e≠93->e≠99->w3.ownsRow base e size v m xs:=by
  intro base size m e v xs hv e1 e2 e3;exact qc (hM2.owns (aS hv fun z _ hz=>h1.block z hz) (fun z e4 e5=>bM hv h.ra e3 z e4 e5)) e1 e2
 have mP:Moved w1 w3 (ig x vs vr va vm):=by
  refine ((hM2.wider (fun z (e:va.ownBlock=some z)=>.inr (.inr (.inr (.inl e))))).setCell ⟨x,2,none⟩ (.inl rfl) v').trans i5 (fun z _ hS => ?_)
  rcases hS with e|e
  ·exact .inl e
  ·exact .inr (.inl e)
 refine⟨h.step b' F' h1 hN hF mP ?_ hblk hrs (by
   have e1:min (k+1) n=min k n:=by omega
   rw[e1,nR (dP b k b') b 0 (min k n) (fun i hi=>by unfold dP;rw[if_neg (by omega)])]
   exact hrow3 h.rr (by decide) (by decide) (by decide)) (by
   have e1:min (k+1-n) 3=min (k-n) 3+1:=by omega
   have e2:n+(min (k-n) 3)=k:=by omega
   rw[e1,uZ,nR (dP b k b') b n (min (k-n) 3) (fun i hi=>by unfold dP;rw[if_neg (by omega)])]
   have e3:dP b k b' (n+(min (k-n) 3))=b':=by unfold dP;rw[if_pos e2]
   rw[e3];exact qc hrow2 (by decide) (by decide)) (by
   have e1:k+1-n-3=k-n-3:=by omega
   rw[e1,nR (dP b k b') b (n+3) (k-n-3) (fun i hi=>by unfold dP;rw[if_neg (by omega)])]
   exact hrow3 h.rm (by decide) (by decide) (by decide)),mP⟩
 ·intro z hz
  have kv:v'.ownBlock=some z->ig x vs vr va vm z\/w1.heap.size<=z:=fun e=>(hG2 z e).imp (fun e=>.inr (.inr (.inr (.inl e)))) id;have ks:vs'.ownBlock=some z->ig x vs vr va vm z\/w1.heap.size<=z:=fun e=>(hG3 z e).imp (fun e=>.inr (.inl e)) (fun e=>by omega)
  rcases hz with e|e|e|e|e
  ·exact .inl (.inl e)
  ·exact ks e
  ·exact .inl (.inr (.inr (.inl e)))
  ·exact kv e
  ·exact .inl (.inr (.inr (.inr (.inr e))))
theorem ez.T0 (h:ez w0 w x n k b Fn vs vr va vm)(b':Nat)(F':Nat->Prop)(hk:¬ k<n+3)
  (h1:ai w w1) (hN:eW w1 F' b' (bY n k) (gn n k)) (hF:∀ z,F' z->w.heap.size<=z)
  (hrow2:W2.ownsRow 0 81 1 v' (k-n-3+1) (ec b (n+3) (k-n-3)++[.pointer (some b')])) (hM2:Moved w1 W2 (fun z=>vm.ownBlock=some z)) (hG2:bO w1 vm v') (hx2:W2.heap[x]?=some (.cells #[vs,vr,va,vm,true,true] 93))
  (hblk:w3.heap[x]?=some (.cells #[vs',vr,va,v',true,true] 93)) (hrs:w3.ownsRow 0 183 3 vs' (k+1) ((List.range k).flatMap (fU n b)++[.int .i64 (bY n k),.int .i64 0,.iface (fu (gn n k)) (.pointer (some b'))]))
  (i5:Moved (W2.setCell ⟨x,3,none⟩ v') w3 (fun z=>z=x\/vs.ownBlock=some z)) (hG3:bO (W2.setCell ⟨x,3,none⟩ v') vs vs') :
  ez w0 w3 x n (k+1) (dP b k b') (nS Fn k F') vs' vr va v'/\Moved w1 w3 (ig x vs vr va vm):=by
 have hs2:=hM2.size;have hsc:(W2.setCell ⟨x,3,none⟩ v').heap.size=W2.heap.size:=by simp
 have hs3:=i5.size;have uD:(W2.setCell ⟨x,3,none⟩ v').ownsRow 0 183 3 vs k ((List.range k).flatMap (fU n b)):=bu (hM2.owns (aS h.rs fun z _ hz=>h1.block z hz) (fun z e e2=>bM h.rs h.rm (by decide) z e e2)) (aY h.blk h.rs (by decide)) _
 have qc:∀ {base size m:Nat} {e:TypeId} {v:Value} {xs:List Value},W2.ownsRow base e size v m xs->e≠183->e≠93->w3.ownsRow base e size v m xs:=by
  intro base size m e v xs hv e1 e2;have hv2:(W2.setCell ⟨x,3,none⟩ v').ownsRow base e size v m xs:=bu hv (aY hx2 hv e2) _;refine i5.owns hv2 fun z hz hS => ?_
  rcases hS with e3|e3
  ·exact aY hx2 hv e2 (e3 ▸ hz)
  ·exact bM hv2 uD e1 z hz e3
 have hrow3:∀ {base size m:Nat} {e:TypeId} {v:Value} {xs:List Value},w.ownsRow base e size v m xs->e≠183->e≠93->e≠81->w3.ownsRow base e size v m xs:=by
  intro base size m e v xs hv e1 e2 e3;exact qc (hM2.owns (aS hv fun z _ hz=>h1.block z hz) (fun z e4 e5=>bM hv h.rm e3 z e4 e5)) e1 e2
 have mP:Moved w1 w3 (ig x vs vr va vm):=by
  refine ((hM2.wider (fun z (e:vm.ownBlock=some z)=>.inr (.inr (.inr (.inr e))))).setCell ⟨x,3,none⟩ (.inl rfl) v').trans i5 (fun z _ hS => ?_)
  rcases hS with e|e
  ·exact .inl e
  ·exact .inr (.inl e)
 refine⟨h.step b' F' h1 hN hF mP ?_ hblk hrs (by
   have e1:min (k+1) n=min k n:=by omega
   rw[e1,nR (dP b k b') b 0 (min k n) (fun i hi=>by unfold dP;rw[if_neg (by omega)])]
   exact hrow3 h.rr (by decide) (by decide) (by decide)) (by
   have e1:min (k+1-n) 3=min (k-n) 3:=by omega
   rw[e1,nR (dP b k b') b n (min (k-n) 3) (fun i hi=>by unfold dP;rw[if_neg (by omega)])]
   exact hrow3 h.ra (by decide) (by decide) (by decide)) (by
   have e1:k+1-n-3=k-n-3+1:=by omega
   have e2:(n+3)+(k-n-3)=k:=by omega
   rw[e1,uZ,nR (dP b k b') b (n+3) (k-n-3) (fun i hi=>by unfold dP;rw[if_neg (by omega)])]
   have e3:dP b k b' ((n+3)+(k-n-3))=b':=by unfold dP;rw[if_pos e2]
   rw[e3];exact qc hrow2 (by decide) (by decide)),mP⟩
 ·intro z hz
  have kv:v'.ownBlock=some z->ig x vs vr va vm z\/w1.heap.size<=z:=fun e=>(hG2 z e).imp (fun e=>.inr (.inr (.inr (.inr e)))) id;have ks:vs'.ownBlock=some z->ig x vs vr va vm z\/w1.heap.size<=z:=fun e=>(hG3 z e).imp (fun e=>.inr (.inl e)) (fun e=>by omega)
  rcases hz with e|e|e|e|e
  ·exact .inl (.inl e)
  ·exact ks e
  ·exact .inl (.inr (.inr (.inl e)))
  ·exact .inl (.inr (.inr (.inr (.inl e))))
  ·exact kv e
theorem A8 (h:k<n):bY n k=(k:Int):=by unfold bY;rw[if_pos h]
theorem A6 (h:i<3):bY n (n+i)=100+(i:Int):=by unfold bY;rw[if_neg (by omega),if_pos (by omega)];omega
theorem A7 :bY n (n+3+i)=200+(i:Int):=by unfold bY;rw[if_neg (by omega),if_neg (by omega)];omega
theorem Mq (n:Nat):(dn n).length=n:=by simp[dn]
theorem ez.below (h:ez w0 w x n k b Fn vs vr va vm)(h1:ai w w1):ez w0 w1 x n k b Fn vs vr va vm :=
 ⟨(h1.block x (aQ h.blk)).trans h.blk,aS h.rs fun z _ hz=>h1.block z hz,aS h.rr fun z _ hz=>h1.block z hz,aS h.ra fun z _ hz=>h1.block z hz,aS h.rm fun z _ hz=>h1.block z hz,fun j hj=>(h.bj j hj).keep fun z hz=>h1.block z ((h.bj j hj).lt hz),h.sep,h.off,h.xu,h.AY,h.pL.trans (h1.mono h.pL.size)⟩
theorem ez.zero {X:World}(hb:ai w X)(hM:X.heap[w.heap.size]?=some (.cells #[true,true,true,true,true,true] 93)) :
  ez w X w.heap.size n 0 (fun _=>0) (fun _ _=>False) (.slice none 0 0) (.slice none 0 0) (.slice none 0 0) (.slice none 0 0):=by
 have e1:min 0 n=0:=by omega
 have e2:min (0-n) 3=0:=by omega
 have e3:0-n-3=0:=by omega
 refine⟨hM,bE _ _ _ _,by rw[e1];exact bE _ _ _ _,by rw[e2];exact bE _ _ _ _,by rw[e3];exact bE _ _ _ _,fun j hj=>absurd hj (Nat.not_lt_zero _),fun i j hi=>absurd hi (Nat.not_lt_zero _),fun j hj=>absurd hj (Nat.not_lt_zero _), ?_,fun j hj=>absurd hj (Nat.not_lt_zero _),hb⟩
 rintro z (e|e|e|e|e)
 ·omega
 all_goals exact absurd e eQ
theorem GQ (h:w.ownsRow 0 3 1 (.slice (some g) m c) m (aJ (ia a m)))(hi:i<m):w.cell? ⟨g,i,none⟩=some (.int .i64 (a+(i:Int))):=by
 rw[ev h i (by omega)]
 unfold aJ ia;rw[fe,fe,List.getElem?_range hi]
 rfl
theorem ez.row (h:ez w0 w x n k b Fn vs vr va vm)(h1:ai w w1)(hM:Moved w1 w3 (ig x vs vr va vm))(hv:w.ownsRow 0 3 1 (.slice (some g) m c) m (aJ (ia a m))):w3.ownsRow 0 3 1 (.slice (some g) m c) m (aJ (ia a m)):=by
 have h2:bd w (.slice (some g) m c) (ia a m):=by unfold bd;rw[BB];exact hv
 have h3:=h.sM h1 hM h2;unfold bd at h3
 rwa [BB] at h3
theorem Rg (n:Nat)(w:World)(h1:1<=n)(h5:n<=5) :
  Calls prog 53 #[.int .i64 (n:Int)] w fun e w'=>∃ b Fn vs vr va vm,e=.returned w.heap.size/\ez w w' w.heap.size n (n+5) b Fn vs vr va vm:=by
 have HN:=fun W=>ae (xq 0 n W h5 (by omega))
 have jh:Hid (∀ W,Calls prog 106 #[.int .i64 100,.int .i64 3] W fun e w'=>∃ c,e=.returned (.slice (some W.heap.size) 3 c)/\w'.ownsRow W.heap.size 3 1 (.slice (some W.heap.size) 3 c) 3 (aJ (ia 100 3))/\ai W w'):=ae fun W=>xq 100 3 W (by omega) (by omega)
 have eU:Hid (∀ W,Calls prog 106 #[.int .i64 200,.int .i64 2] W fun e w'=>∃ c,e=.returned (.slice (some W.heap.size) 2 c)/\w'.ownsRow W.heap.size 3 1 (.slice (some W.heap.size) 2 c) 2 (aJ (ia 200 2))/\ai W w'):=ae fun W=>xq 200 2 W (by omega) (by omega)
 have HA := @J0;have x_:=ae HA;clear HA;go_enter func53,ntmps53;go_upto_region 2 with fail
 obtain⟨X,hX,hbX,hM⟩:=ch w #[true,true,true,true,true,true] 93;rw[hX];clear hX;have HB0:=ae (ez.zero (n:=n) hbX hM);clear hM;go_wp2_with fail;refine (HN X).out.mono ?_
 rintro e Y ⟨c,rfl,o1,bt⟩;have HY:Hid (ez w Y w.heap.size n 0 (fun _=>0) (fun _ _=>False) (.slice none 0 0) (.slice none 0 0) (.slice none 0 0) (.slice none 0 0)/\bd Y (.slice (some X.heap.size) n c) (dn n)):=ae ⟨HB0.out.below bt,by
  have:=obs o1 (bl _);unfold bd;rw[<- Tu,BB];exact this⟩
 clear o1 bt hbX;generalize hga:X.heap.size=ga at *;generalize hx0:w.heap.size=x at *;go_wp2_with fail;go_loopw [20] (fun i wr=>∃ k:Nat,k<=n/\i=.int .i64 k/\∃ b Fn vs vr,ez w wr x n k b Fn vs vr (.slice none 0 0) (.slice none 0 0)/\bd wr (.slice (some ga) n c) (dn n)) (fun i _=>n-(intOf i).toNat)
 case atStart=>exact⟨0,bl _,rfl,_,_,_,_,HY.out.1,HY.out.2⟩
 case round =>
  obtain⟨k,hk,rfl,b,Fn,vs,vr,hB,hI⟩:=hrel;by_cases hlt:k<n
  ·have hk1:(k:Int)<(n:Int):=by omega
   have hI':wr.ownsRow 0 3 1 (.slice (some ga) n c) n (aJ (dn n)):=by
    have:=hI;unfold bd at this
    rwa [Mq] at this
   have ck:wr.cell? ⟨ga,k,none⟩=some (.int .i64 (k:Int)):=by
    rw[ev hI' k (by omega)]
    unfold aJ dn;rw[fe,fe,List.getElem?_range hlt]
    rfl
   have HC:=ae (Ri n k _ wr hlt hI h5);rw[A8 hlt] at HC;have hmin:min k n=k:=by omega
   obtain⟨ar,cr,dp⟩:=aM hB.rr;rw[hmin] at dp;subst dp;have HB:=ae (aP hB hI);have pF:=ae hmin;clear hB hI hI' hmin;go_wp2_with fail;refine HC.out.mono ?_
   rintro e W1 ⟨b',F',rfl,q1,q2,q3⟩;have B1:=HB.out.1.below q3;obtain⟨g',cap',W2,hrun,hx2,hrow2,hM2,hG2⟩:=Bq (t:=85) O9 underlying85 (by decide) W1 x k (.slice ar k cr) (ec b 0 k) (some ⟨b',0,none⟩) _ (by have:=B1.rr;rwa [pF.out] at this) B1.blk (by omega)
   have HS:Hid (∀ vs' w3,w3.heap[x]?=some (.cells #[vs',.slice (some g') (k+1) cap',true,true,true,true] 93)->w3.ownsRow 0 183 3 vs' (k+1) ((List.range k).flatMap (fU n b)++[.int .i64 (k:Int),.int .i64 0,.iface 129 (.pointer (some b'))])->Moved (W2.setCell ⟨x,1,none⟩ (.slice (some g') (k+1) cap')) w3 (fun z=>z=x\/vs.ownBlock=some z)->bO (W2.setCell ⟨x,1,none⟩ (.slice (some g') (k+1) cap')) vs vs' ->
     ez w w3 x n (k+1) (dP b k b') (nS Fn k F') vs' (.slice (some g') (k+1) cap') (.slice none 0 0) (.slice none 0 0)/\bd w3 (.slice (some ga) n c) (dn n)):=ae fun vs' w3 z1 z2 z3 z4=>by
    have hty:fu (gn n k)=129:=by unfold gn;rw[if_pos hlt];rfl
    obtain⟨r1,r2⟩:=HB.out.1.T3 b' F' hlt q3 (by rw[A8 hlt];exact q1) q2 (by rw[pF.out];exact hrow2) hM2 hG2 hx2 z1 (by rw[hty,A8 hlt];exact z2) z3 z4
    exact⟨r1,HB.out.1.sM q3 r2 HB.out.2⟩
   have HD:=ae (x_.out x k vs (.slice (some g') (k+1) cap') (.slice none 0 0) (.slice none 0 0) (.slice none 0 0) (.slice none 0 0) ((List.range k).flatMap (fU n b)) (k:Int) 129 (some ⟨b',0,none⟩) (W2.setCell ⟨x,1,none⟩ (.slice (some g') (k+1) cap')) (TB _ hx2)
    (bu (hM2.owns B1.rs (fun z e e2=>bM B1.rs B1.rr (by decide) z e e2)) (aY B1.blk B1.rs (by decide)) _) (by omega))
   have c1:=aj B1.blk 1;have d1:=aj hx2 1;have e1:=aW hx2 1;have HR:=ae hrun;clear hrun hrow2 hM2 hG2 hx2 B1 q1 q2 q3 ck;go_wp2_with (at_builtin;refine kI rfl (.tmp 31) (.tmp 33) 85 rfl _ _ _ _ (by simp[Act.eval]) (by simp[Act.eval]) HR.out ?_)
   go_wp2_with fail;refine HD.out.mono ?_
   rintro e w3 ⟨⟨v9,rfl⟩,vs',z1,z2,z3,z4⟩;have HFin:=ae (HS.out vs' w3 z1 z2 z3 z4);clear z1 z2 z3 z4 c1 d1 e1;go_wp2_with fail;go_roundw
   case rel=>exact⟨k+1,by omega,by go_num,_,_,_,_,HFin.out.1,HFin.out.2⟩
   case measure=>simp[intOf];omega
  ·obtain rfl:k=n:=by omega
   have jO:=ae (aP hB hI);clear hB hI HY hlt;go_wp2_with fail;refine (jh.out _).mono ?_
   rintro e Y1 ⟨Dn,rfl,o1,bt⟩;have HY:=ae (aP (jO.out.1.below bt) (aP (aS jO.out.2 fun z _ hz=>bt.block z hz) (obs o1 (bl _))));clear o1 bt jO;generalize hgb:wr.heap.size=D9 at *;go_wp2_with fail;go_loopw [45] (fun ix wr=>∃ i:Nat,i<=3/\ix=.int .i64 i/\∃ b Fn vs va,ez w wr x k (k+i) b Fn vs vr va (.slice none 0 0)/\bd wr (.slice (some ga) k c) (dn k)/\wr.ownsRow 0 3 1 (.slice (some D9) 3 Dn) 3 (aJ (ia 100 3))) (fun ix _=>3-(intOf ix).toNat)
   case atStart=>exact⟨0,bl _,rfl,_,_,_,_,HY.out.1,HY.out.2.1,HY.out.2.2⟩
   case round =>
    obtain⟨i,hi,rfl,b,Fn,vs,va,hB,hI,hR⟩:=hrel;by_cases hlt:i<3
    ·have hi1:(i:Int)<3:=by omega
     have ck:=GQ hR hlt;have HC:=ae (Rf k (k+i) _ wr (by omega) (by omega) hI h5)
     rw[A6 hlt] at HC;have hmin:min (k+i-k) 3=i:=by omega
     obtain⟨ar,cr,dp⟩:=aM hB.ra;rw[hmin] at dp;subst dp;have HB:=ae (aP hB (aP hI hR));have pF:=ae hmin;clear hB hI hR hmin;go_wp2_with fail;refine HC.out.mono ?_
     rintro e W1 ⟨b',F',rfl,q1,q2,q3⟩;have B1:=HB.out.1.below q3;obtain⟨g',cap',W2,hrun,hx2,hrow2,hM2,hG2⟩:=Bq (t:=86) O0 underlying86 (by decide) W1 x i (.slice ar i cr) (ec b k i) (some ⟨b',0,none⟩) _ (by have:=B1.ra;rwa [pF.out] at this) B1.blk (by omega)
     have HS:Hid (∀ vs' w3,w3.heap[x]?=some (.cells #[vs',vr,.slice (some g') (i+1) cap',true,true,true] 93)->w3.ownsRow 0 183 3 vs' (k+i+1) ((List.range (k+i)).flatMap (fU k b)++[.int .i64 (100+(i:Int)),.int .i64 0,.iface 99 (.pointer (some b'))])->Moved (W2.setCell ⟨x,2,none⟩ (.slice (some g') (i+1) cap')) w3 (fun z=>z=x\/vs.ownBlock=some z)->bO (W2.setCell ⟨x,2,none⟩ (.slice (some g') (i+1) cap')) vs vs' ->
       ez w w3 x k (k+i+1) (dP b (k+i) b') (nS Fn (k+i) F') vs' vr (.slice (some g') (i+1) cap') (.slice none 0 0)/\bd w3 (.slice (some ga) k c) (dn k)/\w3.ownsRow 0 3 1 (.slice (some D9) 3 Dn) 3 (aJ (ia 100 3))):=ae fun vs' w3 z1 z2 z3 z4=>by
      have hty:fu (gn k (k+i))=99:=by unfold gn;rw[if_neg (by omega),if_pos (by omega)];rfl
      obtain⟨r1,r2⟩:=HB.out.1.TV b' F' (by omega) (by omega) q3 (by rw[A6 hlt];exact q1) q2 (by rw[pF.out];exact hrow2) hM2 hG2 hx2 z1 (by rw[hty,A6 hlt];exact z2) z3 z4
      exact⟨r1,HB.out.1.sM q3 r2 HB.out.2.1,HB.out.1.row q3 r2 HB.out.2.2⟩
     have HD:=ae (x_.out x (k+i) vs (vr) (.slice (some g') (i+1) cap') (.slice none 0 0) (.slice none 0 0) (.slice none 0 0) ((List.range (k+i)).flatMap (fU k b)) (100+(i:Int)) 99 (some ⟨b',0,none⟩) (W2.setCell ⟨x,2,none⟩ (.slice (some g') (i+1) cap')) (TC _ hx2)
      (bu (hM2.owns B1.rs (fun z e e2=>bM B1.rs B1.ra (by decide) z e e2)) (aY B1.blk B1.rs (by decide)) _) (by omega))
     have c1:=aj B1.blk 2;have d1:=aj hx2 2;have e1:=aW hx2 2;have HR:=ae hrun;clear hrun hrow2 hM2 hG2 hx2 B1 q1 q2 q3 ck;go_wp2_with (at_builtin;refine kI rfl (.tmp 56) (.tmp 58) 86 rfl _ _ _ _ (by simp[Act.eval]) (by simp[Act.eval]) HR.out ?_)
     go_wp2_with fail;refine HD.out.mono ?_
     rintro e w3 ⟨⟨v9,rfl⟩,vs',z1,z2,z3,z4⟩;have HFin:=ae (HS.out vs' w3 z1 z2 z3 z4);clear z1 z2 z3 z4 c1 d1 e1;go_wp2_with fail;go_roundw
     case rel=>exact⟨i+1,by omega,by go_num,_,_,_,_,HFin.out.1,HFin.out.2.1,HFin.out.2.2⟩
     case measure=>simp[intOf];omega
    ·obtain rfl:i=3:=by omega
     have jO:=ae (aP hB hI);clear hB hI HY hlt hR;go_wp2_with fail;refine (eU.out _).mono ?_
     rintro e Y2 ⟨Dp,rfl,o1,bt⟩;have HY:=ae (aP (jO.out.1.below bt) (aP (trivial) (obs o1 (bl _))));clear o1 bt jO;generalize hgb:wr.heap.size=D_ at *;go_wp2_with fail;go_loopw [70] (fun ix wr=>∃ i:Nat,i<=2/\ix=.int .i64 i/\∃ b Fn vs vm,ez w wr x k (k+3+i) b Fn vs vr va vm/\True/\wr.ownsRow 0 3 1 (.slice (some D_) 2 Dp) 2 (aJ (ia 200 2))) (fun ix _=>2-(intOf ix).toNat)
     case atStart=>exact⟨0,bl _,rfl,_,_,_,_,HY.out.1,HY.out.2.1,HY.out.2.2⟩
     case round =>
      obtain⟨i,hi,rfl,b,Fn,vs,vm,hB,hI,hR⟩:=hrel;by_cases hlt:i<2
      ·have hi1:(i:Int)<2:=by omega
       have ck:=GQ hR hlt;have HC:=ae (Rh k (k+3+i) wr (by omega))
       rw[A7] at HC;have hmin:k+3+i-k-3=i:=by omega
       obtain⟨ar,cr,dp⟩:=aM hB.rm;rw[hmin] at dp;subst dp;have HB:=ae (aP hB (aP hI hR));have pF:=ae hmin;clear hB hI hR hmin;go_wp2_with fail;refine HC.out.mono ?_
       rintro e W1 ⟨b',F',rfl,q1,q2,q3⟩;have B1:=HB.out.1.below q3;obtain⟨g',cap',W2,hrun,hx2,hrow2,hM2,hG2⟩:=Bq (t:=87) O6 underlying87 (by decide) W1 x i (.slice ar i cr) (ec b (k+3) i) (some ⟨b',0,none⟩) _ (by have:=B1.rm;rwa [pF.out] at this) B1.blk (by omega)
       have HS:Hid (∀ vs' w3,w3.heap[x]?=some (.cells #[vs',vr,va,.slice (some g') (i+1) cap',true,true] 93)->w3.ownsRow 0 183 3 vs' (k+3+i+1) ((List.range (k+3+i)).flatMap (fU k b)++[.int .i64 (200+(i:Int)),.int .i64 0,.iface 81 (.pointer (some b'))])->Moved (W2.setCell ⟨x,3,none⟩ (.slice (some g') (i+1) cap')) w3 (fun z=>z=x\/vs.ownBlock=some z)->bO (W2.setCell ⟨x,3,none⟩ (.slice (some g') (i+1) cap')) vs vs' ->
         ez w w3 x k (k+3+i+1) (dP b (k+3+i) b') (nS Fn (k+3+i) F') vs' vr va (.slice (some g') (i+1) cap')/\True/\w3.ownsRow 0 3 1 (.slice (some D_) 2 Dp) 2 (aJ (ia 200 2))):=ae fun vs' w3 z1 z2 z3 z4=>by
        have hty:fu (gn k (k+3+i))=81:=by unfold gn;rw[if_neg (by omega),if_neg (by omega)];rfl
        obtain⟨r1,r2⟩:=HB.out.1.T0 b' F' (by omega) q3 (by rw[A7];exact q1) q2 (by rw[pF.out];exact hrow2) hM2 hG2 hx2 z1 (by rw[hty,A7];exact z2) z3 z4
        exact⟨r1,trivial,HB.out.1.row q3 r2 HB.out.2.2⟩
       have HD:=ae (x_.out x (k+3+i) vs (vr) (va) (.slice (some g') (i+1) cap') (.slice none 0 0) (.slice none 0 0) ((List.range (k+3+i)).flatMap (fU k b)) (200+(i:Int)) 81 (some ⟨b',0,none⟩) (W2.setCell ⟨x,3,none⟩ (.slice (some g') (i+1) cap')) (TD _ hx2)
        (bu (hM2.owns B1.rs (fun z e e2=>bM B1.rs B1.rm (by decide) z e e2)) (aY B1.blk B1.rs (by decide)) _) (by omega))
       have c1:=aj B1.blk 3;have d1:=aj hx2 3;have e1:=aW hx2 3;have HR:=ae hrun;clear hrun hrow2 hM2 hG2 hx2 B1 q1 q2 q3 ck;go_wp2_with (at_builtin;refine kI rfl (.tmp 80) (.tmp 82) 87 rfl _ _ _ _ (by simp[Act.eval]) (by simp[Act.eval]) HR.out ?_)
       go_wp2_with fail;refine HD.out.mono ?_
       rintro e w3 ⟨⟨v9,rfl⟩,vs',z1,z2,z3,z4⟩;have HFin:=ae (HS.out vs' w3 z1 z2 z3 z4);clear z1 z2 z3 z4 c1 d1 e1;go_wp2_with fail;go_roundw
       case rel=>exact⟨i+1,by omega,by go_num,_,_,_,_,HFin.out.1,HFin.out.2.1,HFin.out.2.2⟩
       case measure=>simp[intOf];omega
      ·obtain rfl:i=2:=by omega
       have jO:=ae (aP hB hI);clear hB hI HY hlt hR;go_wp2_with fail;go_ret;rw[hx0];exact⟨_,_,_,_,_,_,rfl,jO.out.1⟩
theorem TR (n:Nat)(b:Nat->Nat):∀ (m j t:Nat),j<m->t<3->((List.range m).flatMap (fU n b))[j*3+t]?=(fU n b j)[t]?:=by
 intro m;induction m with
 | zero=>intro j t hj;omega
 | succ m ih =>
  intro j t hj ht;have hl:((List.range m).flatMap (fU n b)).length=m*3:=by
   rw[List.length_flatMap];have:(List.range m).map (fun a=>(fU n b a).length)=(List.range m).map (fun _=>3):=List.map_congr_left fun a _=>rfl;rw[this];simp[List.map_const']
  rw[Hi];by_cases e:j=m
  ·subst e
   rw[kH (by omega),hl,show j*3+t-j*3=t by omega]
  ·rw[List.getElem?_append_left (by omega)]
   exact ih j t (by omega) ht
theorem ez.done (h:ez w0 w x n (n+5) b Fn vs vr va vm)(h1:1<=n)(h5:n<=5) :
  ∃ F,dM w F x (aq.first n)/\∀ k,F k->w0.heap.size<=k:=by
 have hn:(aq.first n).aD.length=n:=by simp[aq.first]
 obtain⟨gs,cap,hv, -, -⟩:=h.rs.form (by omega)
 subst hv;obtain⟨cs,hcs, -⟩:=bK h.rs (k:=gs) rfl;obtain⟨_,_,hcapv,hcap⟩:=rK h.rs;cases hcapv;have hO:∀ z,tz x gs vr va vm (.slice none 0 0) (.slice none 0 0) z->ig x (.slice (some gs) (n+5) cap) vr va vm z:=by
  rintro z (e|e|e|e|e|e|e)
  ·exact .inl e
  ·exact .inr (.inl (by rw[e];rfl))
  ·exact .inr (.inr (.inl e))
  ·exact .inr (.inr (.inr (.inl e)))
  ·exact .inr (.inr (.inr (.inr e)))
  ·exact absurd e eQ
  ·exact absurd e eQ
 have hlt:∀ z,ig x (.slice (some gs) (n+5) cap) vr va vm z->z<w.heap.size:=by
  intro z hz;have key:∀ {base size n:Nat} {e:TypeId} {v:Value} {xs:List Value},w.ownsRow base e size v n xs->v.ownBlock=some z->z<w.heap.size:=fun hr e=>(dL.1 (bK hr e).choose_spec.1).1;rcases hz with e|e|e|e|e
  ·rw[e];exact (aQ h.blk)
  ·exact key h.rs e
  ·exact key h.rr e
  ·exact key h.ra e
  ·exact key h.rm e
 have EW:∀ j,j<n+5->(aq.first n).bj j=gn n j:=fun j hj=>Rs n j hj;refine⟨fun z=>ig x (.slice (some gs) (n+5) cap) vr va vm z\/∃ j,j<n+5/\Fn j z,⟨gs,cap,b,Fn,vr,va,vm,.slice none 0 0,.slice none 0 0, ?_⟩, ?_⟩
 ·refine⟨?_, ?_, ?_, ?_, ?_, ?_, ?_, ?_, ?_, ?_, ?_, ?_, ?_, ?_, ?_,rfl,rfl⟩
  ·rw[hn]
   exact⟨h.blk,bE _ _ _ _⟩
  ·rw[hn]
   refine⟨cs,hcs,fun j hj => ?_⟩
   have key:∀ t,t<3->cs[j*3+t]?=(fU n b j)[t]?:=fun t ht=>by
    rw[<- aj hcs (j*3+t),ev h.rs (j*3+t) (by omega)]
    exact TR n b (n+5) j t hj ht
   have hup:(gn n j).up=true:=by
    unfold gn;split
    ·rfl
    ·split<;>rfl
   unfold aq.iE;rw[hn,EW j hj,hup];exact⟨key 0 (by omega),key 1 (by omega),key 2 (by omega)⟩
  ·rw[hn];exact hcap
  ·rw[hn]
   have:=h.rr
   rwa [show min (n+5) n=n by omega] at this
  ·rw[hn]
   have:=h.ra
   rwa [show min (n+5-n) 3=3 by omega] at this
  ·rw[hn]
   have:=h.rm
   rwa [show n+5-n-3=2 by omega] at this
  ·exact bE _ _ _ _
  ·intro j hj
   rw[hn] at hj |-;rw[EW j hj];exact h.bj j hj
  ·intro i j hi hj
   rw[hn] at hi hj;exact h.sep i j hi hj
  ·intro j hj z hz hz2
   rw[hn] at hj;exact h.off j hj z hz (hO z hz2)
  ·exact fun z hz=>.inl (hO z hz)
  ·intro j hj z hz
   rw[hn] at hj;exact .inr ⟨j,hj,hz⟩
  ·rintro z (hz|⟨j,hj,hz⟩)
   ·exact hlt z hz
   ·exact (h.bj j hj).lt hz
  ·rw[hn];exact h1
  ·rw[hn];exact h5
 ·rintro z (hz|⟨j,hj,hz⟩)
  ·exact h.xu z hz
  ·exact h.AY j hj z hz
theorem Lw (n:Nat)(w:World)(h1:1<=n)(h5:n<=5) :
  Calls prog 26 #[.agg #[.int .i64 (n:Int)]] w fun e w'=>∃ x F,e=.returned (.tuple #[.pointer (some ⟨x,0,none⟩),()])/\dM w' F x (aq.first n)/\(∀ k,F k->w.heap.size<=k)/\ai w w':=by
 have HC:=fun W=>ae (Rg n W h1 h5);have l1:¬ (n:Int)<1:=by omega
 have l2:¬ (5:Int)<(n:Int):=by omega
 go_enter func26,ntmps26;go_upto_region 1 with fail
 obtain⟨X,hX,hbX,hM⟩:=ch w #[.int .i64 (n:Int)] 75;rw[hX];clear hX;have c0:=aj hM 0;clear hM;go_wp2_with fail;refine (HC X).out.mono ?_
 rintro e W ⟨b,Fn,vs,vr,va,vm,rfl,hB⟩;have HB:=ae hB;clear hB c0;go_wp2_with fail;go_ret2;obtain⟨F,q1,q2⟩:=HB.out.done h1 h5;have hs:=hbX.size;exact⟨_,F,rfl,q1,fun k hk=>by have:=q2 k hk;omega,hbX.trans (HB.out.pL.mono hs)⟩
end Go.Proofs.YtgieeeeeiggoeaaGreat
