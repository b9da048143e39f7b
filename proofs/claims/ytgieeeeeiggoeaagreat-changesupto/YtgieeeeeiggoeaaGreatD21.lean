import Derived.Test.YtgieeeeeiggoeaaGreatD20
set_option maxRecDepth 100000
set_option maxHeartbeats 2000000
namespace Go.Proofs.YtgieeeeeiggoeaaGreat
open Go.RowKit Go.Shelf
open Tryz
variable {own:Int}{l:List (Int × Value)}{b g:Nat}{F:Nat->Prop}{T:TypeId}{a c d v vm:Value}{W w w':World}
theorem UG (w:World)(a b:Array Value)(S T:TypeId):∃ X,(w.alloc (.cells a S)).alloc (.cells b T)=X/\ai w X/\X.heap[w.heap.size]?=some (.cells a S)/\X.heap[w.heap.size+1]?=some (.cells b T) :=
 ⟨_,rfl,((ax _ w).alloc (aG _) _).alloc (by simp) _,(j6 _ _ _ (by simp)).trans (hnw _ _),kX _ _ _⟩
theorem vf {b:Value}(v:Value)(h:W.heap[g]?=some (.cells #[a,b,c,d] T)):(W.setCell g v).heap[g]?=some (.cells #[v,b,c,d] T):=bV _ _ _ _ _ _ h
theorem vg {b:Value}(v:Value)(h:W.heap[g]?=some (.cells #[a,b,c,d] T)):(W.setCell ⟨g,1,none⟩ v).heap[g]?=some (.cells #[a,v,c,d] T):=bV _ _ _ _ _ _ h
theorem s9 {b:Value}(v:Value)(h:W.heap[g]?=some (.cells #[a,b,c,d] T)):(W.setCell ⟨g,2,none⟩ v).heap[g]?=some (.cells #[a,b,v,d] T):=bV _ _ _ _ _ _ h
theorem vh {b:Value}(v:Value)(h:W.heap[g]?=some (.cells #[a,b,c,d] T)):(W.setCell ⟨g,3,none⟩ v).heap[g]?=some (.cells #[a,b,c,v] T):=bV _ _ _ _ _ _ h
theorem GO {P:Program}{fn:Func}{R:Ending->World->Prop}{a:Act}(g:Nat)(cs:Array Value)(T:TypeId)(hW:W.heap[g]?=some (.cells cs T))(hr:∀ V:World,V.heap[g]?=some (.cells cs T)->(results fn a.tmps).run P V=.ok v V)(hd:a.defers=[])(hR:R (.returned v) W):bodyPost P fn R .ret a W :=
 dB (hr W hW) hd hR
theorem Gn (F:Nat->Prop)(b:Nat)(own:Int)(a:Acc)(vm:Value)(g:Nat)(l:List (Int × Value))(m:aK)(mm ml:Value)(w:World)(h:jK w F b own a vm g l) :
  Calls prog 257 #[b,bL m mm ml] w fun e w'=>∃ bN bD,e=.returned (.tuple #[.agg #[.int .i64 (if m.ak<(a.aZ m.ah).promise then (a.aZ m.ah).promise else m.ak),.int .i64 (a.aZ m.ah).ak,bN,bD],.bool (!decide (m.ak<(a.aZ m.ah).promise))]) /\
   bd w bN (a.aZ m.ah).af/\bw w bD (a.aZ m.ah).log/\(∀ k,bN.ownBlock=some k->F k)/\(∀ k,bD.ownBlock=some k->F k)/\ai w w':=by
 have hbl:b<w.heap.size:=h.lt b h.fb;have HC:Hid (∀ W,ai w W->Calls prog 258 #[b,m.ah] W fun e w'=>∃ bN bD,e=.returned (.agg #[.int .i64 (a.aZ m.ah).promise,.int .i64 (a.aZ m.ah).ak,bN,bD]) /\
   bd W bN (a.aZ m.ah).af/\bw W bD (a.aZ m.ah).log/\(∀ k,bN.ownBlock=some k->F k)/\(∀ k,bD.ownBlock=some k->F k)/\ai W w'):=ae fun W hb=>Kz F b own a vm g l m.ah W (h.below hb)
 have HF:=ae h.lt;clear h;unfold bL;go_enter func257,ntmps257;go_wp2_with fail;obtain⟨X,hX,hbX,hM,hZ⟩:=UG w #[m.kind,m.src,m.dst,m.ah,m.ak,m.aO,m.pos,m.value,mm,ml] #[(),(),true,true] 134 310;rw[hX];clear hX;have g3:=aj hM 3;have g4:=aj hM 4;have HM:=ae hM;have HZ:=ae hZ;clear hM hZ;go_wp2_with fail;refine (HC.out _ hbX).mono ?_
 rintro e Y ⟨bN,bD,rfl,h1,h2,h3,h4,bt⟩;have hY:ai w Y:=hbX.trans (bt.mono hbX.size);have HO:=ae (aP (cG h1 fun k e=>(hbX.block k (HF.out k (h3 k e))).symm:bd w bN _) (aP (cG h2 fun k e=>(hbX.block k (HF.out k (h4 k e))).symm:bw w bD _) (aP h3 h4)));obtain⟨a1,d1,rfl⟩:=aM h1;obtain⟨a2,d2,rfl⟩:=aM h2;clear h1 h2 h3 h4 g3 g4;have hM:=(bt.block _ (aQ HM.out)).trans HM.out;have hZ:=(bt.block _ (aQ HZ.out)).trans HZ.out;have y4:=aj hM 4;have z:=fun j=>aj hZ j;have f:=fun j=>aW hZ j;have Z9:=ae hZ;clear hM hZ;by_cases hlt:m.ak<(a.aZ m.ah).promise
 ·go_wp2_with fail
  refine GO (v:=.tuple #[.agg #[.int .i64 (a.aZ m.ah).promise,.int .i64 (a.aZ m.ah).ak,.slice a1 (a.aZ m.ah).af.length d1,.slice a2 (a.aZ m.ah).log.length d2],.bool false]) (w.heap.size+1) #[.int .i64 (a.aZ m.ah).promise,.int .i64 (a.aZ m.ah).ak,.slice a1 (a.aZ m.ah).af.length d1,.slice a2 (a.aZ m.ah).log.length d2] 310 ?_ (fun V hV=>by have hz:=fun j=>aj hV j;simp[results,results257,go_sem,hz]) rfl ?_
  ·exact (vh _ (s9 _ (vg _ (vf _ (vh _ (s9 _ (vg _ (vf _ Z9.out))))))))
  refine⟨_,_,rfl,HO.out.1,HO.out.2.1,HO.out.2.2.1,HO.out.2.2.2, ?_⟩
  repeat refine eE ?_ (by exact Nat.le_succ _) _
  exact hY
 ·go_wp2_with fail
  refine GO (v:=.tuple #[.agg #[m.ak,.int .i64 (a.aZ m.ah).ak,.slice a1 (a.aZ m.ah).af.length d1,.slice a2 (a.aZ m.ah).log.length d2],.bool true]) (w.heap.size+1) #[m.ak,.int .i64 (a.aZ m.ah).ak,.slice a1 (a.aZ m.ah).af.length d1,.slice a2 (a.aZ m.ah).log.length d2] 310 ?_ (fun V hV=>by have hz:=fun j=>aj hV j;simp[results,results257,go_sem,hz]) rfl ?_
  ·exact (vh _ (s9 _ (vg _ (vf _ (vf _ (vh _ (s9 _ (vg _ (vf _ Z9.out)))))))))
  refine⟨_,_,rfl,HO.out.1,HO.out.2.1,HO.out.2.2.1,HO.out.2.2.2, ?_⟩
  repeat refine eE ?_ (by exact Nat.le_succ _) _
  exact hY
theorem NW (w:World)(o o2 o3:Obj):(((w.alloc o).alloc o2).drew.alloc o3).heap[w.heap.size+1+1]?=some o3:=by
 have:=hnw ((w.alloc o).alloc o2).drew o3
 simpa using this
theorem vV (F:Nat->Prop)(b:Nat)(own:Int)(a:Acc)(vm:Value)(g:Nat)(l:List (Int × Value))(m:aK)(mm ml:Value)(n:aK)(nm nl:Value)(w:World)(h:jK w F b own a vm g l)(h1:bd w nm n.af)(h2:bw w nl n.log) :
  Calls prog 256 #[b,bL m mm ml,bL n nm nl] w fun e w'=>∃ v,e=.returned v/\a_ w' w.heap.size v [{ n with src:=own,dst:=m.src }]/\ai w w':=by
 have hbl:b<w.heap.size:=h.lt b h.fb;have c0:∀ W,ai w W->W.cell? (b,0)=some (.int .i64 own):=fun W hb=>aF hb (aj h.blk 0);have HO:=ae (aP h1 h2);obtain⟨a1,d1,rfl⟩:=aM h1;obtain⟨a2,d2,rfl⟩:=aM h2;have HA:=ae h.blk;clear h h1 h2;unfold bL;go_enter func256,ntmps256;go_wp2_with fail;have hb0:ai w ((w.alloc (.cells #[m.kind,m.src,m.dst,m.ah,m.ak,m.aO,m.pos,m.value,mm,ml] 134)).alloc (.cells #[n.kind,n.src,n.dst,n.ah,n.ak,n.aO,n.pos,n.value,.slice a1 n.af.length d1,.slice a2 n.log.length d2] 134)):=((ax _ w).alloc (aG _) _).alloc (by simp) _
 have k0:=c0 _ hb0;have hne:¬ b=w.heap.size:=by omega
 have hne1:¬ b=w.heap.size+1:=by omega
 clear c0;go_region;go_wp2_with fail;go_ret;refine⟨_,rfl,a_.one { n with src:=own,dst:=m.src } (.slice a1 n.af.length d1) (.slice a2 n.log.length d2) (g:=w.heap.size+1+1) ?_ (by omega) ?_ ?_, ?_⟩
 ·exact NW _ _ _ _
 ·exact ((HO.out.1.alloc _).alloc _).alloc _
 ·exact ((HO.out.2.alloc _).alloc _).alloc _
 ·exact ((((ax w.heap.size w).alloc (aG _) _).alloc (by simp) _).drew).alloc (by simp;omega) _
def gx (w w':World)(F:Nat->Prop)(b:Nat)(own:Int)(e:Ending)(p:Acc × List aK):Prop :=
 ∃ v F',e=.returned v/\kJ w' F' b own p.1/\Moved w w' F/\(∀ k,F' k->F k\/w.heap.size<=k)/\a_ w' w.heap.size v p.2
theorem gx.still {a:Acc}{ms:List aK}(h:kJ w F b own a)(hb:ai w w')(hv:a_ w' w.heap.size v ms):gx w w' F b own (.returned v) (a,ms):=by
 obtain⟨vm,g,l,h⟩:=h;exact⟨v,F,rfl,⟨vm,g,l,h.below hb⟩,(Moved.refl w F).below hb,fun k h=>.inl h,hv⟩
theorem Ud (F:Nat->Prop)(b:Nat)(own:Int)(a:Acc)(m:aK)(mm ml:Value)(w:World)(h:kJ w F b own a)(ok:th a) :
  Calls prog 252 #[b,bL m mm ml] w fun e w'=>gx w w' F b own e (a,[{ kind:=6,src:=own,dst:=m.src,ah:=a.ah,ak:=m.ak,af:=a.af }]):=by
 have HA:=ae h;obtain⟨vm,g,l,h⟩:=h;have hbl:b<w.heap.size:=h.lt b h.fb;obtain⟨am,cm,rfl⟩:=aM h.hm;have HC:Hid (∀ W,ai w W->Calls prog 69 #[.slice am a.af.length cm] W fun e w'=>∃ x c,e=.returned (.slice x a.af.length c)/\bd w' (.slice x a.af.length c) a.af/\ai W w'/\ai w w'):=ae fun W hb=>(ma _ a.af W (h.below hb).hm (by have:=ok.m;omega)).mono (by
  rintro e w' ⟨x,c,rfl,h1,h2⟩;exact⟨x,c,rfl,obs h1 (bl _),h2,hb.trans (h2.mono hb.size)⟩)
 have HN:Hid (∀ W x c,ai w W->bd W (.slice x a.af.length c) a.af->Calls prog 256 #[b,.agg #[m.kind,m.src,m.dst,m.ah,m.ak,m.aO,m.pos,m.value,mm,ml],.agg #[.int .i64 6,(),(),a.ah,m.ak,(),(),(),.slice x a.af.length c,true]] W fun e w'=>∃ v,e=.returned v/\a_ w' w.heap.size v [{ kind:=6,src:=own,dst:=m.src,ah:=a.ah,ak:=m.ak,af:=a.af }]/\ai W w'/\ai w w'):=ae fun W x c hb hx=>(vV F b own a _ g l m mm ml { kind:=6,src:=0,dst:=0,ah:=a.ah,ak:=m.ak,af:=a.af } (.slice x a.af.length c) (.slice none 0 0) W (h.below hb) hx (bE _ _ _ _)).mono (by
  rintro e w' ⟨v,rfl,h1,h2⟩;exact⟨v,rfl,h1.base hb.size,h2,hb.trans (h2.mono hb.size)⟩)
 have HB:=ae h.blk;have HS:Hid (∀ W,ai w W->W.cell? (b,1)=some (.int .i64 a.ah)/\W.cell? (b,2)=some (.slice am a.af.length cm)):=ae fun W hb=>⟨aF hb (aj HB.out 1),aF hb (aj HB.out 2)⟩;clear h ok;unfold bL;go_enter func252,ntmps252;go_wp2_with fail;obtain⟨X,hX,hbX,hM⟩:=dk w m mm ml;rw[hX];clear hX;obtain⟨s1,s2⟩:=HS.out X hbX;have gM:=fun j=>aj hM j;have HM:=ae hM;clear hM;go_region_held3 (fun w'=>w'.cell? (b,1)=some (.int .i64 a.ah)/\w'.cell? (b,2)=some (.slice am a.af.length cm)/\∀ j,w'.cell? ⟨w.heap.size,j,none⟩=(#[.int .i64 m.kind,.int .i64 m.src,.int .i64 m.dst,.int .i64 m.ah,.int .i64 m.ak,.int .i64 m.aO,.int .i64 m.pos,.int .i64 m.value,mm,ml]:Array Value)[j]?) (first|(simp[go_sem];done)|(simp[go_sem, *];done)|go_keep)
  (first
   | (go_at_call 69;refine (HC.out _ hbX.drew).mono ?_;rintro e Y ⟨x,c,rfl,o1,hl,bt⟩;obtain⟨u1,u2⟩:=HS.out Y bt;have ic:=ae ((hl.block _ (aQ HM.out)).trans HM.out);have gY:=fun j=>aj ic.out j;have O1:=ae o1;clear o1)
   | (go_at_call 256;refine (HN.out _ x c bt O1.out).mono ?_;rintro e Z ⟨v,rfl,hv,hl2,cq⟩;have HV:=ae hv;obtain⟨v1,v2⟩:=HS.out Z cq;have gZ:=fun j=>aj ((hl2.block _ (aQ ic.out)).trans ic.out) j;clear hv))
 all_goals (
  go_wp2_with fail;go_ret;exact gx.still HA.out cq HV.out)
theorem ng.not_row {base size n:Nat}{e:TypeId}{xs:List Value}(h:ng w g l)(hv:w.ownsRow base e size v n xs):v.ownBlock≠some g:=by
 intro e1;obtain⟨cs',h',_⟩:=bK hv e1;obtain⟨es,c,h1,_⟩:=h;rw[h1] at h';cases h'
theorem ng.F4 {cs:Array Value}(h:ng w g l)(hb:w.heap[b]?=some (.cells cs T)):g≠b:=by
 rintro rfl;obtain⟨es,c,h1,_⟩:=h;rw[h1] at hb;cases hb
def sS (F:Nat->Prop)(w w':World)(k:Nat):Prop:=F k\/(w.heap.size<=k/\k<w'.heap.size)
theorem jK.turn {a:Acc}(h:jK w F b own a vm g l)(a':Acc)(bN:Value)
  (hb:w'.heap[b]?=some (.cells #[.int .i64 own,a'.ah,bN,.map (some g)] 157)) (hk:∀ k,k<w.heap.size->k≠b->w'.heap[k]?=w.heap[k]?) (hs:w.heap.size<=w'.heap.size) (hm:bd w' bN a'.af) (hf:∀ k,bN.ownBlock=some k->F k\/w.heap.size<=k) (hv:a'.aZ=a.aZ) :
  jK w' (sS F w w') b own a' bN g l where
 blk:=hb
 hm:=hm
 map:=h.map.keep (hk g (h.lt g h.fg) (h.map.F4 h.blk))
 aZ:=fun e=>by
  have:=h.aZ e;rw[hv];cases ho:kF l e with
  | none=>rw[ho] at this;exact this
  | some v =>
   rw[ho] at this;obtain⟨x,y,rfl,h1,h2,h3,h4⟩:=this;exact⟨x,y,rfl,cG h1 fun k e=>hk k (h.lt k (h3 k e)) (fun e2=>aY h.blk h1 (by decide) (e2 ▸ e)),cG h2 fun k e=>hk k (h.lt k (h4 k e)) (fun e2=>aY h.blk h2 (by decide) (e2 ▸ e)),fun k e=>.inl (h3 k e),fun k e=>.inl (h4 k e)⟩
 fb:=.inl h.fb
 fg:=.inl h.fg
 fm:=fun k e=>by
  rcases hf k e with h1|h1
  ·exact .inl h1
  ·obtain⟨_,h2,_⟩:=bK hm e
   exact .inr ⟨h1,(aQ h2)⟩
 lt:=fun k hF=>by
  rcases hF with h1|h1
  ·have:=h.lt k h1
   omega
  ·exact h1.2
theorem jK.put {a:Acc}(h:jK w F b own a vm g l)(E:Int)(x:fK)(xm xl:Value)
  (hmap:ng w' g (sU l E (.agg #[x.promise,x.ak,xm,xl]))) (hk:∀ k,k<w.heap.size->k≠g->w'.heap[k]?=w.heap[k]?) (hs:w.heap.size<=w'.heap.size) (h1:bd w' xm x.af) (h2:bw w' xl x.log)
  (f1:∀ k,xm.ownBlock=some k->F k\/w.heap.size<=k) (f2:∀ k,xl.ownBlock=some k->F k\/w.heap.size<=k) :
  jK w' (sS F w w') b own { a with aZ:=upd a.aZ E x } vm g (sU l E (.agg #[x.promise,x.ak,xm,xl])) where
 blk:=(hk b (h.lt b h.fb) (fun e=>h.map.F4 h.blk e.symm)).trans h.blk
 hm:=cG h.hm fun k e=>hk k (h.lt k (h.fm k e)) (fun e2=>h.map.not_row h.hm (e2 ▸ e))
 map:=hmap
 aZ:=fun e=>by
  rw[Qi];by_cases he:e=E
  ·rw[if_pos he]
   have:upd a.aZ E x e=x:=by unfold upd;rw[if_pos he]
   show sk _ _ _ (upd a.aZ E x e);rw[this];refine⟨xm,xl,rfl,h1,h2,fun k e => ?_,fun k e => ?_⟩
   ·rcases f1 k e with h3|h3
    ·exact .inl h3
    ·obtain⟨_,h4,_⟩:=bK h1 e
     exact .inr ⟨h3,(aQ h4)⟩
   ·rcases f2 k e with h3|h3
    ·exact .inl h3
    ·obtain⟨_,h4,_⟩:=bK h2 e
     exact .inr ⟨h3,(aQ h4)⟩
  ·rw[if_neg he]
   have:upd a.aZ E x e=a.aZ e:=by unfold upd;rw[if_neg he]
   show sk _ _ _ (upd a.aZ E x e);rw[this];have:=h.aZ e;cases ho:kF l e with
   | none=>rw[ho] at this;exact this
   | some v =>
    rw[ho] at this;obtain⟨y,z,rfl,h1,h2,h3,h4⟩:=this;exact⟨y,z,rfl,cG h1 fun k e=>hk k (h.lt k (h3 k e)) (fun e2=>h.map.not_row h1 (e2 ▸ e)),cG h2 fun k e=>hk k (h.lt k (h4 k e)) (fun e2=>h.map.not_row h2 (e2 ▸ e)),fun k e=>.inl (h3 k e),fun k e=>.inl (h4 k e)⟩
 fb:=.inl h.fb
 fg:=.inl h.fg
 fm:=fun k e=>.inl (h.fm k e)
 lt:=fun k hF=>by
  rcases hF with h1|h1
  ·have:=h.lt k h1
   omega
  ·exact h1.2
def Acc.pz (a:Acc)(own:Int)(m:aK):Acc × List aK:=(if a.ah<m.ah then { a with ah:=m.ah,af:=m.af } else a,[{ kind:=16,src:=own,dst:=m.src,ah:=m.ah }])
theorem Moved.more (h:Moved w w' (fun k=>k=b))(hb:F b):Moved w w' F:=⟨h.os,h.tape,h.output,h.size,fun k hk hF=>h.block k hk (fun e=>hF (e ▸ hb))⟩
theorem Ug (F:Nat->Prop)(b:Nat)(own:Int)(a:Acc)(m:aK)(mm ml:Value)(w:World)(h:kJ w F b own a)(hmm:bd w mm m.af)(eC:m.af.length<=5) :
  Calls prog 255 #[b,bL m mm ml] w fun e w'=>gx w w' F b own e (a.pz own m):=by
 have HA:=ae h;obtain⟨vm,g,l,h⟩:=h;have hbl:b<w.heap.size:=h.lt b h.fb;have HI:=ae h;obtain⟨a1,d1,rfl⟩:=aM hmm;have HC:Hid (∀ W,(∀ k,(Value.slice a1 m.af.length d1).ownBlock=some k->W.heap[k]?=w.heap[k]?)->Calls prog 69 #[.slice a1 m.af.length d1] W fun e w'=>∃ x c,e=.returned (.slice x m.af.length c)/\w'.ownsRow W.heap.size 3 1 (.slice x m.af.length c) m.af.length (aJ m.af)/\ai W w'):=ae fun W hk=>ma _ m.af W (cG hmm hk) (by omega)
 have HN:Hid (∀ W F' a' bN l',jK W F' b own a' bN g l'->Calls prog 256 #[b,.agg #[m.kind,m.src,m.dst,m.ah,m.ak,m.aO,m.pos,m.value,.slice a1 m.af.length d1,ml],.agg #[.int .i64 16,(),(),m.ah,(),(),(),(),true,true]] W fun e w'=>∃ v,e=.returned v/\a_ w' W.heap.size v [{ kind:=16,src:=own,dst:=m.src,ah:=m.ah }]/\ai W w'):=ae fun W F' a' bN l' hi=>vV F' b own a' _ g l' m _ ml { kind:=16,src:=0,dst:=0,ah:=m.ah } (.slice none 0 0) (.slice none 0 0) W hi (bE _ _ _ _) (bE _ _ _ _);have tn:=ae hmm;clear h hmm;unfold bL;go_enter func255,ntmps255;go_wp2_with fail;obtain⟨X,hX,hbX,hM⟩:=dk w m (.slice a1 m.af.length d1) ml;rw[hX];clear hX;have IX:=ae (HI.out.below hbX);have s1:=au IX.out.blk 1;have gM:=fun j=>aj hM j;have HM:=ae hM;clear hM;by_cases hlt:a.ah<m.ah
 ·have HT:Hid (a.pz own m=({ a with ah:=m.ah,af:=m.af },[{ kind:=16,src:=own,dst:=m.src,ah:=m.ah }])):=ae (by unfold Acc.pz;rw[if_pos hlt])
  go_quiet (fail);have hbD:=aV hbX nq;have ID:=ae (HI.out.below hbD);have HD:Hid ((X.drewN nq).heap[w.heap.size]?=some (.cells #[m.kind,m.src,m.dst,m.ah,m.ak,m.aO,m.pos,m.value,.slice a1 m.af.length d1,ml] 134)):=HM;generalize X.drewN nq=D at *;clear gM s1 HM;have y3:=aj HD.out 3;have y8:=aj HD.out 8;have e1:=aj ID.out.blk 1;have f1:=aW ID.out.blk 1;have hne:¬ b=w.heap.size:=by omega
  have hne':¬ w.heap.size=b:=by omega
  go_wp2_with fail;have M1:Moved w (D.setCell ⟨b,1,none⟩ (.int .i64 m.ah)) (fun k=>k=b):=((Moved.refl w (fun k=>k=b)).below hbD).setCell ⟨b,1,none⟩ rfl _;have B1:(D.setCell ⟨b,1,none⟩ (.int .i64 m.ah)).heap[b]?=some (.cells #[.int .i64 own,m.ah,vm,.map (some g)] 157):=vg _ ID.out.blk;have G1:(D.setCell ⟨b,1,none⟩ (.int .i64 m.ah)).heap[w.heap.size]?=some (.cells #[m.kind,m.src,m.dst,m.ah,m.ak,m.aO,m.pos,m.value,.slice a1 m.af.length d1,ml] 134):=(cJ _ _ _ _ hne').trans HD.out;generalize D.setCell ⟨b,1,none⟩ (.int .i64 m.ah)=W1 at *;clear y3 y8 e1 f1;refine (HC.out W1 (fun k e=>M1.block k (dL.1 (bK tn.out e).choose_spec.1).1 (fun e2=>aY HI.out.blk tn.out (by decide) (e2 ▸ e)))).mono ?_
  rintro e Y ⟨x,c,rfl,o1,hl⟩;have M2:=M1.below hl;have B2:=(hl.block _ (aQ B1)).trans B1;have G2:=(hl.block _ (aQ G1)).trans G1;have O1:=ae (aP o1 M1.size);have e2:=aj B2 2;have f2:=aW B2 2;have HB2:=ae B2;have HG2:=ae G2;have gY:=fun j=>aj HG2.out j;clear o1 B1 G1 B2 G2;go_wp2_with fail;have B3:(Y.setCell ⟨b,2,none⟩ (.slice x m.af.length c)).heap[b]?=some (.cells #[.int .i64 own,m.ah,.slice x m.af.length c,.map (some g)] 157):=s9 _ HB2.out;have M3:=M2.setCell ⟨b,2,none⟩ rfl (.slice x m.af.length c);have o3:(Y.setCell ⟨b,2,none⟩ (.slice x m.af.length c)).ownsRow W1.heap.size 3 1 (.slice x m.af.length c) m.af.length (aJ m.af):=bu O1.out.1 (aY HB2.out O1.out.1 (by decide)) _
  generalize Y.setCell ⟨b,2,none⟩ (.slice x m.af.length c)=W3 at *;have I3:=ae (HI.out.turn { a with ah:=m.ah,af:=m.af } _ B3 (fun k hk hne=>M3.block k hk hne) M3.size (obs o3 (bl _)) (fun k e=>by obtain⟨_,_,h3⟩:=bK o3 e;have:=O1.out.2;exact .inr (by omega)) rfl)
  refine (HN.out _ _ _ _ _ I3.out).mono ?_
  rintro e Z ⟨v,rfl,hv,hl2⟩;have HV:=ae (hv.base M3.size);clear hv gY;go_wp2_with fail;go_ret;rw[HT.out];refine⟨v,_,rfl,⟨_,_,_,I3.out.below hl2⟩,(M3.below hl2).more HI.out.fb, ?_,HV.out⟩
  rintro k (h1|h1)
  ·exact .inl h1
  ·exact .inr h1.1
 ·have HT:Hid (a.pz own m=(a,[{ kind:=16,src:=own,dst:=m.src,ah:=m.ah }])):=ae (by unfold Acc.pz;rw[if_neg hlt])
  go_quiet (fail);have hbD:=aV hbX nq;have ID:=ae (HI.out.below hbD);have HD:Hid ((X.drewN nq).heap[w.heap.size]?=some (.cells #[m.kind,m.src,m.dst,m.ah,m.ak,m.aO,m.pos,m.value,.slice a1 m.af.length d1,ml] 134)):=HM;generalize X.drewN nq=D at *;clear gM s1 HM;have gD:=fun j=>aj HD.out j;go_wp2_with fail;refine (HN.out _ _ _ _ _ ID.out).mono ?_
  rintro e Z ⟨v,rfl,hv,hl2⟩;have HV:=ae (hv.base hbD.size);clear hv;go_wp2_with fail;go_ret;rw[HT.out];exact gx.still HA.out (hbD.trans (hl2.mono hbD.size)) HV.out
def Acc.py (a:Acc)(own:Int)(m:aK):Acc × List aK :=
 if m.ak<(a.aZ m.ah).promise then (a,[])
 else ({ a with aZ:=upd a.aZ m.ah { a.aZ m.ah with promise:=m.ak } },[{ kind:=10,src:=own,dst:=m.src,ah:=m.ah,ak:=m.ak,aO:=(a.aZ m.ah).ak,af:=(a.aZ m.ah).af,log:=(a.aZ m.ah).log }])
theorem ch (w:World)(a:Array Value)(T:TypeId):∃ X,w.alloc (.cells a T)=X/\ai w X/\X.heap[w.heap.size]?=some (.cells a T) :=
 ⟨_,rfl,(ax _ w).alloc (aG _) _,hnw _ _⟩
theorem Uc (F:Nat->Prop)(b:Nat)(own:Int)(a:Acc)(m:aK)(mm ml:Value)(w:World)(h:kJ w F b own a)(ok:th a) :
  Calls prog 253 #[b,bL m mm ml] w fun e w'=>gx w w' F b own e (a.py own m):=by
 have HA:=ae h;obtain⟨vm,g,l,h⟩:=h;have hbl:b<w.heap.size:=h.lt b h.fb;have HI:=ae h;have HP:Hid (∀ W,ai w W->Calls prog 257 #[b,.agg #[m.kind,m.src,m.dst,m.ah,m.ak,m.aO,m.pos,m.value,mm,ml]] W _):=ae fun W hb=>Gn F b own a vm g l m mm ml W (h.below hb);by_cases hlt:m.ak<(a.aZ m.ah).promise
 ·have HT:Hid (a.py own m=(a,[])):=ae (by unfold Acc.py;rw[if_pos hlt])
  simp only [if_pos hlt,eR hlt,Bool.not_true] at HP;clear h;unfold bL;go_enter func253,ntmps253;go_wp2_with fail;obtain⟨X,hX,hbX,hM⟩:=dk w m mm ml;rw[hX];clear hX;have gM:=fun j=>aj hM j;clear hM;go_wp2_with fail;refine (HP.out _ hbX).mono ?_
  rintro e Y ⟨bN,bD,rfl,h1,h2,h3,h4,bt⟩;have hY:ai w Y:=hbX.trans (bt.mono hbX.size);obtain⟨a1,d1,rfl⟩:=aM h1;obtain⟨a2,d2,rfl⟩:=aM h2;clear h1 h2 h3 h4 gM;go_wp2_with fail;go_ret;rw[HT.out];exact gx.still HA.out (hY.alloc hY.size _) (a_.nil _ _)
 ·have HT:Hid (a.py own m=({ a with aZ:=upd a.aZ m.ah { a.aZ m.ah with promise:=m.ak } },[{ kind:=10,src:=own,dst:=m.src,ah:=m.ah,ak:=m.ak,aO:=(a.aZ m.ah).ak,af:=(a.aZ m.ah).af,log:=(a.aZ m.ah).log }])):=ae (by unfold Acc.py;rw[if_neg hlt])
  simp only [if_neg hlt,ee hlt,Bool.not_false] at HP;clear h;unfold bL;go_enter func253,ntmps253;go_wp2_with fail;obtain⟨X,hX,hbX,hM⟩:=dk w m mm ml;rw[hX];clear hX;have gM:=fun j=>aj hM j;have HM:=ae hM;clear hM;go_wp2_with fail;refine (HP.out _ hbX).mono ?_
  rintro e Y ⟨bN,bD,rfl,h1,h2,h3,h4,bt⟩;have hY:ai w Y:=hbX.trans (bt.mono hbX.size);have ic:=ae ((bt.block _ (aQ HM.out)).trans HM.out);obtain⟨a1,d1,rfl⟩:=aM h1;obtain⟨a2,d2,rfl⟩:=aM h2;have HO:=ae (aP h1 (aP h2 (aP h3 h4)));clear h1 h2 h3 h4 gM HM;have gY:=fun j=>aj ic.out j;go_wp2_with fail;obtain⟨V,hV,bF,hN⟩:=ch Y #[m.ak,.int .i64 (a.aZ m.ah).ak,.slice a1 (a.aZ m.ah).af.length d1,.slice a2 (a.aZ m.ah).log.length d2] 310;rw[hV];clear hV gY;have qF:=ae ((bF.block _ (aQ ic.out)).trans ic.out);have oE:ai w V:=hY.trans (bF.mono hY.size);have IV:=ae (HI.out.below oE);have gV:=fun j=>aj qF.out j;have gN:=fun j=>aj hN j;have cV:=aj IV.out.blk 3;have HN:=ae hN;clear hN;obtain⟨W5,hP,m5,M5⟩:=GR V.drew g l m.ah (.agg #[m.ak,.int .i64 (a.aZ m.ah).ak,.slice a1 (a.aZ m.ah).af.length d1,.slice a2 (a.aZ m.ah).log.length d2]) IV.out.map;have lx:=ae (aP m5 M5);clear m5 M5;go_region;clear gV gN cV hP;have hgl:g<w.heap.size:=HI.out.lt g HI.out.fg;have hk5:∀ k,k<w.heap.size->k≠g->W5.heap[k]?=w.heap[k]?:=fun k hk hne=>(lx.out.2.block k (j5 hk oE.size) hne).trans (oE.block k hk);have hs5:w.heap.size<=W5.heap.size:=bP oE.size lx.out.2.size;have sy:W5.heap[w.heap.size]?=some (.cells #[m.kind,m.src,m.dst,m.ah,m.ak,m.aO,m.pos,m.value,mm,ml] 134):=(lx.out.2.block _ (aQ qF.out) (by omega)).trans qF.out
  have zG:W5.heap[Y.heap.size]?=some (.cells #[m.ak,.int .i64 (a.aZ m.ah).ak,.slice a1 (a.aZ m.ah).af.length d1,.slice a2 (a.aZ m.ah).log.length d2] 310):=(lx.out.2.block _ (aQ HN.out) (by have:=hY.size;omega)).trans HN.out
  have r1:bd W5 (.slice a1 (a.aZ m.ah).af.length d1) (a.aZ m.ah).af:=cG HO.out.1 fun k e=>by
   have hF:=HO.out.2.2.1 k e;have hk:=HI.out.lt k hF;have e2:X.heap[k]?=w.heap[k]?:=hbX.block k hk;have hrow:bd w (.slice a1 (a.aZ m.ah).af.length d1) (a.aZ m.ah).af:=cG HO.out.1 fun k e=>(hbX.block k (HI.out.lt k (HO.out.2.2.1 k e))).symm;exact (hk5 k hk (fun e3=>HI.out.map.not_row hrow (e3 ▸ e))).trans e2.symm
  have r2:bw W5 (.slice a2 (a.aZ m.ah).log.length d2) (a.aZ m.ah).log:=cG HO.out.2.1 fun k e=>by
   have hF:=HO.out.2.2.2 k e;have hk:=HI.out.lt k hF;have e2:X.heap[k]?=w.heap[k]?:=hbX.block k hk;have hrow:bw w (.slice a2 (a.aZ m.ah).log.length d2) (a.aZ m.ah).log:=cG HO.out.2.1 fun k e=>(hbX.block k (HI.out.lt k (HO.out.2.2.2 k e))).symm;exact (hk5 k hk (fun e3=>HI.out.map.not_row hrow (e3 ▸ e))).trans e2.symm
  have I5:=ae (HI.out.put (w':=W5) m.ah { a.aZ m.ah with promise:=m.ak } _ _ lx.out.1 hk5 hs5 r1 r2 (fun k e=>.inl (HO.out.2.2.1 k e)) (fun k e=>.inl (HO.out.2.2.2 k e)))
  have HS:Hid (∀ W,ai W5 W->(∀ j,W.cell? ⟨w.heap.size,j,none⟩=(#[.int .i64 m.kind,.int .i64 m.src,.int .i64 m.dst,.int .i64 m.ah,.int .i64 m.ak,.int .i64 m.aO,.int .i64 m.pos,.int .i64 m.value,mm,ml]:Array Value)[j]?)/\∀ j,W.cell? ⟨Y.heap.size,j,none⟩=(#[.int .i64 m.ak,.int .i64 (a.aZ m.ah).ak,.slice a1 (a.aZ m.ah).af.length d1,.slice a2 (a.aZ m.ah).log.length d2]:Array Value)[j]?):=ae fun W hb=>⟨fun j=>aj ((hb.block _ (aQ sy)).trans sy) j,fun j=>aj ((hb.block _ (aQ zG)).trans zG) j⟩;have hv5:=(ok.v m.ah);have lu:Hid (∀ W,ai W5 W->Calls prog 69 #[.slice a1 (a.aZ m.ah).af.length d1] W fun e w'=>∃ x c,e=.returned (.slice x (a.aZ m.ah).af.length c)/\bd w' (.slice x (a.aZ m.ah).af.length c) (a.aZ m.ah).af/\ai W w'/\ai W5 w'):=ae fun W hb=>(ma _ _ W (aS r1 fun k _ hk=>hb.block k hk) (by omega)).mono (by
   rintro e w' ⟨x,c,rfl,h1,h2⟩;exact⟨x,c,rfl,obs h1 (bl _),h2,hb.trans (h2.mono hb.size)⟩)
  have kl:Hid (∀ W,ai W5 W->Calls prog 147 #[.slice a2 (a.aZ m.ah).log.length d2] W fun e w'=>∃ x c,e=.returned (.slice x (a.aZ m.ah).log.length c)/\bw w' (.slice x (a.aZ m.ah).log.length c) (a.aZ m.ah).log/\ai W w'/\ai W5 w'):=ae fun W hb=>(pO _ _ W (aS r2 fun k _ hk=>hb.block k hk) (by omega)).mono (by
   rintro e w' ⟨x,c,rfl,h1,h2⟩;exact⟨x,c,rfl,obs h1 (bl _),h2,hb.trans (h2.mono hb.size)⟩)
  have rZ:Hid (∀ W x c x' c',ai W5 W->bd W (.slice x (a.aZ m.ah).af.length c) (a.aZ m.ah).af->bw W (.slice x' (a.aZ m.ah).log.length c') (a.aZ m.ah).log->Calls prog 256 #[b,.agg #[m.kind,m.src,m.dst,m.ah,m.ak,m.aO,m.pos,m.value,mm,ml],.agg #[.int .i64 10,(),(),m.ah,m.ak,.int .i64 (a.aZ m.ah).ak,(),(),.slice x (a.aZ m.ah).af.length c,.slice x' (a.aZ m.ah).log.length c']] W fun e w'=>∃ v,e=.returned v/\a_ w' w.heap.size v [{ kind:=10,src:=own,dst:=m.src,ah:=m.ah,ak:=m.ak,aO:=(a.aZ m.ah).ak,af:=(a.aZ m.ah).af,log:=(a.aZ m.ah).log }]/\ai W5 w'):=ae fun W x c x' c' hb h1 h2=>(vV _ b own _ _ g _ m mm ml { kind:=10,src:=0,dst:=0,ah:=m.ah,ak:=m.ak,aO:=(a.aZ m.ah).ak,af:=(a.aZ m.ah).af,log:=(a.aZ m.ah).log } _ _ W (I5.out.below hb) h1 h2).mono (by
   rintro e w' ⟨v,rfl,h1,h2⟩;exact⟨v,rfl,h1.base (bP hs5 hb.size),hb.trans (h2.mono hb.size)⟩)
  obtain⟨p1,p2⟩:=HS.out W5 (ax _ _);have H5:=ae (aP hk5 (aP hs5 (aP lx.out.2 oE)));clear r1 r2 sy zG hk5 hv5;go_wp2_with fail;go_region_held3 (fun w'=>(∀ j,w'.cell? ⟨w.heap.size,j,none⟩=(#[.int .i64 m.kind,.int .i64 m.src,.int .i64 m.dst,.int .i64 m.ah,.int .i64 m.ak,.int .i64 m.aO,.int .i64 m.pos,.int .i64 m.value,mm,ml]:Array Value)[j]?)/\∀ j,w'.cell? ⟨Y.heap.size,j,none⟩=(#[.int .i64 m.ak,.int .i64 (a.aZ m.ah).ak,.slice a1 (a.aZ m.ah).af.length d1,.slice a2 (a.aZ m.ah).log.length d2]:Array Value)[j]?) (first|(simp[go_sem];done)|(simp[go_sem, *];done)|go_keep)
   (first
    | (go_at_call 69;refine (lu.out _ (ax _ _).drew).mono ?_;rintro e Y1 ⟨x1,c1,rfl,o1,hl1,hb1⟩;have O1:=ae o1;obtain⟨u1,u2⟩:=HS.out Y1 hb1;clear o1)
    | (go_at_call 69;refine (lu.out _ hb2).mono ?_;rintro e Y1 ⟨x1,c1,rfl,o1,hl1,hb1⟩;have O1:=ae o1;obtain⟨u1,u2⟩:=HS.out Y1 hb1;have JD:=ae (aS O2.out fun k _ hk=>hl1.block k hk);clear o1)
    | (go_at_call 147;refine (kl.out _ (ax _ _).drew).mono ?_;rintro e Y2 ⟨x2,c2,rfl,o2,hl2,hb2⟩;have O2:=ae o2;obtain⟨v1,v2⟩:=HS.out Y2 hb2;clear o2)
    | (go_at_call 147;refine (kl.out _ hb1).mono ?_;rintro e Y2 ⟨x2,c2,rfl,o2,hl2,hb2⟩;have O2:=ae o2;obtain⟨v1,v2⟩:=HS.out Y2 hb2;have JC:=ae (aS O1.out fun k _ hk=>hl2.block k hk);clear o2)
    | (go_at_call 256;refine (rZ.out _ x1 c1 x2 c2 hb2 JC.out O2.out).mono ?_;rintro e Z ⟨v,rfl,hv,cq⟩;have HV:=ae hv;obtain⟨z1,z2⟩:=HS.out Z cq;clear hv)
    | (go_at_call 256;refine (rZ.out _ x1 c1 x2 c2 hb1 O1.out JD.out).mono ?_;rintro e Z ⟨v,rfl,hv,cq⟩;have HV:=ae hv;obtain⟨z1,z2⟩:=HS.out Z cq;clear hv))
  all_goals (
   go_wp2_with fail;go_ret;rw[HT.out];refine⟨v,_,rfl,⟨_,_,_,I5.out.below cq⟩,⟨?_, ?_, ?_, ?_, ?_⟩, ?_,HV.out⟩
   ·exact cq.os.trans (H5.out.2.2.1.os.trans H5.out.2.2.2.os)
   ·exact cq.tape.trans (H5.out.2.2.1.tape.trans H5.out.2.2.2.tape)
   ·exact cq.output.trans (H5.out.2.2.1.output.trans H5.out.2.2.2.output)
   ·exact bP H5.out.2.1 cq.size
   ·exact fun k hk hF=>(cq.block k (j5 hk H5.out.2.1)).trans (H5.out.1 k hk (fun e=>hF (e ▸ HI.out.fg)))
   ·rintro k (h1|h1)
    ·exact .inl h1
    ·exact .inr h1.1)
end Go.Proofs.YtgieeeeeiggoeaaGreat
