import Derived.Test.YtgieeeeeiggoeaaGreatC18
set_option maxRecDepth 100000
set_option maxHeartbeats 1000000
namespace Go.Proofs.YtgieeeeeiggoeaaGreat
open Go.RowKit Go.Shelf
theorem oon {w w':World}{base size n:Nat}{e:TypeId}{v:Value}{xs:List Value}(ho:w.ownsRow base e size v n xs)(hv:∀ k,v.ownBlock=some k→w'.heap[k]?=w.heap[k]?):w'.ownsRow base e size v n xs:=by
 refine⟨ho.1, ?_⟩
 rcases ho.2 with h0|⟨g,cap,cur,rfl,hb,hg,rest⟩
 ·exact .inl h0
 ·exact .inr ⟨g,cap,cur,rfl,hb,(hv g rfl).trans hg,rest⟩
def VoteAt (w:World)(F:Nat→Prop)(o:Option Value)(a:AVote):Prop :=
 match o with
 | none=>a=AVote.none
 | some v=>∃ vm vl,v=.agg #[.int .i64 a.promise,.int .i64 a.ballot,vm,vl]∧IntOwn w vm a.mems∧LogOwn w vl a.log∧(∀ k,vm.ownBlock=some k→F k)∧(∀ k,vl.ownBlock=some k→F k)
structure AccIn (w:World)(F:Nat→Prop)(b:Nat)(own:Int)(a:Acc)(vm:Value)(g:Nat)(l:List (Int × Value)):Prop where
 blk:w.heap[b]?=some (.cells #[.int .i64 own,.int .i64 a.epoch,vm,.map (some g)] 157)
 hm:IntOwn w vm a.mems
 map:MapAt w g l
 votes:∀ e,VoteAt w F (lookK l e) (a.votes e)
 fb:F b
 fg:F g
 fm:∀ k,vm.ownBlock=some k→F k
 lt:∀ k,F k→k<w.heap.size
def AccAt (w:World)(F:Nat→Prop)(b:Nat)(own:Int)(a:Acc):Prop:=∃ vm g l,AccIn w F b own a vm g l
structure AccOK (a:Acc):Prop where
 m:a.mems.length≤5
 v:∀ e,(a.votes e).mems.length≤5∧(a.votes e).log.length≤24
theorem VoteAt.keep {w w':World}{F F':Nat→Prop}{o:Option Value}{a:AVote}(h:VoteAt w F o a)(hk:∀ k,F k→w'.heap[k]?=w.heap[k]?)(hF:∀ k,F k→F' k):VoteAt w' F' o a:=by
 cases o with
 | none=>exact h
 | some v =>
  obtain⟨vm,vl,rfl,h1,h2,h3,h4⟩:=h;exact⟨vm,vl,rfl,oon h1 fun k e=>hk k (h3 k e),oon h2 fun k e=>hk k (h4 k e),fun k e=>hF k (h3 k e),fun k e=>hF k (h4 k e)⟩
theorem AccIn.keep {w w':World}{F:Nat→Prop}{b:Nat}{own:Int}{a:Acc}{vm:Value}{g:Nat}{l:List (Int × Value)}(h:AccIn w F b own a vm g l)(hk:∀ k,F k→w'.heap[k]?=w.heap[k]?):AccIn w' F b own a vm g l where
 blk:=(hk b h.fb).trans h.blk
 hm:=oon h.hm fun k e=>hk k (h.fm k e)
 map:=h.map.keep (hk g h.fg)
 votes:=fun e=>(h.votes e).keep hk fun _ h=>h
 fb:=h.fb
 fg:=h.fg
 fm:=h.fm
 lt:=fun k hF=>by
  have h1:=h.lt k hF
  have h2:=hk k hF
  rw[Array.getElem?_eq_getElem h1] at h2
  exact (Array.getElem?_eq_some_iff.1 h2).1
theorem AccIn.below {w w':World}{F:Nat→Prop}{b:Nat}{own:Int}{a:Acc}{vm:Value}{g:Nat}{l:List (Int × Value)}(h:AccIn w F b own a vm g l)(hb:Below w.heap.size w w'):AccIn w' F b own a vm g l :=
 h.keep fun k hF=>hb.block k (h.lt k hF)
theorem ballotsOf_any (F:Nat→Prop)(b:Nat)(own:Int)(a:Acc)(vm:Value)(g:Nat)(l:List (Int × Value))(E:Int)(w:World)(h:AccIn w F b own a vm g l) :
  Calls Tryz.prog 258 #[.pointer (some ⟨b,0,none⟩),.int .i64 E] w fun e w'=>∃ vm' vl',e=.returned (.agg #[.int .i64 (a.votes E).promise,.int .i64 (a.votes E).ballot,vm',vl']) ∧
   IntOwn w vm' (a.votes E).mems∧LogOwn w vl' (a.votes E).log∧(∀ k,vm'.ownBlock=some k→F k)∧(∀ k,vl'.ownBlock=some k→F k)∧Below w.heap.size w w':=by
 have hbl:b<w.heap.size:=h.lt b h.fb
 have hb0:=(Below.refl w.heap.size w).alloc (Nat.le_refl _) (.cells #[.int .i64 0,.int .i64 0,.slice none 0 0,.slice none 0 0] 310)
 have c3:(w.alloc (.cells #[.int .i64 0,.int .i64 0,.slice none 0 0,.slice none 0 0] 310)).cell? ⟨b,3,none⟩=some (.map (some g)):=cell_later hb0 (coh h.blk 3)
 have hL:=run_look (w.alloc (.cells #[.int .i64 0,.int .i64 0,.slice none 0 0,.slice none 0 0] 310)) g l E (h.map.keep (hb0.block g (h.lt g h.fg)))
 have hV:=h.votes E
 cases hl:lookK l E with
 | none =>
  rw[hl] at hL hV
  simp only [Option.getD_none,Option.isSome_none] at hL
  have hV':Hid (a.votes E=AVote.none):=hideA hV
  clear h hV hl;go_enter Tryz.func258,Tryz.ntmps258
  go_wp2_with fail;refine bodyPost_ret (v:=.agg #[.int .i64 (-1),.int .i64 (-1),.slice none 0 0,.slice none 0 0]) (by simp[results,Tryz.results258,go_sem]) rfl ?_
  have e1:a.votes E=AVote.none:=hV'.out
  refine⟨.slice none 0 0,.slice none 0 0,(by rw[e1];rfl),(by rw[e1];exact World.ownsRow_nil _ _ _ _),(by rw[e1];exact World.ownsRow_nil _ _ _ _),(fun _ h=>nomatch h),(fun _ h=>nomatch h),(Below.refl w.heap.size w).alloc (Nat.le_refl _) _ |>.alloc (by simp) _⟩
 | some v =>
  rw[hl] at hL hV
  simp only [Option.getD_some,Option.isSome_some] at hL
  obtain⟨vm',vl',rfl,h1,h2,h3,h4⟩:=hV;have H:=hideA (And.intro h1 (And.intro h2 (And.intro h3 h4)))
  obtain⟨a1,d1,rfl⟩:=osh h1
  obtain⟨a2,d2,rfl⟩:=osh h2
  clear h h1 h2 h3 h4 hl;go_enter Tryz.func258,Tryz.ntmps258
  go_wp2_with fail;refine bodyPost_ret (v:=.agg #[.int .i64 (a.votes E).promise,.int .i64 (a.votes E).ballot,.slice a1 (a.votes E).mems.length d1,.slice a2 (a.votes E).log.length d2]) (by simp[results,Tryz.results258,go_sem]) rfl ?_
  exact⟨_,_,rfl,H.out.1,H.out.2.1,H.out.2.2.1,H.out.2.2.2,(Below.refl w.heap.size w).alloc (Nat.le_refl _) _ |>.alloc (by simp) _⟩
theorem two_box (w:World)(a b:Array Value)(S T:TypeId):∃ X,(w.alloc (.cells a S)).alloc (.cells b T)=X∧Below w.heap.size w X∧X.heap[w.heap.size]?=some (.cells a S)∧X.heap[w.heap.size+1]?=some (.cells b T) :=
 ⟨_,rfl,((Below.refl _ w).alloc (Nat.le_refl _) _).alloc (by simp) _,(Below.heap_alloc _ _ _ (by simp)).trans (hnw _ _),heap_new2 _ _ _⟩
theorem set4_0 {W:World}{g:Nat}{T:TypeId}{a b c d:Value}(v:Value)(h:W.heap[g]?=some (.cells #[a,b,c,d] T)):(W.setCell ⟨g,0,none⟩ v).heap[g]?=some (.cells #[v,b,c,d] T):=heap_setCell_same _ _ _ _ _ _ h
theorem set4_1 {W:World}{g:Nat}{T:TypeId}{a b c d:Value}(v:Value)(h:W.heap[g]?=some (.cells #[a,b,c,d] T)):(W.setCell ⟨g,1,none⟩ v).heap[g]?=some (.cells #[a,v,c,d] T):=heap_setCell_same _ _ _ _ _ _ h
theorem set4_2 {W:World}{g:Nat}{T:TypeId}{a b c d:Value}(v:Value)(h:W.heap[g]?=some (.cells #[a,b,c,d] T)):(W.setCell ⟨g,2,none⟩ v).heap[g]?=some (.cells #[a,b,v,d] T):=heap_setCell_same _ _ _ _ _ _ h
theorem set4_3 {W:World}{g:Nat}{T:TypeId}{a b c d:Value}(v:Value)(h:W.heap[g]?=some (.cells #[a,b,c,d] T)):(W.setCell ⟨g,3,none⟩ v).heap[g]?=some (.cells #[a,b,c,v] T):=heap_setCell_same _ _ _ _ _ _ h
theorem ret_block {P:Program}{fn:Func}{R:Ending→World→Prop}{a:Act}{W:World}{v:Value}(g:Nat)(cs:Array Value)(T:TypeId)(hW:W.heap[g]?=some (.cells cs T))(hr:∀ V:World,V.heap[g]?=some (.cells cs T)→(results fn a.tmps).run P V=.ok v V)(hd:a.defers=[])(hR:R (.returned v) W):bodyPost P fn R .ret a W :=
 bodyPost_ret (hr W hW) hd hR
theorem promised_any (F:Nat→Prop)(b:Nat)(own:Int)(a:Acc)(vm:Value)(g:Nat)(l:List (Int × Value))(m:Msg)(mm ml:Value)(w:World)(h:AccIn w F b own a vm g l) :
  Calls Tryz.prog 257 #[.pointer (some ⟨b,0,none⟩),mval m mm ml] w fun e w'=>∃ vm' vl',e=.returned (.tuple #[.agg #[.int .i64 (if m.ballot<(a.votes m.epoch).promise then (a.votes m.epoch).promise else m.ballot),.int .i64 (a.votes m.epoch).ballot,vm',vl'],.bool (!decide (m.ballot<(a.votes m.epoch).promise))]) ∧
   IntOwn w vm' (a.votes m.epoch).mems∧LogOwn w vl' (a.votes m.epoch).log∧(∀ k,vm'.ownBlock=some k→F k)∧(∀ k,vl'.ownBlock=some k→F k)∧Below w.heap.size w w':=by
 have hbl:b<w.heap.size:=h.lt b h.fb
 have HC:Hid (∀ W,Below w.heap.size w W→Calls Tryz.prog 258 #[.pointer (some ⟨b,0,none⟩),.int .i64 m.epoch] W fun e w'=>∃ vm' vl',e=.returned (.agg #[.int .i64 (a.votes m.epoch).promise,.int .i64 (a.votes m.epoch).ballot,vm',vl']) ∧
   IntOwn W vm' (a.votes m.epoch).mems∧LogOwn W vl' (a.votes m.epoch).log∧(∀ k,vm'.ownBlock=some k→F k)∧(∀ k,vl'.ownBlock=some k→F k)∧Below W.heap.size W w'):=hideA fun W hb=>ballotsOf_any F b own a vm g l m.epoch W (h.below hb)
 have HF:=hideA h.lt
 clear h;unfold mval
 go_enter Tryz.func257,Tryz.ntmps257
 go_wp2_with fail;obtain⟨X,hX,hbX,hM,hZ⟩:=two_box w #[.int .i64 m.kind,.int .i64 m.src,.int .i64 m.dst,.int .i64 m.epoch,.int .i64 m.ballot,.int .i64 m.vote,.int .i64 m.pos,.int .i64 m.value,mm,ml] #[.int .i64 0,.int .i64 0,.slice none 0 0,.slice none 0 0] 134 310
 rw[hX];clear hX;have g3:=coh hM 3
 have g4:=coh hM 4
 have HM:=hideA hM;have HZ:=hideA hZ;clear hM hZ;go_wp2_with fail;refine (HC.out _ hbX).mono ?_
 rintro e Y ⟨vm',vl',rfl,h1,h2,h3,h4,hbY⟩;have hY:Below w.heap.size w Y:=hbX.trans (hbY.mono hbX.size)
 have HO:=hideA (And.intro (oon h1 fun k e=>(hbX.block k (HF.out k (h3 k e))).symm:IntOwn w vm' _) (And.intro (oon h2 fun k e=>(hbX.block k (HF.out k (h4 k e))).symm:LogOwn w vl' _) (And.intro h3 h4)))
 obtain⟨a1,d1,rfl⟩:=osh h1
 obtain⟨a2,d2,rfl⟩:=osh h2
 clear h1 h2 h3 h4 g3 g4;have hM:=(hbY.block _ (Array.getElem?_eq_some_iff.1 HM.out).1).trans HM.out
 have hZ:=(hbY.block _ (Array.getElem?_eq_some_iff.1 HZ.out).1).trans HZ.out
 have y4:=coh hM 4
 have z:=fun j=>coh hZ j
 have f:=fun j=>foh hZ j
 have Z9:=hideA hZ;clear hM hZ;by_cases hlt:m.ballot<(a.votes m.epoch).promise
 ·go_wp2_with fail
  refine ret_block (v:=.tuple #[.agg #[.int .i64 (a.votes m.epoch).promise,.int .i64 (a.votes m.epoch).ballot,.slice a1 (a.votes m.epoch).mems.length d1,.slice a2 (a.votes m.epoch).log.length d2],.bool false]) (w.heap.size+1) #[.int .i64 (a.votes m.epoch).promise,.int .i64 (a.votes m.epoch).ballot,.slice a1 (a.votes m.epoch).mems.length d1,.slice a2 (a.votes m.epoch).log.length d2] 310 ?_ (fun V hV=>by have hz:=fun j=>coh hV j;simp[results,Tryz.results257,go_sem,hz]) rfl ?_
  ·exact (set4_3 _ (set4_2 _ (set4_1 _ (set4_0 _ (set4_3 _ (set4_2 _ (set4_1 _ (set4_0 _ Z9.out))))))))
  refine⟨_,_,rfl,HO.out.1,HO.out.2.1,HO.out.2.2.1,HO.out.2.2.2, ?_⟩
  repeat refine Below.setCell ?_ (by exact Nat.le_succ _) _
  exact hY
 ·go_wp2_with fail
  refine ret_block (v:=.tuple #[.agg #[.int .i64 m.ballot,.int .i64 (a.votes m.epoch).ballot,.slice a1 (a.votes m.epoch).mems.length d1,.slice a2 (a.votes m.epoch).log.length d2],.bool true]) (w.heap.size+1) #[.int .i64 m.ballot,.int .i64 (a.votes m.epoch).ballot,.slice a1 (a.votes m.epoch).mems.length d1,.slice a2 (a.votes m.epoch).log.length d2] 310 ?_ (fun V hV=>by have hz:=fun j=>coh hV j;simp[results,Tryz.results257,go_sem,hz]) rfl ?_
  ·exact (set4_3 _ (set4_2 _ (set4_1 _ (set4_0 _ (set4_0 _ (set4_3 _ (set4_2 _ (set4_1 _ (set4_0 _ Z9.out)))))))))
  refine⟨_,_,rfl,HO.out.1,HO.out.2.1,HO.out.2.2.1,HO.out.2.2.2, ?_⟩
  repeat refine Below.setCell ?_ (by exact Nat.le_succ _) _
  exact hY
theorem heap_new3 (w:World)(o o2 o3:Obj):(((w.alloc o).alloc o2).drew.alloc o3).heap[w.heap.size+1+1]?=some o3:=by
 have:=hnw ((w.alloc o).alloc o2).drew o3
 simpa using this
theorem accAnswer_any (F:Nat→Prop)(b:Nat)(own:Int)(a:Acc)(vm:Value)(g:Nat)(l:List (Int × Value))(m:Msg)(mm ml:Value)(n:Msg)(nm nl:Value)(w:World)(h:AccIn w F b own a vm g l)(h1:IntOwn w nm n.mems)(h2:LogOwn w nl n.log) :
  Calls Tryz.prog 256 #[.pointer (some ⟨b,0,none⟩),mval m mm ml,mval n nm nl] w fun e w'=>∃ v,e=.returned v∧MsgsOwn w' w.heap.size v [{ n with src:=own,dst:=m.src }]∧Below w.heap.size w w':=by
 have hbl:b<w.heap.size:=h.lt b h.fb
 have c0:∀ W,Below w.heap.size w W→W.cell? ⟨b,0,none⟩=some (.int .i64 own):=fun W hb=>cell_later hb (coh h.blk 0)
 have HO:=hideA (And.intro h1 h2)
 obtain⟨a1,d1,rfl⟩:=osh h1
 obtain⟨a2,d2,rfl⟩:=osh h2
 have HA:=hideA h.blk
 clear h h1 h2;unfold mval
 go_enter Tryz.func256,Tryz.ntmps256
 go_wp2_with fail;have hb0:Below w.heap.size w ((w.alloc (.cells #[.int .i64 m.kind,.int .i64 m.src,.int .i64 m.dst,.int .i64 m.epoch,.int .i64 m.ballot,.int .i64 m.vote,.int .i64 m.pos,.int .i64 m.value,mm,ml] 134)).alloc (.cells #[.int .i64 n.kind,.int .i64 n.src,.int .i64 n.dst,.int .i64 n.epoch,.int .i64 n.ballot,.int .i64 n.vote,.int .i64 n.pos,.int .i64 n.value,.slice a1 n.mems.length d1,.slice a2 n.log.length d2] 134)):=((Below.refl _ w).alloc (Nat.le_refl _) _).alloc (by simp) _
 have k0:=c0 _ hb0
 have hne:¬ b=w.heap.size:=by omega
 have hne1:¬ b=w.heap.size+1:=by omega
 clear c0;go_region
 go_wp2_with fail;go_ret;refine⟨_,rfl,MsgsOwn.one { n with src:=own,dst:=m.src } (.slice a1 n.mems.length d1) (.slice a2 n.log.length d2) (g:=w.heap.size+1+1) ?_ (by omega) ?_ ?_, ?_⟩
 ·exact heap_new3 _ _ _ _
 ·exact ((HO.out.1.alloc _).alloc _).alloc _
 ·exact ((HO.out.2.alloc _).alloc _).alloc _
 ·exact ((((Below.refl w.heap.size w).alloc (Nat.le_refl _) _).alloc (by simp) _).drew).alloc (by simp;omega) _
def AccOut (w w':World)(F:Nat→Prop)(b:Nat)(own:Int)(e:Ending)(p:Acc × List Msg):Prop :=
 ∃ v F',e=.returned v∧AccAt w' F' b own p.1∧Moved w w' F∧(∀ k,F' k→F k∨w.heap.size≤k)∧MsgsOwn w' w.heap.size v p.2
theorem AccOut.still {w w':World}{F:Nat→Prop}{b:Nat}{own:Int}{a:Acc}{v:Value}{ms:List Msg}(h:AccAt w F b own a)(hb:Below w.heap.size w w')(hv:MsgsOwn w' w.heap.size v ms):AccOut w w' F b own (.returned v) (a,ms):=by
 obtain⟨vm,g,l,h⟩:=h;exact⟨v,F,rfl,⟨vm,g,l,h.below hb⟩,(Moved.refl w F).below hb,fun k h=>.inl h,hv⟩
theorem takeRead_any (F:Nat→Prop)(b:Nat)(own:Int)(a:Acc)(m:Msg)(mm ml:Value)(w:World)(h:AccAt w F b own a)(ok:AccOK a) :
  Calls Tryz.prog 252 #[.pointer (some ⟨b,0,none⟩),mval m mm ml] w fun e w'=>AccOut w w' F b own e (a,[{ kind:=6,src:=own,dst:=m.src,epoch:=a.epoch,ballot:=m.ballot,mems:=a.mems }]):=by
 have HA:=hideA h;obtain⟨vm,g,l,h⟩:=h;have hbl:b<w.heap.size:=h.lt b h.fb
 obtain⟨am,cm,rfl⟩:=osh h.hm
 have HC:Hid (∀ W,Below w.heap.size w W→Calls Tryz.prog 69 #[.slice am a.mems.length cm] W fun e w'=>∃ x c,e=.returned (.slice x a.mems.length c)∧IntOwn w' (.slice x a.mems.length c) a.mems∧Below W.heap.size W w'∧Below w.heap.size w w'):=hideA fun W hb=>(cloneMems_any _ a.mems W (h.below hb).hm (by have:=ok.m;omega)).mono (by
  rintro e w' ⟨x,c,rfl,h1,h2⟩;exact⟨x,c,rfl,obs h1 (Nat.zero_le _),h2,hb.trans (h2.mono hb.size)⟩)
 have HN:Hid (∀ W x c,Below w.heap.size w W→IntOwn W (.slice x a.mems.length c) a.mems→Calls Tryz.prog 256 #[.pointer (some ⟨b,0,none⟩),.agg #[.int .i64 m.kind,.int .i64 m.src,.int .i64 m.dst,.int .i64 m.epoch,.int .i64 m.ballot,.int .i64 m.vote,.int .i64 m.pos,.int .i64 m.value,mm,ml],.agg #[.int .i64 6,.int .i64 0,.int .i64 0,.int .i64 a.epoch,.int .i64 m.ballot,.int .i64 0,.int .i64 0,.int .i64 0,.slice x a.mems.length c,.slice none 0 0]] W fun e w'=>∃ v,e=.returned v∧MsgsOwn w' w.heap.size v [{ kind:=6,src:=own,dst:=m.src,epoch:=a.epoch,ballot:=m.ballot,mems:=a.mems }]∧Below W.heap.size W w'∧Below w.heap.size w w'):=hideA fun W x c hb hx=>(accAnswer_any F b own a _ g l m mm ml { kind:=6,src:=0,dst:=0,epoch:=a.epoch,ballot:=m.ballot,mems:=a.mems } (.slice x a.mems.length c) (.slice none 0 0) W (h.below hb) hx (World.ownsRow_nil _ _ _ _)).mono (by
  rintro e w' ⟨v,rfl,h1,h2⟩;exact⟨v,rfl,h1.base hb.size,h2,hb.trans (h2.mono hb.size)⟩)
 have HB:=hideA h.blk
 have HS:Hid (∀ W,Below w.heap.size w W→W.cell? ⟨b,1,none⟩=some (.int .i64 a.epoch)∧W.cell? ⟨b,2,none⟩=some (.slice am a.mems.length cm)):=hideA fun W hb=>⟨cell_later hb (coh HB.out 1),cell_later hb (coh HB.out 2)⟩
 clear h ok;unfold mval
 go_enter Tryz.func252,Tryz.ntmps252
 go_wp2_with fail;obtain⟨X,hX,hbX,hM⟩:=msg_box w m mm ml
 rw[hX];clear hX;obtain⟨s1,s2⟩:=HS.out X hbX
 have gM:=fun j=>coh hM j
 have HM:=hideA hM;clear hM;go_region_held3 (fun w'=>w'.cell? ⟨b,1,none⟩=some (.int .i64 a.epoch)∧w'.cell? ⟨b,2,none⟩=some (.slice am a.mems.length cm)∧∀ j,w'.cell? ⟨w.heap.size,j,none⟩=(#[.int .i64 m.kind,.int .i64 m.src,.int .i64 m.dst,.int .i64 m.epoch,.int .i64 m.ballot,.int .i64 m.vote,.int .i64 m.pos,.int .i64 m.value,mm,ml]:Array Value)[j]?) (first|(simp[go_sem];done)|(simp[go_sem, *];done)|go_keep)
  (first
   | (go_at_call 69;refine (HC.out _ hbX.drew).mono ?_;rintro e Y ⟨x,c,rfl,o1,hl,hbY⟩;obtain⟨u1,u2⟩:=HS.out Y hbY;have HMY:=hideA ((hl.block _ (Array.getElem?_eq_some_iff.1 HM.out).1).trans HM.out);have gY:=fun j=>coh HMY.out j;have O1:=hideA o1;clear o1)
   | (go_at_call 256;refine (HN.out _ x c hbY O1.out).mono ?_;rintro e Z ⟨v,rfl,hv,hl2,hbZ⟩;have HV:=hideA hv;obtain⟨v1,v2⟩:=HS.out Z hbZ;have gZ:=fun j=>coh ((hl2.block _ (Array.getElem?_eq_some_iff.1 HMY.out).1).trans HMY.out) j;clear hv))
 all_goals (
  go_wp2_with fail;go_ret;exact AccOut.still HA.out hbZ HV.out)
theorem MapAt.not_row {w:World}{g:Nat}{l:List (Int × Value)}{base size n:Nat}{e:TypeId}{v:Value}{xs:List Value}(h:MapAt w g l)(hv:w.ownsRow base e size v n xs):v.ownBlock≠some g:=by
 intro e1;obtain⟨cs',h',_⟩:=obc hv e1
 obtain⟨es,c,h1,_⟩:=h;rw[h1] at h'
 cases h'
theorem MapAt.not_cells {w:World}{g b:Nat}{l:List (Int × Value)}{cs:Array Value}{T:TypeId}(h:MapAt w g l)(hb:w.heap[b]?=some (.cells cs T)):g≠b:=by
 rintro rfl;obtain⟨es,c,h1,_⟩:=h;rw[h1] at hb
 cases hb
def More (F:Nat→Prop)(w w':World)(k:Nat):Prop:=F k∨(w.heap.size≤k∧k<w'.heap.size)
theorem AccIn.turn {w w':World}{F:Nat→Prop}{b:Nat}{own:Int}{a:Acc}{vm:Value}{g:Nat}{l:List (Int × Value)}(h:AccIn w F b own a vm g l)(a':Acc)(vm':Value)
  (hb:w'.heap[b]?=some (.cells #[.int .i64 own,.int .i64 a'.epoch,vm',.map (some g)] 157)) (hk:∀ k,k<w.heap.size→k≠b→w'.heap[k]?=w.heap[k]?) (hs:w.heap.size≤w'.heap.size) (hm:IntOwn w' vm' a'.mems) (hf:∀ k,vm'.ownBlock=some k→F k∨w.heap.size≤k) (hv:a'.votes=a.votes) :
  AccIn w' (More F w w') b own a' vm' g l where
 blk:=hb
 hm:=hm
 map:=h.map.keep (hk g (h.lt g h.fg) (h.map.not_cells h.blk))
 votes:=fun e=>by
  have:=h.votes e
  rw[hv];cases ho:lookK l e with
  | none=>rw[ho] at this;exact this
  | some v =>
   rw[ho] at this
   obtain⟨x,y,rfl,h1,h2,h3,h4⟩:=this;exact⟨x,y,rfl,oon h1 fun k e=>hk k (h.lt k (h3 k e)) (fun e2=>bty h.blk h1 (by decide) (e2 ▸ e)),oon h2 fun k e=>hk k (h.lt k (h4 k e)) (fun e2=>bty h.blk h2 (by decide) (e2 ▸ e)),fun k e=>.inl (h3 k e),fun k e=>.inl (h4 k e)⟩
 fb:=.inl h.fb
 fg:=.inl h.fg
 fm:=fun k e=>by
  rcases hf k e with h1|h1
  ·exact .inl h1
  ·obtain⟨_,h2,_⟩:=obc hm e
   exact .inr ⟨h1,(Array.getElem?_eq_some_iff.1 h2).1⟩
 lt:=fun k hF=>by
  rcases hF with h1|h1
  ·have:=h.lt k h1
   omega
  ·exact h1.2
theorem AccIn.put {w w':World}{F:Nat→Prop}{b:Nat}{own:Int}{a:Acc}{vm:Value}{g:Nat}{l:List (Int × Value)}(h:AccIn w F b own a vm g l)(E:Int)(x:AVote)(xm xl:Value)
  (hmap:MapAt w' g (putAt l E (.agg #[.int .i64 x.promise,.int .i64 x.ballot,xm,xl]))) (hk:∀ k,k<w.heap.size→k≠g→w'.heap[k]?=w.heap[k]?) (hs:w.heap.size≤w'.heap.size) (h1:IntOwn w' xm x.mems) (h2:LogOwn w' xl x.log)
  (f1:∀ k,xm.ownBlock=some k→F k∨w.heap.size≤k) (f2:∀ k,xl.ownBlock=some k→F k∨w.heap.size≤k) :
  AccIn w' (More F w w') b own { a with votes:=upd a.votes E x } vm g (putAt l E (.agg #[.int .i64 x.promise,.int .i64 x.ballot,xm,xl])) where
 blk:=(hk b (h.lt b h.fb) (fun e=>h.map.not_cells h.blk e.symm)).trans h.blk
 hm:=oon h.hm fun k e=>hk k (h.lt k (h.fm k e)) (fun e2=>h.map.not_row h.hm (e2 ▸ e))
 map:=hmap
 votes:=fun e=>by
  rw[lookK_put];by_cases he:e=E
  ·rw[if_pos he]
   have:upd a.votes E x e=x:=by unfold upd;rw[if_pos he]
   show VoteAt _ _ _ (upd a.votes E x e)
   rw[this];refine⟨xm,xl,rfl,h1,h2,fun k e => ?_,fun k e => ?_⟩
   ·rcases f1 k e with h3|h3
    ·exact .inl h3
    ·obtain⟨_,h4,_⟩:=obc h1 e
     exact .inr ⟨h3,(Array.getElem?_eq_some_iff.1 h4).1⟩
   ·rcases f2 k e with h3|h3
    ·exact .inl h3
    ·obtain⟨_,h4,_⟩:=obc h2 e
     exact .inr ⟨h3,(Array.getElem?_eq_some_iff.1 h4).1⟩
  ·rw[if_neg he]
   have:upd a.votes E x e=a.votes e:=by unfold upd;rw[if_neg he]
   show VoteAt _ _ _ (upd a.votes E x e)
   rw[this];have:=h.votes e
   cases ho:lookK l e with
   | none=>rw[ho] at this;exact this
   | some v =>
    rw[ho] at this
    obtain⟨y,z,rfl,h1,h2,h3,h4⟩:=this;exact⟨y,z,rfl,oon h1 fun k e=>hk k (h.lt k (h3 k e)) (fun e2=>h.map.not_row h1 (e2 ▸ e)),oon h2 fun k e=>hk k (h.lt k (h4 k e)) (fun e2=>h.map.not_row h2 (e2 ▸ e)),fun k e=>.inl (h3 k e),fun k e=>.inl (h4 k e)⟩
 fb:=.inl h.fb
 fg:=.inl h.fg
 fm:=fun k e=>.inl (h.fm k e)
 lt:=fun k hF=>by
  rcases hF with h1|h1
  ·have:=h.lt k h1
   omega
  ·exact h1.2
def Acc.takeWrite (a:Acc)(own:Int)(m:Msg):Acc × List Msg:=(if a.epoch<m.epoch then { a with epoch:=m.epoch,mems:=m.mems } else a,[{ kind:=16,src:=own,dst:=m.src,epoch:=m.epoch }])
theorem Moved.more {w w':World}{F:Nat→Prop}{b:Nat}(h:Moved w w' (fun k=>k=b))(hb:F b):Moved w w' F:=⟨h.os,h.tape,h.output,h.size,fun k hk hF=>h.block k hk (fun e=>hF (e ▸ hb))⟩
theorem takeWrite_any (F:Nat→Prop)(b:Nat)(own:Int)(a:Acc)(m:Msg)(mm ml:Value)(w:World)(h:AccAt w F b own a)(hmm:IntOwn w mm m.mems)(hm5:m.mems.length≤5) :
  Calls Tryz.prog 255 #[.pointer (some ⟨b,0,none⟩),mval m mm ml] w fun e w'=>AccOut w w' F b own e (a.takeWrite own m):=by
 have HA:=hideA h;obtain⟨vm,g,l,h⟩:=h;have hbl:b<w.heap.size:=h.lt b h.fb
 have HI:=hideA h;obtain⟨a1,d1,rfl⟩:=osh hmm
 have HC:Hid (∀ W,(∀ k,(Value.slice a1 m.mems.length d1).ownBlock=some k→W.heap[k]?=w.heap[k]?)→Calls Tryz.prog 69 #[.slice a1 m.mems.length d1] W fun e w'=>∃ x c,e=.returned (.slice x m.mems.length c)∧w'.ownsRow W.heap.size 3 1 (.slice x m.mems.length c) m.mems.length (ints m.mems)∧Below W.heap.size W w'):=hideA fun W hk=>cloneMems_any _ m.mems W (oon hmm hk) (by omega)
 have HN:Hid (∀ W F' a' vm' l',AccIn W F' b own a' vm' g l'→Calls Tryz.prog 256 #[.pointer (some ⟨b,0,none⟩),.agg #[.int .i64 m.kind,.int .i64 m.src,.int .i64 m.dst,.int .i64 m.epoch,.int .i64 m.ballot,.int .i64 m.vote,.int .i64 m.pos,.int .i64 m.value,.slice a1 m.mems.length d1,ml],.agg #[.int .i64 16,.int .i64 0,.int .i64 0,.int .i64 m.epoch,.int .i64 0,.int .i64 0,.int .i64 0,.int .i64 0,.slice none 0 0,.slice none 0 0]] W fun e w'=>∃ v,e=.returned v∧MsgsOwn w' W.heap.size v [{ kind:=16,src:=own,dst:=m.src,epoch:=m.epoch }]∧Below W.heap.size W w'):=hideA fun W F' a' vm' l' hi=>accAnswer_any F' b own a' _ g l' m _ ml { kind:=16,src:=0,dst:=0,epoch:=m.epoch } (.slice none 0 0) (.slice none 0 0) W hi (World.ownsRow_nil _ _ _ _) (World.ownsRow_nil _ _ _ _)
 have HM0:=hideA hmm;clear h hmm;unfold mval
 go_enter Tryz.func255,Tryz.ntmps255
 go_wp2_with fail;obtain⟨X,hX,hbX,hM⟩:=msg_box w m (.slice a1 m.mems.length d1) ml
 rw[hX];clear hX;have IX:=hideA (HI.out.below hbX)
 have s1:X.cell? ⟨b,1,none⟩=some (.int .i64 a.epoch):=coh IX.out.blk 1
 have gM:=fun j=>coh hM j
 have HM:=hideA hM;clear hM;by_cases hlt:a.epoch<m.epoch
 ·have HT:Hid (a.takeWrite own m=({ a with epoch:=m.epoch,mems:=m.mems },[{ kind:=16,src:=own,dst:=m.src,epoch:=m.epoch }])):=hideA (by unfold Acc.takeWrite;rw[if_pos hlt])
  go_quiet (fail)
  have hbD:=below_drewN hbX nq
  have ID:=hideA (HI.out.below hbD)
  have HD:Hid ((X.drewN nq).heap[w.heap.size]?=some (.cells #[.int .i64 m.kind,.int .i64 m.src,.int .i64 m.dst,.int .i64 m.epoch,.int .i64 m.ballot,.int .i64 m.vote,.int .i64 m.pos,.int .i64 m.value,.slice a1 m.mems.length d1,ml] 134)):=HM
  generalize X.drewN nq=D at *
  clear gM s1 HM;have y3:=coh HD.out 3
  have y8:=coh HD.out 8
  have e1:=coh ID.out.blk 1
  have f1:=foh ID.out.blk 1
  have hne:¬ b=w.heap.size:=by omega
  have hne':¬ w.heap.size=b:=by omega
  go_wp2_with fail;have M1:Moved w (D.setCell ⟨b,1,none⟩ (.int .i64 m.epoch)) (fun k=>k=b):=((Moved.refl w (fun k=>k=b)).below hbD).setCell ⟨b,1,none⟩ rfl _
  have B1:(D.setCell ⟨b,1,none⟩ (.int .i64 m.epoch)).heap[b]?=some (.cells #[.int .i64 own,.int .i64 m.epoch,vm,.map (some g)] 157):=set4_1 _ ID.out.blk
  have G1:(D.setCell ⟨b,1,none⟩ (.int .i64 m.epoch)).heap[w.heap.size]?=some (.cells #[.int .i64 m.kind,.int .i64 m.src,.int .i64 m.dst,.int .i64 m.epoch,.int .i64 m.ballot,.int .i64 m.vote,.int .i64 m.pos,.int .i64 m.value,.slice a1 m.mems.length d1,ml] 134):=(Below.heap_setCell _ _ _ _ hne').trans HD.out
  generalize D.setCell ⟨b,1,none⟩ (.int .i64 m.epoch)=W1 at *
  clear y3 y8 e1 f1;refine (HC.out W1 (fun k e=>M1.block k (Array.getElem?_eq_some_iff.1 (obc HM0.out e).choose_spec.1).1 (fun e2=>bty HI.out.blk HM0.out (by decide) (e2 ▸ e)))).mono ?_
  rintro e Y ⟨x,c,rfl,o1,hl⟩;have M2:=M1.below hl
  have B2:=(hl.block _ (Array.getElem?_eq_some_iff.1 B1).1).trans B1
  have G2:=(hl.block _ (Array.getElem?_eq_some_iff.1 G1).1).trans G1
  have O1:=hideA (And.intro o1 M1.size)
  have e2:=coh B2 2
  have f2:=foh B2 2
  have HB2:=hideA B2;have HG2:=hideA G2;have gY:=fun j=>coh HG2.out j
  clear o1 B1 G1 B2 G2;go_wp2_with fail;have B3:(Y.setCell ⟨b,2,none⟩ (.slice x m.mems.length c)).heap[b]?=some (.cells #[.int .i64 own,.int .i64 m.epoch,.slice x m.mems.length c,.map (some g)] 157):=set4_2 _ HB2.out
  have M3:=M2.setCell ⟨b,2,none⟩ rfl (.slice x m.mems.length c)
  have o3:(Y.setCell ⟨b,2,none⟩ (.slice x m.mems.length c)).ownsRow W1.heap.size 3 1 (.slice x m.mems.length c) m.mems.length (ints m.mems):=ownsRow_setCell_other O1.out.1 (bty HB2.out O1.out.1 (by decide)) _
  generalize Y.setCell ⟨b,2,none⟩ (.slice x m.mems.length c)=W3 at *
  have I3:=hideA (HI.out.turn { a with epoch:=m.epoch,mems:=m.mems } _ B3 (fun k hk hne=>M3.block k hk hne) M3.size (obs o3 (Nat.zero_le _)) (fun k e=>by obtain⟨_,_,h3⟩:=obc o3 e;have:=O1.out.2;exact .inr (by omega)) rfl)
  refine (HN.out _ _ _ _ _ I3.out).mono ?_
  rintro e Z ⟨v,rfl,hv,hl2⟩;have HV:=hideA (hv.base M3.size)
  clear hv gY;go_wp2_with fail;go_ret;rw[HT.out];refine⟨v,_,rfl,⟨_,_,_,I3.out.below hl2⟩,(M3.below hl2).more HI.out.fb, ?_,HV.out⟩
  rintro k (h1|h1)
  ·exact .inl h1
  ·exact .inr h1.1
 ·have HT:Hid (a.takeWrite own m=(a,[{ kind:=16,src:=own,dst:=m.src,epoch:=m.epoch }])):=hideA (by unfold Acc.takeWrite;rw[if_neg hlt])
  go_quiet (fail)
  have hbD:=below_drewN hbX nq
  have ID:=hideA (HI.out.below hbD)
  have HD:Hid ((X.drewN nq).heap[w.heap.size]?=some (.cells #[.int .i64 m.kind,.int .i64 m.src,.int .i64 m.dst,.int .i64 m.epoch,.int .i64 m.ballot,.int .i64 m.vote,.int .i64 m.pos,.int .i64 m.value,.slice a1 m.mems.length d1,ml] 134)):=HM
  generalize X.drewN nq=D at *
  clear gM s1 HM;have gD:=fun j=>coh HD.out j
  go_wp2_with fail;refine (HN.out _ _ _ _ _ ID.out).mono ?_
  rintro e Z ⟨v,rfl,hv,hl2⟩;have HV:=hideA (hv.base hbD.size)
  clear hv;go_wp2_with fail;go_ret;rw[HT.out];exact AccOut.still HA.out (hbD.trans (hl2.mono hbD.size)) HV.out
end Go.Proofs.YtgieeeeeiggoeaaGreat
