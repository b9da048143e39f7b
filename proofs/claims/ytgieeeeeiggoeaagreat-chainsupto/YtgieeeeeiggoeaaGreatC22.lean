import Derived.Test.YtgieeeeeiggoeaaGreatC21
import Derived.Test.YtgieeeeeiggoeaaGreatC06
set_option maxRecDepth 100000
set_option maxHeartbeats 4000000
namespace Go.Proofs.YtgieeeeeiggoeaaGreat
open Go.RowKit Go.Shelf
theorem MasIn.turn {w w':World}{F:Nat→Prop}{b:Nat}{own:Int}{p:PMas}{vw vo vm vl:Value}(h:MasIn w F b own p vw vo vm vl)(p':PMas)(vw' vo' vm' vl':Value)
  (hb:w'.heap[b]?=some (.cells #[.int .i64 own,.int .i64 (p'.begun:Int),.int .i64 p'.doing,vw',.int .i64 p'.epoch,vo',.int .i64 p'.vote,vm',vl'] 146)) (hs:w.heap.size≤w'.heap.size)
  (h1:IntOwn w' vw' p'.waits) (h2:IntOwn w' vo' p'.old) (h3:IntOwn w' vm' p'.mems) (h4:LogOwn w' vl' p'.log) (f1:∀ k,vw'.ownBlock=some k→F k∨w.heap.size≤k) (f2:∀ k,vo'.ownBlock=some k→F k∨w.heap.size≤k)
  (f3:∀ k,vm'.ownBlock=some k→F k∨w.heap.size≤k) (f4:∀ k,vl'.ownBlock=some k→F k∨w.heap.size≤k) (ap:∀ k,vw'.ownBlock=some k→vo'.ownBlock≠some k∧vm'.ownBlock≠some k) :
  MasIn w' (More F w w') b own p' vw' vo' vm' vl':=by
 have key:∀ {base size n:Nat} {e:TypeId} {v:Value} {xs:List Value},w'.ownsRow base e size v n xs→(∀ k,v.ownBlock=some k→F k∨w.heap.size≤k)→∀ k,v.ownBlock=some k→More F w w' k:=by
  intro base size n e v xs hr hf k hk;rcases hf k hk with h5|h5
  ·exact .inl h5
  ·obtain⟨_,h6,_⟩:=obc hr hk
   exact .inr ⟨h5,(Array.getElem?_eq_some_iff.1 h6).1⟩
 refine⟨hb,h1,h2,h3,h4,.inl h.fb,key h1 f1,key h2 f2,key h3 f3,key h4 f4,ap,fun k hF => ?_⟩
 rcases hF with h5|h5
 ·have:=h.lt k h5
  omega
 ·exact h5.2
def MasOut (w w':World)(F:Nat→Prop)(b:Nat)(own:Int)(e:Ending)(q:PMas × List Msg):Prop :=
 ∃ v F',e=.returned v∧MasAt w' F' b own q.1∧Moved w w' F∧(∀ k,F' k→F k∨w.heap.size≤k)∧MsgsOwn w' w.heap.size v q.2
theorem set9_2 {W:World}{g:Nat}{T:TypeId}{a0 a1 a2 a3 a4 a5 a6 a7 a8:Value}(v:Value)(h:W.heap[g]?=some (.cells #[a0,a1,a2,a3,a4,a5,a6,a7,a8] T)):(W.setCell ⟨g,2,none⟩ v).heap[g]?=some (.cells #[a0,a1,v,a3,a4,a5,a6,a7,a8] T):=heap_setCell_same _ _ _ _ _ _ h
theorem set9_3 {W:World}{g:Nat}{T:TypeId}{a0 a1 a2 a3 a4 a5 a6 a7 a8:Value}(v:Value)(h:W.heap[g]?=some (.cells #[a0,a1,a2,a3,a4,a5,a6,a7,a8] T)):(W.setCell ⟨g,3,none⟩ v).heap[g]?=some (.cells #[a0,a1,a2,v,a4,a5,a6,a7,a8] T):=heap_setCell_same _ _ _ _ _ _ h
theorem MasIn.beside {w w':World}{F:Nat→Prop}{b:Nat}{own:Int}{p:PMas}{vw vo vm vl:Value}(h:MasIn w F b own p vw vo vm vl)(hm:Moved w w' (fun k=>k=b)){base size n:Nat}{e:TypeId}{v:Value}{xs:List Value}(hv:w.ownsRow base e size v n xs)(he:e≠146):w'.ownsRow base e size v n xs :=
 hm.owns hv fun _ hk e1=>bty h.blk hv he (e1 ▸ hk)
theorem turnTo_any (F:Nat→Prop)(b:Nat)(own:Int)(p:PMas)(d:Int)(va:Value)(l:List Int)(w:World)(h:MasAt w F b own p)(ok:MasOK p own)(ha:IntOwn w va l)(hl5:l.length≤5)(hd:0≤d∧d≤6) :
  Calls Tryz.prog 70 #[.pointer (some ⟨b,0,none⟩),.int .i64 d,va] w fun e w'=>MasOut w w' F b own e (p.turnTo own d l):=by
 obtain⟨vw,vo,vm,vl,h⟩:=h;have hbl:b<w.heap.size:=h.lt b h.fb
 have HI:=hideA h;obtain⟨aa,ca,rfl⟩:=osh ha
 have HC:Hid (∀ W,Moved w W (fun k=>k=b)→Calls Tryz.prog 69 #[.slice aa l.length ca] W fun e w'=>∃ x c,e=.returned (.slice x l.length c)∧w'.ownsRow W.heap.size 3 1 (.slice x l.length c) l.length (ints l)∧Below W.heap.size W w'):=hideA fun W hM=>cloneMems_any _ l W (h.beside hM ha (by decide)) (by omega)
 have ok':MasOK { p with doing:=d,waits:=l } own:=⟨hl5,ok.o,ok.m,ok.l,ok.b,hd,ok.n⟩
 have HT:Hid (∀ W F' vw vo vm vl,MasIn W F' b own { p with doing:=d,waits:=l } vw vo vm vl→Calls Tryz.prog 125 #[.pointer (some ⟨b,0,none⟩)] W fun e w'=>∃ v,e=.returned v∧MsgsOwn w' W.heap.size v ({ p with doing:=d,waits:=l }.asks own)∧Below W.heap.size W w'):=hideA fun W F' _ _ _ _ hi=>masTick_any F' b own _ _ _ _ _ W hi ok'
 have c2:=coh h.blk 2
 have f2:=foh h.blk 2
 clear h ok ok' ha;go_enter Tryz.func70,Tryz.ntmps70
 go_wp2_with fail;have M1:Moved w (w.setCell ⟨b,2,none⟩ (.int .i64 d)) (fun k=>k=b):=(Moved.refl w (fun k=>k=b)).setCell ⟨b,2,none⟩ rfl _
 have B1:=set9_2 (.int .i64 d) HI.out.blk
 generalize w.setCell ⟨b,2,none⟩ (.int .i64 d)=W1 at *
 clear c2 f2;refine (HC.out W1 M1).mono ?_
 rintro e Y ⟨x,c,rfl,o1,hl⟩;have M2:=M1.below hl
 have B2:=(hl.block _ (Array.getElem?_eq_some_iff.1 B1).1).trans B1
 have O1:=hideA o1;have c3:=coh B2 3
 have f3:=foh B2 3
 have HB2:=hideA B2;clear o1 B1 B2;go_wp2_with fail;have B3:=set9_3 (.slice x l.length c) HB2.out
 have M3:=M2.setCell ⟨b,3,none⟩ rfl (.slice x l.length c)
 have o3:(Y.setCell ⟨b,3,none⟩ (.slice x l.length c)).ownsRow W1.heap.size 3 1 (.slice x l.length c) l.length (ints l):=ownsRow_setCell_other O1.out (bty HB2.out O1.out (by decide)) _
 generalize Y.setCell ⟨b,3,none⟩ (.slice x l.length c)=W3 at *
 have hs1:=M1.size
 have hnew:∀ k,(Value.slice x l.length c).ownBlock=some k→w.heap.size≤k:=fun k e=>by obtain⟨_,_,h3⟩:=obc o3 e;omega
 have I3:=hideA (HI.out.turn { p with doing:=d,waits:=l } _ _ _ _ B3 M3.size (obs o3 (Nat.zero_le _)) (HI.out.beside M3 HI.out.ho (by decide)) (HI.out.beside M3 HI.out.hm (by decide)) (HI.out.beside M3 HI.out.hl (by decide)) (fun k e=>.inr (hnew k e)) (fun k e=>.inl (HI.out.fo k e)) (fun k e=>.inl (HI.out.fm k e)) (fun k e=>.inl (HI.out.fl k e))
  (fun k e=>⟨fun e2=>by have:=HI.out.lt k (HI.out.fo k e2);have:=hnew k e;omega,fun e2=>by have:=HI.out.lt k (HI.out.fm k e2);have:=hnew k e;omega⟩))
 clear c3 f3;refine (HT.out _ _ _ _ _ _ I3.out).mono ?_
 rintro e Z ⟨v,rfl,hv,hl2⟩;have HV:=hideA (hv.base M3.size)
 clear hv;go_wp2_with fail;go_ret;refine⟨v,_,rfl,⟨_,_,_,_,I3.out.below hl2⟩,(M3.below hl2).more HI.out.fb, ?_,HV.out⟩
 rintro k (h1|h1)
 ·exact .inl h1
 ·exact .inr h1.1
theorem acceptors_any (w:World):Calls Tryz.prog 71 #[] w fun e w'=>∃ x c,e=.returned (.slice x 3 c)∧w'.ownsRow w.heap.size 3 1 (.slice x 3 c) 3 (ints [100,101,102])∧Below w.heap.size w w':=by
 have hc:=memNumbers_any 100 3 w (by omega) (by omega)
 go_enter Tryz.func71,Tryz.ntmps71
 go_wp2_with fail;refine hc.mono ?_
 rintro e W ⟨c,rfl,ho,hb⟩;have HO:=hideA ho;clear ho hc;go_wp2_with fail;go_ret;exact⟨_,c,rfl,HO.out,hb⟩
theorem set9_4 {W:World}{g:Nat}{T:TypeId}{a0 a1 a2 a3 a4 a5 a6 a7 a8:Value}(v:Value)(h:W.heap[g]?=some (.cells #[a0,a1,a2,a3,a4,a5,a6,a7,a8] T)):(W.setCell ⟨g,4,none⟩ v).heap[g]?=some (.cells #[a0,a1,a2,a3,v,a5,a6,a7,a8] T):=heap_setCell_same _ _ _ _ _ _ h
theorem set9_5 {W:World}{g:Nat}{T:TypeId}{a0 a1 a2 a3 a4 a5 a6 a7 a8:Value}(v:Value)(h:W.heap[g]?=some (.cells #[a0,a1,a2,a3,a4,a5,a6,a7,a8] T)):(W.setCell ⟨g,5,none⟩ v).heap[g]?=some (.cells #[a0,a1,a2,a3,a4,v,a6,a7,a8] T):=heap_setCell_same _ _ _ _ _ _ h
theorem set9_6 {W:World}{g:Nat}{T:TypeId}{a0 a1 a2 a3 a4 a5 a6 a7 a8:Value}(v:Value)(h:W.heap[g]?=some (.cells #[a0,a1,a2,a3,a4,a5,a6,a7,a8] T)):(W.setCell ⟨g,6,none⟩ v).heap[g]?=some (.cells #[a0,a1,a2,a3,a4,a5,v,a7,a8] T):=heap_setCell_same _ _ _ _ _ _ h
theorem set9_7 {W:World}{g:Nat}{T:TypeId}{a0 a1 a2 a3 a4 a5 a6 a7 a8:Value}(v:Value)(h:W.heap[g]?=some (.cells #[a0,a1,a2,a3,a4,a5,a6,a7,a8] T)):(W.setCell ⟨g,7,none⟩ v).heap[g]?=some (.cells #[a0,a1,a2,a3,a4,a5,a6,v,a8] T):=heap_setCell_same _ _ _ _ _ _ h
theorem set9_8 {W:World}{g:Nat}{T:TypeId}{a0 a1 a2 a3 a4 a5 a6 a7 a8:Value}(v:Value)(h:W.heap[g]?=some (.cells #[a0,a1,a2,a3,a4,a5,a6,a7,a8] T)):(W.setCell ⟨g,8,none⟩ v).heap[g]?=some (.cells #[a0,a1,a2,a3,a4,a5,a6,a7,v] T):=heap_setCell_same _ _ _ _ _ _ h
theorem set9_all {W:World}{g:Nat}{T:TypeId}{a0 a1 a2 a3 a4 a5 a6 a7 a8:Value}(v2 v3 v4 v5 v6 v7 v8:Value)(h:W.heap[g]?=some (.cells #[a0,a1,a2,a3,a4,a5,a6,a7,a8] T)) :
  (((((((W.setCell ⟨g,2,none⟩ v2).setCell ⟨g,3,none⟩ v3).setCell ⟨g,4,none⟩ v4).setCell ⟨g,5,none⟩ v5).setCell ⟨g,6,none⟩ v6).setCell ⟨g,7,none⟩ v7).setCell ⟨g,8,none⟩ v8).heap[g]?=some (.cells #[a0,a1,v2,v3,v4,v5,v6,v7,v8] T) :=
 set9_8 _ (set9_7 _ (set9_6 _ (set9_5 _ (set9_4 _ (set9_3 _ (set9_2 _ h))))))
theorem moved9 {w W:World}{g:Nat}(v2 v3 v4 v5 v6 v7 v8:Value)(h:Moved w W (fun k=>k=g)) :
  Moved w (((((((W.setCell ⟨g,2,none⟩ v2).setCell ⟨g,3,none⟩ v3).setCell ⟨g,4,none⟩ v4).setCell ⟨g,5,none⟩ v5).setCell ⟨g,6,none⟩ v6).setCell ⟨g,7,none⟩ v7).setCell ⟨g,8,none⟩ v8) (fun k=>k=g) :=
 ((((((h.setCell ⟨g,2,none⟩ rfl v2).setCell ⟨g,3,none⟩ rfl v3).setCell ⟨g,4,none⟩ rfl v4).setCell ⟨g,5,none⟩ rfl v5).setCell ⟨g,6,none⟩ rfl v6).setCell ⟨g,7,none⟩ rfl v7).setCell ⟨g,8,none⟩ rfl v8
def MasTo (w w':World)(F:Nat→Prop)(b:Nat)(own:Int)(p':PMas):Prop:=∃ F',MasAt w' F' b own p'∧Moved w w' F∧(∀ k,F' k→F k∨w.heap.size≤k)
theorem no_row {k:Nat}:(Value.slice none 0 0).ownBlock≠some k:=fun h=>nomatch h
theorem rest_any (F:Nat→Prop)(b:Nat)(own:Int)(p:PMas)(w:World)(h:MasAt w F b own p) :
  Calls Tryz.prog 240 #[.pointer (some ⟨b,0,none⟩)] w fun e w'=>(∃ v,e=.returned v)∧MasTo w w' F b own p.idle:=by
 obtain⟨vw,vo,vm,vl,h⟩:=h;obtain⟨aw,cw,rfl⟩:=osh h.hw
 obtain⟨ao,co,rfl⟩:=osh h.ho
 obtain⟨am,cm,rfl⟩:=osh h.hm
 obtain⟨al,cl,rfl⟩:=osh h.hl
 have HI:=hideA h;have c:=fun j=>coh h.blk j
 have f:=fun j=>foh h.blk j
 clear h;go_enter Tryz.func240,Tryz.ntmps240
 go_wp2_with fail;go_end0
 have M:=moved9 (.int .i64 0) (.slice none 0 0) (.int .i64 0) (.slice none 0 0) (.int .i64 0) (.slice none 0 0) (.slice none 0 0) (Moved.refl w (fun k=>k=b))
 have B:=set9_all (.int .i64 0) (.slice none 0 0) (.int .i64 0) (.slice none 0 0) (.int .i64 0) (.slice none 0 0) (.slice none 0 0) HI.out.blk
 refine⟨⟨_,rfl⟩,_,⟨_,_,_,_,HI.out.turn p.idle (.slice none 0 0) (.slice none 0 0) (.slice none 0 0) (.slice none 0 0) B M.size (World.ownsRow_nil _ _ _ _) (World.ownsRow_nil _ _ _ _) (World.ownsRow_nil _ _ _ _) (World.ownsRow_nil _ _ _ _) (fun k e=>absurd e no_row) (fun k e=>absurd e no_row) (fun k e=>absurd e no_row) (fun k e=>absurd e no_row) (fun k e=>absurd e no_row)⟩,M.more HI.out.fb, ?_⟩
 rintro k (h1|h1)
 ·exact .inl h1
 ·exact .inr h1.1
theorem masCrash_any (F:Nat→Prop)(b:Nat)(own:Int)(p:PMas)(w:World)(h:MasAt w F b own p) :
  Calls Tryz.prog 237 #[.pointer (some ⟨b,0,none⟩)] w fun e w'=>(∃ v,e=.returned v)∧MasTo w w' F b own p.idle:=by
 have hc:=rest_any F b own p w h
 clear h;go_enter Tryz.func237,Tryz.ntmps237
 go_wp2_with fail;refine hc.mono ?_
 rintro e W ⟨⟨v,rfl⟩,ht⟩;clear hc;go_wp2_with fail;go_end0
 exact⟨⟨_,rfl⟩,ht⟩
theorem masRestart_any (b:Nat)(w:World):Calls Tryz.prog 238 #[.pointer (some ⟨b,0,none⟩)] w fun e w'=>(∃ v,e=.returned v)∧w'=w:=by
 go_enter Tryz.func238,Tryz.ntmps238
 go_wp2_with fail;go_end0
 exact⟨⟨_,rfl⟩,rfl⟩
theorem masNew_any (own:Int)(w:World) :
  Calls Tryz.prog 110 #[.int .i64 own] w fun e w'=>∃ b F,e=.returned (.pointer (some ⟨b,0,none⟩))∧MasAt w' F b own { begun:=0,doing:=0,waits:=[],epoch:=0,old:=[],vote:=0,mems:=[],log:=[] }∧(∀ k,F k→w.heap.size≤k)∧Below w.heap.size w w':=by
 go_enter Tryz.func110,Tryz.ntmps110
 go_wp2_with fail;go_ret;refine⟨_,fun k=>k=w.heap.size,rfl,⟨.slice none 0 0,.slice none 0 0,.slice none 0 0,.slice none 0 0,hnw _ _,World.ownsRow_nil _ _ _ _,World.ownsRow_nil _ _ _ _,World.ownsRow_nil _ _ _ _,World.ownsRow_nil _ _ _ _,rfl,fun k e=>absurd e no_row,fun k e=>absurd e no_row,fun k e=>absurd e no_row,fun k e=>absurd e no_row,fun k e=>absurd e no_row,fun k e=>by simp;omega⟩,fun k e=>by omega,(Below.refl _ w).alloc (Nat.le_refl _) _⟩
theorem MasOut.after {w W w':World}{F F1:Nat→Prop}{b:Nat}{own:Int}{e:Ending}{q:PMas × List Msg}(hM:Moved w W F)(hF:∀ k,F1 k→F k∨w.heap.size≤k)(h:MasOut W w' F1 b own e q):MasOut w w' F b own e q:=by
 obtain⟨v,F',rfl,h1,h2,h3,h4⟩:=h;have hs:=hM.size
 refine⟨v,F',rfl,h1,hM.trans h2 (fun k hk h5 => ?_),fun k hk => ?_,h4.base hM.size⟩
 ·rcases hF k h5 with h6|h6
  ·exact h6
  ·omega
 ·rcases h3 k hk with h6|h6
  ·exact hF k h6
  ·exact .inr (by omega)
theorem hasEnough_any (F:Nat→Prop)(b:Nat)(own:Int)(p:PMas)(w:World)(h:MasAt w F b own p) :
  Calls Tryz.prog 244 #[.pointer (some ⟨b,0,none⟩)] w fun e w'=>e=.returned (.bool p.enough)∧w'=w:=by
 obtain⟨vw,vo,vm,vl,h⟩:=h;obtain⟨aw,cw,rfl⟩:=osh h.hw
 have c2:=coh h.blk 2
 have c3:=coh h.blk 3
 have HE:Hid (p.enough=if p.doing=2 then true else if p.doing=5 then decide ((p.waits.length:Int)=0) else decide ((p.waits.length:Int)≤1)):=hideA rfl
 clear h;generalize p.doing=d at *
 generalize p.enough=en at *
 generalize p.waits.length=n at *
 cases t2:(d == 2) with
 | true =>
  have P2:Hid (d=2):=hideA (by simpa using t2)
  have H:Hid (en=true):=hideA (by rw[HE.out,if_pos P2.out])
  go_enter Tryz.func244,Tryz.ntmps244
  go_wp2_with fail;go_ret;exact⟨by rw[H.out];rfl,rfl⟩
 | false =>
  have N2:Hid (¬ d=2):=hideA (by simpa using t2)
  cases t5:(d == 5) with
  | true =>
   have P5:Hid (d=5):=hideA (by simpa using t5)
   have H:Hid (en=decide ((n:Int)=0)):=hideA (by rw[HE.out,if_neg N2.out,if_pos P5.out])
   clear HE;go_enter Tryz.func244,Tryz.ntmps244
   go_wp2_with fail;go_ret;refine⟨?_,rfl⟩
   rw[H.out];show Ending.returned (Value.bool ((n:Int) == 0))=_
   rfl
  | false =>
   have N5:Hid (¬ d=5):=hideA (by simpa using t5)
   have H:Hid (en=decide ((n:Int)≤1)):=hideA (by rw[HE.out,if_neg N2.out,if_neg N5.out])
   clear HE;go_enter Tryz.func244,Tryz.ntmps244
   go_wp2_with fail;go_ret;refine⟨?_,rfl⟩
   rw[H.out];simp
theorem isAnswer_any (F:Nat→Prop)(b:Nat)(own:Int)(p:PMas)(m:Msg)(mm ml:Value)(w:World)(h:MasAt w F b own p)(ok:MasOK p own) :
  Calls Tryz.prog 241 #[.pointer (some ⟨b,0,none⟩),mval m mm ml] w fun e w'=>e=.returned (.bool (p.isAnswer own m))∧Below w.heap.size w w':=by
 obtain⟨vw,vo,vm,vl,h⟩:=h;have hbl:b<w.heap.size:=h.lt b h.fb
 have HI:=hideA h;have hd:=ok.d
 have HQ:Hid (∀ W,Below w.heap.size w W→Calls Tryz.prog 183 #[.pointer (some ⟨b,0,none⟩)] W fun e w'=>e=.returned (.int .i64 (p.ballot own))∧∃ q,w'=W.drewN q):=hideA fun W hb=>ballot_any F b own p _ _ _ _ W (HI.out.below hb) ok.b ok.n
 have HS:Hid (∀ W,Below w.heap.size w W→W.cell? ⟨b,2,none⟩=some (.int .i64 p.doing)∧W.cell? ⟨b,4,none⟩=some (.int .i64 p.epoch)):=hideA fun W hb=>⟨coh (HI.out.below hb).blk 2,coh (HI.out.below hb).blk 4⟩
 clear h ok;generalize hqq:p.isAnswer own m=qq
 unfold PMas.isAnswer at hqq
 generalize p.ballot own=bal at *
 generalize p.doing=doing at *
 generalize p.epoch=ep at *
 generalize hob:(m.ballot == bal)=ob at *
 generalize hoe:(m.epoch == ep)=oe at *
 unfold mval
 rcases (by omega:doing=0∨doing=1∨doing=2∨doing=3∨doing=4∨doing=5∨doing=6) with rfl|rfl|rfl|rfl|rfl|rfl|rfl
 all_goals simp only [Int.reduceEq,if_true,if_false] at hqq
 ·-- 0
  have HQQ:=hideA hqq;clear hqq;go_enter Tryz.func241,Tryz.ntmps241
  go_wp2_with fail;obtain⟨X,hX,hbX,hM⟩:=msg_box w m mm ml
  rw[hX];clear hX;obtain⟨s2,s4⟩:=HS.out X hbX
  have gM:=fun j=>coh hM j
  go_quiet ((go_at_call 183;refine (HQ.out _ (below_drewN hbX _)).mono ?_;rintro e w9 ⟨rfl,q,rfl⟩;exact⟨rfl,_,World.drewN_drewN _ _ _⟩))
  go_wp2_with fail;go_quiet (fail)
  go_wp2_with fail;go_ret;refine⟨?_,by first|exact below_drewN (below_drewN hbX _) _|exact below_drewN hbX _⟩
  rw[← HQQ.out];rfl
 ·generalize hk:(m.kind == 6)=kk at *
  cases kk<;>cases oe
  all_goals (
   have HQQ:=hideA hqq;clear hqq;go_enter Tryz.func241,Tryz.ntmps241
   go_wp2_with fail;obtain⟨X,hX,hbX,hM⟩:=msg_box w m mm ml
   rw[hX];clear hX;obtain⟨s2,s4⟩:=HS.out X hbX
   have gM:=fun j=>coh hM j
   go_quiet ((go_at_call 183;refine (HQ.out _ (below_drewN hbX _)).mono ?_;rintro e w9 ⟨rfl,q,rfl⟩;exact⟨rfl,_,World.drewN_drewN _ _ _⟩))
   go_wp2_with fail;go_quiet (fail)
   go_wp2_with fail;go_ret;refine⟨?_,by first|exact below_drewN (below_drewN hbX _) _|exact below_drewN hbX _⟩
   rw[← HQQ.out];rfl)
 ·generalize hk:(m.kind == 8)=kk at *
  cases kk<;>cases oe
  all_goals (
   have HQQ:=hideA hqq;clear hqq;go_enter Tryz.func241,Tryz.ntmps241
   go_wp2_with fail;obtain⟨X,hX,hbX,hM⟩:=msg_box w m mm ml
   rw[hX];clear hX;obtain⟨s2,s4⟩:=HS.out X hbX
   have gM:=fun j=>coh hM j
   go_quiet ((go_at_call 183;refine (HQ.out _ (below_drewN hbX _)).mono ?_;rintro e w9 ⟨rfl,q,rfl⟩;exact⟨rfl,_,World.drewN_drewN _ _ _⟩))
   go_wp2_with fail;go_quiet (fail)
   go_wp2_with fail;go_ret;refine⟨?_,by first|exact below_drewN (below_drewN hbX _) _|exact below_drewN hbX _⟩
   rw[← HQQ.out];rfl)
 ·generalize hk:(m.kind == 10)=kk at *
  cases kk<;>cases oe
  all_goals (
   have HQQ:=hideA hqq;clear hqq;go_enter Tryz.func241,Tryz.ntmps241
   go_wp2_with fail;obtain⟨X,hX,hbX,hM⟩:=msg_box w m mm ml
   rw[hX];clear hX;obtain⟨s2,s4⟩:=HS.out X hbX
   have gM:=fun j=>coh hM j
   go_quiet ((go_at_call 183;refine (HQ.out _ (below_drewN hbX _)).mono ?_;rintro e w9 ⟨rfl,q,rfl⟩;exact⟨rfl,_,World.drewN_drewN _ _ _⟩))
   go_wp2_with fail;go_quiet (fail)
   go_wp2_with fail;go_ret;refine⟨?_,by first|exact below_drewN (below_drewN hbX _) _|exact below_drewN hbX _⟩
   rw[← HQQ.out];rfl)
 ·generalize hk:(m.kind == 12)=kk at *
  cases kk<;>cases oe
  all_goals (
   have HQQ:=hideA hqq;clear hqq;go_enter Tryz.func241,Tryz.ntmps241
   go_wp2_with fail;obtain⟨X,hX,hbX,hM⟩:=msg_box w m mm ml
   rw[hX];clear hX;obtain⟨s2,s4⟩:=HS.out X hbX
   have gM:=fun j=>coh hM j
   go_quiet ((go_at_call 183;refine (HQ.out _ (below_drewN hbX _)).mono ?_;rintro e w9 ⟨rfl,q,rfl⟩;exact⟨rfl,_,World.drewN_drewN _ _ _⟩))
   go_wp2_with fail;go_quiet (fail)
   go_wp2_with fail;go_ret;refine⟨?_,by first|exact below_drewN (below_drewN hbX _) _|exact below_drewN hbX _⟩
   rw[← HQQ.out];rfl)
 ·generalize hk:(m.kind == 14)=kk at *
  cases kk<;>cases oe
  all_goals (
   have HQQ:=hideA hqq;clear hqq;go_enter Tryz.func241,Tryz.ntmps241
   go_wp2_with fail;obtain⟨X,hX,hbX,hM⟩:=msg_box w m mm ml
   rw[hX];clear hX;obtain⟨s2,s4⟩:=HS.out X hbX
   have gM:=fun j=>coh hM j
   go_quiet ((go_at_call 183;refine (HQ.out _ (below_drewN hbX _)).mono ?_;rintro e w9 ⟨rfl,q,rfl⟩;exact⟨rfl,_,World.drewN_drewN _ _ _⟩))
   go_wp2_with fail;go_quiet (fail)
   go_wp2_with fail;go_ret;refine⟨?_,by first|exact below_drewN (below_drewN hbX _) _|exact below_drewN hbX _⟩
   rw[← HQQ.out];rfl)
 ·generalize hk:(m.kind == 16)=kk at *
  cases kk<;>cases oe
  all_goals (
   have HQQ:=hideA hqq;clear hqq;go_enter Tryz.func241,Tryz.ntmps241
   go_wp2_with fail;obtain⟨X,hX,hbX,hM⟩:=msg_box w m mm ml
   rw[hX];clear hX;obtain⟨s2,s4⟩:=HS.out X hbX
   have gM:=fun j=>coh hM j
   go_quiet ((go_at_call 183;refine (HQ.out _ (below_drewN hbX _)).mono ?_;rintro e w9 ⟨rfl,q,rfl⟩;exact⟨rfl,_,World.drewN_drewN _ _ _⟩))
   go_wp2_with fail;go_quiet (fail)
   go_wp2_with fail;go_ret;refine⟨?_,by first|exact below_drewN (below_drewN hbX _) _|exact below_drewN hbX _⟩
   rw[← HQQ.out];rfl)
theorem more_part {F:Nat→Prop}{w w':World}:∀ k,More F w w' k→F k∨w.heap.size≤k:=by
 rintro k (h1|h1)
 ·exact .inl h1
 ·exact .inr h1.1
theorem MasTo.still {w w':World}{F:Nat→Prop}{b:Nat}{own:Int}{p:PMas}(h:MasAt w F b own p)(hb:Below w.heap.size w w'):MasTo w w' F b own p:=by
 obtain⟨vw,vo,vm,vl,h⟩:=h;exact⟨F,⟨vw,vo,vm,vl,h.below hb⟩,(Moved.refl w F).below hb,fun k h=>.inl h⟩
theorem MasIn.next {w W:World}{F:Nat→Prop}{b:Nat}{own:Int}{p:PMas}{vw vo vm vl:Value}(h:MasIn w F b own p vw vo vm vl)(hM:Moved w W (fun k=>k=b))(p':PMas)(vo' vm' vl':Value)(hw:p'.waits=p.waits)
  (hb:W.heap[b]?=some (.cells #[.int .i64 own,.int .i64 (p'.begun:Int),.int .i64 p'.doing,vw,.int .i64 p'.epoch,vo',.int .i64 p'.vote,vm',vl'] 146))
  (h2:IntOwn W vo' p'.old) (h3:IntOwn W vm' p'.mems) (h4:LogOwn W vl' p'.log) (f2:∀ k,vo'.ownBlock=some k→vo.ownBlock=some k∨w.heap.size≤k) (f3:∀ k,vm'.ownBlock=some k→vm.ownBlock=some k∨w.heap.size≤k) (f4:∀ k,vl'.ownBlock=some k→vl.ownBlock=some k∨w.heap.size≤k) :
  MasTo w W F b own p':=by
 have hW:IntOwn W vw p'.waits:=by rw[hw];exact h.beside hM h.hw (by decide)
 refine⟨_,⟨_,_,_,_,h.turn p' vw vo' vm' vl' hb hM.size hW h2 h3 h4 (fun k e=>.inl (h.fw k e)) (fun k e=>(f2 k e).imp (h.fo k) id) (fun k e=>(f3 k e).imp (h.fm k) id) (fun k e=>(f4 k e).imp (h.fl k) id) (fun k e=>⟨fun e2 => ?_,fun e2 => ?_⟩)⟩,hM.more h.fb,more_part⟩
 ·rcases f2 k e2 with h5|h5
  ·exact (h.ap k e).1 h5
  ·have:=h.lt k (h.fw k e);omega
 ·rcases f3 k e2 with h5|h5
  ·exact (h.ap k e).2 h5
  ·have:=h.lt k (h.fw k e);omega
theorem learnRegister_any (F:Nat→Prop)(b:Nat)(own:Int)(p:PMas)(m:Msg)(mm ml:Value)(w:World)(h:MasAt w F b own p)(hmm:IntOwn w mm m.mems)(hm5:m.mems.length≤5)(he:0≤m.epoch∧m.epoch≤100000) :
  Calls Tryz.prog 246 #[.pointer (some ⟨b,0,none⟩),mval m mm ml] w fun e w'=>(∃ v,e=.returned v)∧MasTo w w' F b own (p.learnRegister m):=by
 have HA:=hideA h;obtain⟨vw,vo,vm,vl,h⟩:=h;have hbl:b<w.heap.size:=h.lt b h.fb
 have HI:=hideA h;obtain⟨a1,d1,rfl⟩:=osh hmm
 have HC:Hid (∀ W,Moved w W (fun k=>k=b)→Calls Tryz.prog 69 #[.slice a1 m.mems.length d1] W fun e w'=>∃ x c,e=.returned (.slice x m.mems.length c)∧w'.ownsRow W.heap.size 3 1 (.slice x m.mems.length c) m.mems.length (ints m.mems)∧Below W.heap.size W w'):=hideA fun W hM=>cloneMems_any _ m.mems W (h.beside hM hmm (by decide)) (by omega)
 have HL:Hid (p.learnRegister m=if p.epoch<m.epoch+1 then { p with epoch:=m.epoch+1,old:=m.mems } else p):=hideA rfl
 have hwr:IntKind.i64.wrap (m.epoch+1)=m.epoch+1:=by rw[IntKind.wrap_i64];omega
 clear h hmm;unfold mval
 go_enter Tryz.func246,Tryz.ntmps246
 go_upto_region 1 with fail
 obtain⟨X,hX,hbX,hM⟩:=msg_box w m (.slice a1 m.mems.length d1) ml
 rw[hX];clear hX;have IX:=hideA (HI.out.below hbX)
 have s4:X.cell? ⟨b,4,none⟩=some (.int .i64 p.epoch):=coh IX.out.blk 4
 have fz4:=foh IX.out.blk 4
 have gM:=fun j=>coh hM j
 have HM:=hideA hM;clear hM;have hne:¬ b=w.heap.size:=by omega
 have hne':¬ w.heap.size=b:=by omega
 by_cases hlt:p.epoch<m.epoch+1
 ·have HT:Hid (p.learnRegister m={ p with epoch:=m.epoch+1,old:=m.mems }):=hideA (by rw[HL.out,if_pos hlt])
  go_wp2_with fail;have M1:Moved w (X.setCell ⟨b,4,none⟩ (.int .i64 (m.epoch+1))) (fun k=>k=b):=((Moved.refl w (fun k=>k=b)).below hbX).setCell ⟨b,4,none⟩ rfl _
  have B1:=set9_4 (.int .i64 (m.epoch+1)) IX.out.blk
  generalize X.setCell ⟨b,4,none⟩ (.int .i64 (m.epoch+1))=W1 at *
  clear s4 fz4 gM;refine (HC.out W1 M1).mono ?_
  rintro e Y ⟨x,c,rfl,o1,hl⟩;have M2:=M1.below hl
  have B2:=(hl.block _ (Array.getElem?_eq_some_iff.1 B1).1).trans B1
  have O1:=hideA (And.intro o1 M1.size)
  have e5:=coh B2 5
  have f5:=foh B2 5
  have HB2:=hideA B2;clear o1 B1 B2;go_wp2_with fail;go_end0
  have B3:=set9_5 (.slice x m.mems.length c) HB2.out
  have M3:=M2.setCell ⟨b,5,none⟩ rfl (.slice x m.mems.length c)
  have o3:(Y.setCell ⟨b,5,none⟩ (.slice x m.mems.length c)).ownsRow W1.heap.size 3 1 (.slice x m.mems.length c) m.mems.length (ints m.mems):=ownsRow_setCell_other O1.out.1 (bty HB2.out O1.out.1 (by decide)) _
  refine⟨⟨_,rfl⟩, ?_⟩
  rw[HT.out];exact HI.out.next M3 { p with epoch:=m.epoch+1,old:=m.mems } _ _ _ rfl B3 (obs o3 (Nat.zero_le _)) (HI.out.beside M3 HI.out.hm (by decide)) (HI.out.beside M3 HI.out.hl (by decide)) (fun k e=>by obtain⟨_,_,h3⟩:=obc o3 e;have:=O1.out.2;exact .inr (by omega)) (fun k e=>.inl e) (fun k e=>.inl e)
 ·have HT:Hid (p.learnRegister m=p):=hideA (by rw[HL.out,if_neg hlt])
  go_wp2_with fail;go_end0
  refine⟨⟨_,rfl⟩, ?_⟩
  rw[HT.out];exact MasTo.still HA.out hbX
theorem learnVote_any (F:Nat→Prop)(b:Nat)(own:Int)(p:PMas)(m:Msg)(mm ml:Value)(w:World)(h:MasAt w F b own p)(hmm:IntOwn w mm m.mems)(hml:LogOwn w ml m.log)(hm5:m.mems.length≤5)(hl24:m.log.length≤24) :
  Calls Tryz.prog 247 #[.pointer (some ⟨b,0,none⟩),mval m mm ml] w fun e w'=>(∃ v,e=.returned v)∧MasTo w w' F b own (p.learnVote m):=by
 have HA:=hideA h;obtain⟨vw,vo,vm,vl,h⟩:=h;have hbl:b<w.heap.size:=h.lt b h.fb
 have HI:=hideA h;obtain⟨a1,d1,rfl⟩:=osh hmm
 obtain⟨a2,d2,rfl⟩:=osh hml
 have HC:Hid (∀ W,Moved w W (fun k=>k=b)→Calls Tryz.prog 69 #[.slice a1 m.mems.length d1] W fun e w'=>∃ x c,e=.returned (.slice x m.mems.length c)∧w'.ownsRow W.heap.size 3 1 (.slice x m.mems.length c) m.mems.length (ints m.mems)∧Below W.heap.size W w'):=hideA fun W hM=>cloneMems_any _ m.mems W (h.beside hM hmm (by decide)) (by omega)
 have HD:Hid (∀ W,Moved w W (fun k=>k=b)→Calls Tryz.prog 147 #[.slice a2 m.log.length d2] W fun e w'=>∃ x c,e=.returned (.slice x m.log.length c)∧w'.ownsRow W.heap.size 42 5 (.slice x m.log.length c) m.log.length (ints (entsNums m.log))∧Below W.heap.size W w'):=hideA fun W hM=>cloneLog_any _ m.log W (h.beside hM hml (by decide)) (by omega)
 have HL:Hid (p.learnVote m=if p.vote<m.vote then { p with vote:=m.vote,mems:=m.mems,log:=m.log } else p):=hideA rfl
 clear h hmm hml;unfold mval
 go_enter Tryz.func247,Tryz.ntmps247
 go_upto_region 1 with fail
 obtain⟨X,hX,hbX,hM⟩:=msg_box w m (.slice a1 m.mems.length d1) (.slice a2 m.log.length d2)
 rw[hX];clear hX;have IX:=hideA (HI.out.below hbX)
 have s6:X.cell? ⟨b,6,none⟩=some (.int .i64 p.vote):=coh IX.out.blk 6
 have gM:=fun j=>coh hM j
 have HM:=hideA hM;clear hM;have hne:¬ b=w.heap.size:=by omega
 have hne':¬ w.heap.size=b:=by omega
 by_cases hlt:p.vote<m.vote
 ·have HT:Hid (p.learnVote m={ p with vote:=m.vote,mems:=m.mems,log:=m.log }):=hideA (by rw[HL.out,if_pos hlt])
  go_quiet (fail)
  have hbD:=below_drewN hbX nq
  have ID:=hideA (HI.out.below hbD)
  have HD2:Hid ((X.drewN nq).heap[w.heap.size]?=some (.cells #[.int .i64 m.kind,.int .i64 m.src,.int .i64 m.dst,.int .i64 m.epoch,.int .i64 m.ballot,.int .i64 m.vote,.int .i64 m.pos,.int .i64 m.value,.slice a1 m.mems.length d1,.slice a2 m.log.length d2] 134)):=HM
  generalize X.drewN nq=D at *
  clear gM s6 HM;have y5:=coh HD2.out 5
  have y8:=coh HD2.out 8
  have e6:=coh ID.out.blk 6
  have f6:=foh ID.out.blk 6
  go_wp2_with fail;have M1:Moved w (D.setCell ⟨b,6,none⟩ (.int .i64 m.vote)) (fun k=>k=b):=((Moved.refl w (fun k=>k=b)).below hbD).setCell ⟨b,6,none⟩ rfl _
  have B1:=set9_6 (.int .i64 m.vote) ID.out.blk
  have G1:(D.setCell ⟨b,6,none⟩ (.int .i64 m.vote)).heap[w.heap.size]?=some (.cells #[.int .i64 m.kind,.int .i64 m.src,.int .i64 m.dst,.int .i64 m.epoch,.int .i64 m.ballot,.int .i64 m.vote,.int .i64 m.pos,.int .i64 m.value,.slice a1 m.mems.length d1,.slice a2 m.log.length d2] 134):=(Below.heap_setCell _ _ _ _ hne').trans HD2.out
  generalize D.setCell ⟨b,6,none⟩ (.int .i64 m.vote)=W1 at *
  clear y5 y8 e6 f6;refine (HC.out W1 M1).mono ?_
  rintro e Y ⟨x,c,rfl,o1,hl⟩;have M2:=M1.below hl
  have B2:=(hl.block _ (Array.getElem?_eq_some_iff.1 B1).1).trans B1
  have G2:=(hl.block _ (Array.getElem?_eq_some_iff.1 G1).1).trans G1
  have O1:=hideA (And.intro o1 M1.size)
  have e7:=coh B2 7
  have f7:=foh B2 7
  have HB2:=hideA B2;have HG2:=hideA G2;have y9:=coh HG2.out 9
  clear o1 B1 B2 G1 G2;go_wp2_with fail;have B3:=set9_7 (.slice x m.mems.length c) HB2.out
  have M3:=M2.setCell ⟨b,7,none⟩ rfl (.slice x m.mems.length c)
  have o3:(Y.setCell ⟨b,7,none⟩ (.slice x m.mems.length c)).ownsRow W1.heap.size 3 1 (.slice x m.mems.length c) m.mems.length (ints m.mems):=ownsRow_setCell_other O1.out.1 (bty HB2.out O1.out.1 (by decide)) _
  generalize Y.setCell ⟨b,7,none⟩ (.slice x m.mems.length c)=W3 at *
  have O3:=hideA o3;have HB3:=hideA B3;clear e7 f7 o3 B3 y9;refine (HD.out W3 M3).mono ?_
  rintro e V ⟨x2,c2,rfl,o4,hl2⟩;have M4:=M3.below hl2
  have B4:=(hl2.block _ (Array.getElem?_eq_some_iff.1 HB3.out).1).trans HB3.out
  have O4:=hideA (And.intro o4 M3.size)
  have O3':=hideA (okp O3.out fun k _ hk=>hl2.block k hk)
  have e8:=coh B4 8
  have f8:=foh B4 8
  have HB4:=hideA B4;clear o4 B4;go_wp2_with fail;go_end0
  have B5:=set9_8 (.slice x2 m.log.length c2) HB4.out
  have M5:=M4.setCell ⟨b,8,none⟩ rfl (.slice x2 m.log.length c2)
  have o5:(V.setCell ⟨b,8,none⟩ (.slice x2 m.log.length c2)).ownsRow W3.heap.size 42 5 (.slice x2 m.log.length c2) m.log.length (ints (entsNums m.log)):=ownsRow_setCell_other O4.out.1 (bty HB4.out O4.out.1 (by decide)) _
  have o6:(V.setCell ⟨b,8,none⟩ (.slice x2 m.log.length c2)).ownsRow W1.heap.size 3 1 (.slice x m.mems.length c) m.mems.length (ints m.mems):=ownsRow_setCell_other O3'.out (bty HB4.out O3'.out (by decide)) _
  refine⟨⟨_,rfl⟩, ?_⟩
  rw[HT.out];exact HI.out.next M5 { p with vote:=m.vote,mems:=m.mems,log:=m.log } _ _ _ rfl B5 (HI.out.beside M5 HI.out.ho (by decide)) (obs o6 (Nat.zero_le _)) (obs o5 (Nat.zero_le _)) (fun k e=>.inl e) (fun k e=>by obtain⟨_,_,h3⟩:=obc o6 e;have:=O1.out.2;exact .inr (by omega)) (fun k e=>by obtain⟨_,_,h3⟩:=obc o5 e;have:=O4.out.2;exact .inr (by omega))
 ·have HT:Hid (p.learnVote m=p):=hideA (by rw[HL.out,if_neg hlt])
  go_quiet (fail)
  have hbD:=below_drewN hbX nq
  clear gM s6;go_wp2_with fail;go_end0
  refine⟨⟨_,rfl⟩, ?_⟩
  rw[HT.out];exact MasTo.still HA.out hbD
theorem learn_any (F:Nat→Prop)(b:Nat)(own:Int)(p:PMas)(m:Msg)(mm ml:Value)(w:World)(h:MasAt w F b own p)(hmm:IntOwn w mm m.mems)(hml:LogOwn w ml m.log)(hm5:m.mems.length≤5)(hl24:m.log.length≤24)(he:0≤m.epoch∧m.epoch≤100000) :
  Calls Tryz.prog 243 #[.pointer (some ⟨b,0,none⟩),mval m mm ml] w fun e w'=>(∃ v,e=.returned v)∧MasTo w w' F b own (p.learn m):=by
 have HA:=hideA h;have HR:Hid (∀ W,Below w.heap.size w W→Calls Tryz.prog 246 #[.pointer (some ⟨b,0,none⟩),mval m mm ml] W fun e w'=>(∃ v,e=.returned v)∧MasTo W w' F b own (p.learnRegister m)):=hideA fun W hb=>learnRegister_any F b own p m mm ml W (by obtain⟨vw,vo,vm,vl,h⟩:=h;exact⟨vw,vo,vm,vl,h.below hb⟩) (okp hmm fun k _ hk=>hb.block k hk) hm5 he
 have HV:Hid (∀ W,Below w.heap.size w W→Calls Tryz.prog 247 #[.pointer (some ⟨b,0,none⟩),mval m mm ml] W fun e w'=>(∃ v,e=.returned v)∧MasTo W w' F b own (p.learnVote m)):=hideA fun W hb=>learnVote_any F b own p m mm ml W (by obtain⟨vw,vo,vm,vl,h⟩:=h;exact⟨vw,vo,vm,vl,h.below hb⟩) (okp hmm fun k _ hk=>hb.block k hk) (okp hml fun k _ hk=>hb.block k hk) hm5 hl24
 have HTo:Hid (∀ W w' p',Below w.heap.size w W→MasTo W w' F b own p'→MasTo w w' F b own p'):=hideA (by
  rintro W w' p' hb ⟨F',h1,h2,h3⟩;refine⟨F',h1,((Moved.refl w F).below hb).trans h2 (fun k _ hk=>hk),fun k hk => ?_⟩
  rcases h3 k hk with h4|h4
  ·exact .inl h4
  ·exact .inr (by have:=hb.size;omega))
 obtain⟨vw,vo,vm,vl,h⟩:=h;have hbl:b<w.heap.size:=h.lt b h.fb
 have HI:=hideA h;obtain⟨a1,d1,rfl⟩:=osh hmm
 obtain⟨a2,d2,rfl⟩:=osh hml
 have HD:Hid (∀ W,Below w.heap.size w W→Calls Tryz.prog 147 #[.slice a2 m.log.length d2] W fun e w'=>∃ x c,e=.returned (.slice x m.log.length c)∧w'.ownsRow W.heap.size 42 5 (.slice x m.log.length c) m.log.length (ints (entsNums m.log))∧Below W.heap.size W w'):=hideA fun W hb=>cloneLog_any _ m.log W (okp hml fun k _ hk=>hb.block k hk) (by omega)
 have HL:Hid (p.learn m=if p.doing=1 then p.learnRegister m else if p.doing=2 then { p with log:=m.log } else if p.doing=3 then p.learnVote m else p):=hideA rfl
 clear h hmm hml;unfold mval at *
 have hne:¬ b=w.heap.size:=by omega
 have hne':¬ w.heap.size=b:=by omega
 generalize hd:p.doing=d at *
 have HDo:=hideA hd;clear hd;go_enter Tryz.func243,Tryz.ntmps243
 go_upto_region 1 with fail
 obtain⟨X,hX,hbX,hM⟩:=msg_box w m (.slice a1 m.mems.length d1) (.slice a2 m.log.length d2)
 rw[hX];clear hX;have IX:=hideA (HI.out.below hbX)
 have s2:X.cell? ⟨b,2,none⟩=some (.int .i64 d):=by rw[← HDo.out];exact coh IX.out.blk 2
 have s8:=coh IX.out.blk 8
 have z8:=foh IX.out.blk 8
 have gM:=fun j=>coh hM j
 have HM:=hideA hM;clear hM;cases t1:(d == 1) with
 | true =>
  have HT:Hid (p.learn m=p.learnRegister m):=hideA (by rw[HL.out,if_pos (by simpa using t1)])
  go_wp2_with fail;refine (HR.out _ hbX).mono ?_
  rintro e Y ⟨⟨v,rfl⟩,hto⟩;clear gM s2 s8 z8;go_wp2_with fail;go_end0
  refine⟨⟨_,rfl⟩, ?_⟩
  rw[HT.out];exact HTo.out _ _ _ hbX hto
 | false =>
  have N1:Hid (¬ d=1):=hideA (by simpa using t1)
  cases t2:(d == 2) with
  | true =>
   have HT:Hid (p.learn m={ p with log:=m.log }):=hideA (by rw[HL.out,if_neg N1.out,if_pos (by simpa using t2),HDo.out])
   go_wp2_with fail;refine (HD.out _ hbX).mono ?_
   rintro e Y ⟨x,c,rfl,o1,hl⟩;have hbY:=hbX.trans (hl.mono hbX.size)
   have IY:=hideA (HI.out.below hbY)
   have O1:=hideA (And.intro o1 hbX.size)
   have e8:=coh IY.out.blk 8
   have f8:=foh IY.out.blk 8
   clear o1 gM s2 s8 z8;go_wp2_with fail;go_end0
   have B3:=set9_8 (.slice x m.log.length c) IY.out.blk
   have M3:=((Moved.refl w (fun k=>k=b)).below hbY).setCell ⟨b,8,none⟩ rfl (.slice x m.log.length c)
   have o3:(Y.setCell ⟨b,8,none⟩ (.slice x m.log.length c)).ownsRow X.heap.size 42 5 (.slice x m.log.length c) m.log.length (ints (entsNums m.log)):=ownsRow_setCell_other O1.out.1 (bty IY.out.blk O1.out.1 (by decide)) _
   refine⟨⟨_,rfl⟩, ?_⟩
   rw[HT.out];exact HI.out.next M3 { p with log:=m.log } _ _ _ rfl B3 (HI.out.beside M3 HI.out.ho (by decide)) (HI.out.beside M3 HI.out.hm (by decide)) (obs o3 (Nat.zero_le _)) (fun k e=>.inl e) (fun k e=>.inl e) (fun k e=>by obtain⟨_,_,h3⟩:=obc o3 e;have:=O1.out.2;exact .inr (by omega))
  | false =>
   have N2:Hid (¬ d=2):=hideA (by simpa using t2)
   cases t3:(d == 3) with
   | true =>
    have HT:Hid (p.learn m=p.learnVote m):=hideA (by rw[HL.out,if_neg N1.out,if_neg N2.out,if_pos (by simpa using t3)])
    go_wp2_with fail;refine (HV.out _ hbX).mono ?_
    rintro e Y ⟨⟨v,rfl⟩,hto⟩;clear gM s2 s8 z8;go_wp2_with fail;go_end0
    refine⟨⟨_,rfl⟩, ?_⟩
    rw[HT.out];exact HTo.out _ _ _ hbX hto
   | false =>
    have N3:Hid (¬ d=3):=hideA (by simpa using t3)
    have HT:Hid (p.learn m=p):=hideA (by rw[HL.out,if_neg N1.out,if_neg N2.out,if_neg N3.out])
    go_wp2_with fail;go_end0
    refine⟨⟨_,rfl⟩, ?_⟩
    rw[HT.out];exact MasTo.still HA.out hbX
end Go.Proofs.YtgieeeeeiggoeaaGreat
