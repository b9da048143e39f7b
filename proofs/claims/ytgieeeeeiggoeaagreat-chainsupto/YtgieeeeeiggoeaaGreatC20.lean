import Derived.Test.YtgieeeeeiggoeaaGreatC19
set_option maxRecDepth 100000
set_option maxHeartbeats 2000000
namespace Go.Proofs.YtgieeeeeiggoeaaGreat
open Go.RowKit Go.Shelf
def Acc.takePrepare (a:Acc)(own:Int)(m:Msg):Acc × List Msg :=
 if m.ballot<(a.votes m.epoch).promise then (a,[])
 else ({ a with votes:=upd a.votes m.epoch { a.votes m.epoch with promise:=m.ballot } },[{ kind:=10,src:=own,dst:=m.src,epoch:=m.epoch,ballot:=m.ballot,vote:=(a.votes m.epoch).ballot,mems:=(a.votes m.epoch).mems,log:=(a.votes m.epoch).log }])
theorem bm1 (w:World)(a:Array Value)(T:TypeId):∃ X,w.alloc (.cells a T)=X∧Below w.heap.size w X∧X.heap[w.heap.size]?=some (.cells a T) :=
 ⟨_,rfl,(Below.refl _ w).alloc (Nat.le_refl _) _,hnw _ _⟩
theorem takePrepare_any (F:Nat→Prop)(b:Nat)(own:Int)(a:Acc)(m:Msg)(mm ml:Value)(w:World)(h:AccAt w F b own a)(ok:AccOK a) :
  Calls Tryz.prog 253 #[.pointer (some ⟨b,0,none⟩),mval m mm ml] w fun e w'=>AccOut w w' F b own e (a.takePrepare own m):=by
 have HA:=hideA h;obtain⟨vm,g,l,h⟩:=h;have hbl:b<w.heap.size:=h.lt b h.fb
 have HI:=hideA h;have HP:Hid (∀ W,Below w.heap.size w W→Calls Tryz.prog 257 #[.pointer (some ⟨b,0,none⟩),.agg #[.int .i64 m.kind,.int .i64 m.src,.int .i64 m.dst,.int .i64 m.epoch,.int .i64 m.ballot,.int .i64 m.vote,.int .i64 m.pos,.int .i64 m.value,mm,ml]] W _):=hideA fun W hb=>promised_any F b own a vm g l m mm ml W (h.below hb)
 by_cases hlt:m.ballot<(a.votes m.epoch).promise
 ·have HT:Hid (a.takePrepare own m=(a,[])):=hideA (by unfold Acc.takePrepare;rw[if_pos hlt])
  simp only [if_pos hlt,decide_eq_true hlt,Bool.not_true] at HP
  clear h;unfold mval
  go_enter Tryz.func253,Tryz.ntmps253
  go_wp2_with fail;obtain⟨X,hX,hbX,hM⟩:=msg_box w m mm ml
  rw[hX];clear hX;have gM:=fun j=>coh hM j
  clear hM;go_wp2_with fail;refine (HP.out _ hbX).mono ?_
  rintro e Y ⟨vm',vl',rfl,h1,h2,h3,h4,hbY⟩;have hY:Below w.heap.size w Y:=hbX.trans (hbY.mono hbX.size)
  obtain⟨a1,d1,rfl⟩:=osh h1
  obtain⟨a2,d2,rfl⟩:=osh h2
  clear h1 h2 h3 h4 gM;go_wp2_with fail;go_ret;rw[HT.out];exact AccOut.still HA.out (hY.alloc hY.size _) (MsgsOwn.nil _ _)
 ·have HT:Hid (a.takePrepare own m=({ a with votes:=upd a.votes m.epoch { a.votes m.epoch with promise:=m.ballot } },[{ kind:=10,src:=own,dst:=m.src,epoch:=m.epoch,ballot:=m.ballot,vote:=(a.votes m.epoch).ballot,mems:=(a.votes m.epoch).mems,log:=(a.votes m.epoch).log }])):=hideA (by unfold Acc.takePrepare;rw[if_neg hlt])
  simp only [if_neg hlt,decide_eq_false hlt,Bool.not_false] at HP
  clear h;unfold mval
  go_enter Tryz.func253,Tryz.ntmps253
  go_wp2_with fail;obtain⟨X,hX,hbX,hM⟩:=msg_box w m mm ml
  rw[hX];clear hX;have gM:=fun j=>coh hM j
  have HM:=hideA hM;clear hM;go_wp2_with fail;refine (HP.out _ hbX).mono ?_
  rintro e Y ⟨vm',vl',rfl,h1,h2,h3,h4,hbY⟩;have hY:Below w.heap.size w Y:=hbX.trans (hbY.mono hbX.size)
  have HMY:=hideA ((hbY.block _ (Array.getElem?_eq_some_iff.1 HM.out).1).trans HM.out)
  obtain⟨a1,d1,rfl⟩:=osh h1
  obtain⟨a2,d2,rfl⟩:=osh h2
  have HO:=hideA (And.intro h1 (And.intro h2 (And.intro h3 h4)))
  clear h1 h2 h3 h4 gM HM;have gY:=fun j=>coh HMY.out j
  go_wp2_with fail;obtain⟨V,hV,hbV,hN⟩:=bm1 Y #[.int .i64 m.ballot,.int .i64 (a.votes m.epoch).ballot,.slice a1 (a.votes m.epoch).mems.length d1,.slice a2 (a.votes m.epoch).log.length d2] 310
  rw[hV];clear hV gY;have HMV:=hideA ((hbV.block _ (Array.getElem?_eq_some_iff.1 HMY.out).1).trans HMY.out)
  have hwV:Below w.heap.size w V:=hY.trans (hbV.mono hY.size)
  have IV:=hideA (HI.out.below hwV)
  have gV:=fun j=>coh HMV.out j
  have gN:=fun j=>coh hN j
  have cV:=coh IV.out.blk 3
  have HN:=hideA hN;clear hN;obtain⟨W5,hP,m5,M5⟩:=run_put V.drew g l m.epoch (.agg #[.int .i64 m.ballot,.int .i64 (a.votes m.epoch).ballot,.slice a1 (a.votes m.epoch).mems.length d1,.slice a2 (a.votes m.epoch).log.length d2]) IV.out.map
  have HM5:=hideA (And.intro m5 M5)
  clear m5 M5;go_region
  clear gV gN cV hP;have hgl:g<w.heap.size:=HI.out.lt g HI.out.fg
  have hk5:∀ k,k<w.heap.size→k≠g→W5.heap[k]?=w.heap[k]?:=fun k hk hne=>(HM5.out.2.block k (Nat.lt_of_lt_of_le hk hwV.size) hne).trans (hwV.block k hk)
  have hs5:w.heap.size≤W5.heap.size:=Nat.le_trans hwV.size HM5.out.2.size
  have h51:W5.heap[w.heap.size]?=some (.cells #[.int .i64 m.kind,.int .i64 m.src,.int .i64 m.dst,.int .i64 m.epoch,.int .i64 m.ballot,.int .i64 m.vote,.int .i64 m.pos,.int .i64 m.value,mm,ml] 134):=(HM5.out.2.block _ (Array.getElem?_eq_some_iff.1 HMV.out).1 (by omega)).trans HMV.out
  have h52:W5.heap[Y.heap.size]?=some (.cells #[.int .i64 m.ballot,.int .i64 (a.votes m.epoch).ballot,.slice a1 (a.votes m.epoch).mems.length d1,.slice a2 (a.votes m.epoch).log.length d2] 310):=(HM5.out.2.block _ (Array.getElem?_eq_some_iff.1 HN.out).1 (by have:=hY.size;omega)).trans HN.out
  have r1:IntOwn W5 (.slice a1 (a.votes m.epoch).mems.length d1) (a.votes m.epoch).mems:=oon HO.out.1 fun k e=>by
   have hF:=HO.out.2.2.1 k e
   have hk:=HI.out.lt k hF
   have e2:X.heap[k]?=w.heap[k]?:=hbX.block k hk
   have hrow:IntOwn w (.slice a1 (a.votes m.epoch).mems.length d1) (a.votes m.epoch).mems:=oon HO.out.1 fun k e=>(hbX.block k (HI.out.lt k (HO.out.2.2.1 k e))).symm
   exact (hk5 k hk (fun e3=>HI.out.map.not_row hrow (e3 ▸ e))).trans e2.symm
  have r2:LogOwn W5 (.slice a2 (a.votes m.epoch).log.length d2) (a.votes m.epoch).log:=oon HO.out.2.1 fun k e=>by
   have hF:=HO.out.2.2.2 k e
   have hk:=HI.out.lt k hF
   have e2:X.heap[k]?=w.heap[k]?:=hbX.block k hk
   have hrow:LogOwn w (.slice a2 (a.votes m.epoch).log.length d2) (a.votes m.epoch).log:=oon HO.out.2.1 fun k e=>(hbX.block k (HI.out.lt k (HO.out.2.2.2 k e))).symm
   exact (hk5 k hk (fun e3=>HI.out.map.not_row hrow (e3 ▸ e))).trans e2.symm
  have I5:=hideA (HI.out.put (w':=W5) m.epoch { a.votes m.epoch with promise:=m.ballot } _ _ HM5.out.1 hk5 hs5 r1 r2 (fun k e=>.inl (HO.out.2.2.1 k e)) (fun k e=>.inl (HO.out.2.2.2 k e)))
  have HS:Hid (∀ W,Below W5.heap.size W5 W→(∀ j,W.cell? ⟨w.heap.size,j,none⟩=(#[.int .i64 m.kind,.int .i64 m.src,.int .i64 m.dst,.int .i64 m.epoch,.int .i64 m.ballot,.int .i64 m.vote,.int .i64 m.pos,.int .i64 m.value,mm,ml]:Array Value)[j]?)∧∀ j,W.cell? ⟨Y.heap.size,j,none⟩=(#[.int .i64 m.ballot,.int .i64 (a.votes m.epoch).ballot,.slice a1 (a.votes m.epoch).mems.length d1,.slice a2 (a.votes m.epoch).log.length d2]:Array Value)[j]?):=hideA fun W hb=>⟨fun j=>coh ((hb.block _ (Array.getElem?_eq_some_iff.1 h51).1).trans h51) j,fun j=>coh ((hb.block _ (Array.getElem?_eq_some_iff.1 h52).1).trans h52) j⟩
  have hv5:=(ok.v m.epoch)
  have HC1:Hid (∀ W,Below W5.heap.size W5 W→Calls Tryz.prog 69 #[.slice a1 (a.votes m.epoch).mems.length d1] W fun e w'=>∃ x c,e=.returned (.slice x (a.votes m.epoch).mems.length c)∧IntOwn w' (.slice x (a.votes m.epoch).mems.length c) (a.votes m.epoch).mems∧Below W.heap.size W w'∧Below W5.heap.size W5 w'):=hideA fun W hb=>(cloneMems_any _ _ W (okp r1 fun k _ hk=>hb.block k hk) (by omega)).mono (by
   rintro e w' ⟨x,c,rfl,h1,h2⟩;exact⟨x,c,rfl,obs h1 (Nat.zero_le _),h2,hb.trans (h2.mono hb.size)⟩)
  have HC2:Hid (∀ W,Below W5.heap.size W5 W→Calls Tryz.prog 147 #[.slice a2 (a.votes m.epoch).log.length d2] W fun e w'=>∃ x c,e=.returned (.slice x (a.votes m.epoch).log.length c)∧LogOwn w' (.slice x (a.votes m.epoch).log.length c) (a.votes m.epoch).log∧Below W.heap.size W w'∧Below W5.heap.size W5 w'):=hideA fun W hb=>(cloneLog_any _ _ W (okp r2 fun k _ hk=>hb.block k hk) (by omega)).mono (by
   rintro e w' ⟨x,c,rfl,h1,h2⟩;exact⟨x,c,rfl,obs h1 (Nat.zero_le _),h2,hb.trans (h2.mono hb.size)⟩)
  have HC3:Hid (∀ W x c x' c',Below W5.heap.size W5 W→IntOwn W (.slice x (a.votes m.epoch).mems.length c) (a.votes m.epoch).mems→LogOwn W (.slice x' (a.votes m.epoch).log.length c') (a.votes m.epoch).log→Calls Tryz.prog 256 #[.pointer (some ⟨b,0,none⟩),.agg #[.int .i64 m.kind,.int .i64 m.src,.int .i64 m.dst,.int .i64 m.epoch,.int .i64 m.ballot,.int .i64 m.vote,.int .i64 m.pos,.int .i64 m.value,mm,ml],.agg #[.int .i64 10,.int .i64 0,.int .i64 0,.int .i64 m.epoch,.int .i64 m.ballot,.int .i64 (a.votes m.epoch).ballot,.int .i64 0,.int .i64 0,.slice x (a.votes m.epoch).mems.length c,.slice x' (a.votes m.epoch).log.length c']] W fun e w'=>∃ v,e=.returned v∧MsgsOwn w' w.heap.size v [{ kind:=10,src:=own,dst:=m.src,epoch:=m.epoch,ballot:=m.ballot,vote:=(a.votes m.epoch).ballot,mems:=(a.votes m.epoch).mems,log:=(a.votes m.epoch).log }]∧Below W5.heap.size W5 w'):=hideA fun W x c x' c' hb h1 h2=>(accAnswer_any _ b own _ _ g _ m mm ml { kind:=10,src:=0,dst:=0,epoch:=m.epoch,ballot:=m.ballot,vote:=(a.votes m.epoch).ballot,mems:=(a.votes m.epoch).mems,log:=(a.votes m.epoch).log } _ _ W (I5.out.below hb) h1 h2).mono (by
   rintro e w' ⟨v,rfl,h1,h2⟩;exact⟨v,rfl,h1.base (Nat.le_trans hs5 hb.size),hb.trans (h2.mono hb.size)⟩)
  obtain⟨p1,p2⟩:=HS.out W5 (Below.refl _ _)
  have H5:=hideA (And.intro hk5 (And.intro hs5 (And.intro HM5.out.2 hwV)))
  clear r1 r2 h51 h52 hk5 hv5;go_wp2_with fail;go_region_held3 (fun w'=>(∀ j,w'.cell? ⟨w.heap.size,j,none⟩=(#[.int .i64 m.kind,.int .i64 m.src,.int .i64 m.dst,.int .i64 m.epoch,.int .i64 m.ballot,.int .i64 m.vote,.int .i64 m.pos,.int .i64 m.value,mm,ml]:Array Value)[j]?)∧∀ j,w'.cell? ⟨Y.heap.size,j,none⟩=(#[.int .i64 m.ballot,.int .i64 (a.votes m.epoch).ballot,.slice a1 (a.votes m.epoch).mems.length d1,.slice a2 (a.votes m.epoch).log.length d2]:Array Value)[j]?) (first|(simp[go_sem];done)|(simp[go_sem, *];done)|go_keep)
   (first
    | (go_at_call 69;refine (HC1.out _ (Below.refl _ _).drew).mono ?_;rintro e Y1 ⟨x1,c1,rfl,o1,hl1,hb1⟩;have O1:=hideA o1;obtain⟨u1,u2⟩:=HS.out Y1 hb1;clear o1)
    | (go_at_call 69;refine (HC1.out _ hb2).mono ?_;rintro e Y1 ⟨x1,c1,rfl,o1,hl1,hb1⟩;have O1:=hideA o1;obtain⟨u1,u2⟩:=HS.out Y1 hb1;have O2':=hideA (okp O2.out fun k _ hk=>hl1.block k hk);clear o1)
    | (go_at_call 147;refine (HC2.out _ (Below.refl _ _).drew).mono ?_;rintro e Y2 ⟨x2,c2,rfl,o2,hl2,hb2⟩;have O2:=hideA o2;obtain⟨v1,v2⟩:=HS.out Y2 hb2;clear o2)
    | (go_at_call 147;refine (HC2.out _ hb1).mono ?_;rintro e Y2 ⟨x2,c2,rfl,o2,hl2,hb2⟩;have O2:=hideA o2;obtain⟨v1,v2⟩:=HS.out Y2 hb2;have O1':=hideA (okp O1.out fun k _ hk=>hl2.block k hk);clear o2)
    | (go_at_call 256;refine (HC3.out _ x1 c1 x2 c2 hb2 O1'.out O2.out).mono ?_;rintro e Z ⟨v,rfl,hv,hbZ⟩;have HV:=hideA hv;obtain⟨z1,z2⟩:=HS.out Z hbZ;clear hv)
    | (go_at_call 256;refine (HC3.out _ x1 c1 x2 c2 hb1 O1.out O2'.out).mono ?_;rintro e Z ⟨v,rfl,hv,hbZ⟩;have HV:=hideA hv;obtain⟨z1,z2⟩:=HS.out Z hbZ;clear hv))
  all_goals (
   go_wp2_with fail;go_ret;rw[HT.out];refine⟨v,_,rfl,⟨_,_,_,I5.out.below hbZ⟩,⟨?_, ?_, ?_, ?_, ?_⟩, ?_,HV.out⟩
   ·exact hbZ.os.trans (H5.out.2.2.1.os.trans H5.out.2.2.2.os)
   ·exact hbZ.tape.trans (H5.out.2.2.1.tape.trans H5.out.2.2.2.tape)
   ·exact hbZ.output.trans (H5.out.2.2.1.output.trans H5.out.2.2.2.output)
   ·exact Nat.le_trans H5.out.2.1 hbZ.size
   ·exact fun k hk hF=>(hbZ.block k (Nat.lt_of_lt_of_le hk H5.out.2.1)).trans (H5.out.1 k hk (fun e=>hF (e ▸ HI.out.fg)))
   ·rintro k (h1|h1)
    ·exact .inl h1
    ·exact .inr h1.1)
def Acc.takeAccept (a:Acc)(own:Int)(m:Msg):Acc × List Msg :=
 if m.ballot<(a.votes m.epoch).promise then (a,[])
 else ({ a with votes:=upd a.votes m.epoch ⟨m.ballot,m.ballot,m.mems,m.log⟩ },[{ kind:=12,src:=own,dst:=m.src,epoch:=m.epoch,ballot:=m.ballot }])
theorem takeAccept_any (F:Nat→Prop)(b:Nat)(own:Int)(a:Acc)(m:Msg)(mm ml:Value)(w:World)(h:AccAt w F b own a)(hmm:IntOwn w mm m.mems)(hml:LogOwn w ml m.log)(hm5:m.mems.length≤5)(hl24:m.log.length≤24) :
  Calls Tryz.prog 254 #[.pointer (some ⟨b,0,none⟩),mval m mm ml] w fun e w'=>AccOut w w' F b own e (a.takeAccept own m):=by
 have HA:=hideA h;obtain⟨vm,g,l,h⟩:=h;have hbl:b<w.heap.size:=h.lt b h.fb
 have HI:=hideA h;obtain⟨am,cm,rfl⟩:=osh hmm
 obtain⟨al,cl,rfl⟩:=osh hml
 have HP:Hid (∀ W,Below w.heap.size w W→Calls Tryz.prog 257 #[.pointer (some ⟨b,0,none⟩),.agg #[.int .i64 m.kind,.int .i64 m.src,.int .i64 m.dst,.int .i64 m.epoch,.int .i64 m.ballot,.int .i64 m.vote,.int .i64 m.pos,.int .i64 m.value,.slice am m.mems.length cm,.slice al m.log.length cl]] W _):=hideA fun W hb=>promised_any F b own a vm g l m (.slice am m.mems.length cm) (.slice al m.log.length cl) W (h.below hb)
 have HC1:Hid (∀ W,Below w.heap.size w W→Calls Tryz.prog 69 #[.slice am m.mems.length cm] W fun e w'=>∃ x c,e=.returned (.slice x m.mems.length c)∧w'.ownsRow W.heap.size 3 1 (.slice x m.mems.length c) m.mems.length (ints m.mems)∧Below W.heap.size W w'):=hideA fun W hb=>cloneMems_any _ _ W (okp hmm fun k _ hk=>hb.block k hk) (by omega)
 have HC2:Hid (∀ W,Below w.heap.size w W→Calls Tryz.prog 147 #[.slice al m.log.length cl] W fun e w'=>∃ x c,e=.returned (.slice x m.log.length c)∧w'.ownsRow W.heap.size 42 5 (.slice x m.log.length c) m.log.length (ints (entsNums m.log))∧Below W.heap.size W w'):=hideA fun W hb=>cloneLog_any _ _ W (okp hml fun k _ hk=>hb.block k hk) (by omega)
 clear h hmm hml;by_cases hlt:m.ballot<(a.votes m.epoch).promise
 ·have HT:Hid (a.takeAccept own m=(a,[])):=hideA (by unfold Acc.takeAccept;rw[if_pos hlt])
  simp only [if_pos hlt,decide_eq_true hlt,Bool.not_true] at HP
  unfold mval
  go_enter Tryz.func254,Tryz.ntmps254
  go_wp2_with fail;obtain⟨X,hX,hbX,hM⟩:=msg_box w m (.slice am m.mems.length cm) (.slice al m.log.length cl)
  rw[hX];clear hX;have gM:=fun j=>coh hM j
  clear hM;go_wp2_with fail;refine (HP.out _ hbX).mono ?_
  rintro e Y ⟨vm',vl',rfl,h1,h2,h3,h4,hbY⟩;have hY:Below w.heap.size w Y:=hbX.trans (hbY.mono hbX.size)
  obtain⟨a1,d1,rfl⟩:=osh h1
  obtain⟨a2,d2,rfl⟩:=osh h2
  clear h1 h2 h3 h4 gM;go_wp2_with fail;go_ret;rw[HT.out];exact AccOut.still HA.out (hY.alloc hY.size _) (MsgsOwn.nil _ _)
 ·have HT:Hid (a.takeAccept own m=({ a with votes:=upd a.votes m.epoch ⟨m.ballot,m.ballot,m.mems,m.log⟩ },[{ kind:=12,src:=own,dst:=m.src,epoch:=m.epoch,ballot:=m.ballot }])):=hideA (by unfold Acc.takeAccept;rw[if_neg hlt])
  simp only [if_neg hlt,decide_eq_false hlt,Bool.not_false] at HP
  unfold mval
  go_enter Tryz.func254,Tryz.ntmps254
  go_wp2_with fail;obtain⟨X,hX,hbX,hM⟩:=msg_box w m (.slice am m.mems.length cm) (.slice al m.log.length cl)
  rw[hX];clear hX;have gM:=fun j=>coh hM j
  have HM:=hideA hM;clear hM;go_wp2_with fail;refine (HP.out _ hbX).mono ?_
  rintro e Y ⟨vm',vl',rfl,h1,h2,h3,h4,hbY⟩;have hY:Below w.heap.size w Y:=hbX.trans (hbY.mono hbX.size)
  have HMY:=hideA ((hbY.block _ (Array.getElem?_eq_some_iff.1 HM.out).1).trans HM.out)
  obtain⟨a1,d1,rfl⟩:=osh h1
  obtain⟨a2,d2,rfl⟩:=osh h2
  clear h1 h2 h3 h4 gM HM;have gY:=fun j=>coh HMY.out j
  have hne:w.heap.size<Y.heap.size:=(Array.getElem?_eq_some_iff.1 HMY.out).1
  have hne1:¬ w.heap.size=Y.heap.size:=by omega
  have hne2:¬ Y.heap.size=w.heap.size:=by omega
  go_wp2_with fail;obtain⟨V,hV,hbV,hN⟩:=bm1 Y #[.int .i64 m.ballot,.int .i64 m.ballot,.slice a1 (a.votes m.epoch).mems.length d1,.slice a2 (a.votes m.epoch).log.length d2] 310
  rw[hV];clear hV gY;have HMV:=hideA ((hbV.block _ hne).trans HMY.out)
  have hwV:Below w.heap.size w V:=hY.trans (hbV.mono hY.size)
  have HN:=hideA hN;have hVy:Y.heap.size<V.heap.size:=(Array.getElem?_eq_some_iff.1 hN).1
  clear hN hbV;refine (HC1.out _ hwV).mono ?_
  rintro e A ⟨x1,c1,rfl,o1,hl1⟩;have O1:=hideA o1;have HMA:=hideA ((hl1.block _ (Array.getElem?_eq_some_iff.1 HMV.out).1).trans HMV.out)
  have HNA:=hideA ((hl1.block _ (Array.getElem?_eq_some_iff.1 HN.out).1).trans HN.out)
  have hwA:Below w.heap.size w A:=hwV.trans (hl1.mono hwV.size)
  clear o1 HMV HN;have gA:=fun j=>coh HMA.out j
  have nA:=fun j=>coh HNA.out j
  have fA:=fun j=>foh HNA.out j
  go_wp2_with fail;clear gA nA fA;have hVs:Y.heap.size<V.heap.size:=hVy
  have hbB:Below w.heap.size w (A.setCell ⟨Y.heap.size,2,none⟩ (.slice x1 m.mems.length c1)):=hwA.setCell (by exact hY.size) _
  have hMB:(A.setCell ⟨Y.heap.size,2,none⟩ (.slice x1 m.mems.length c1)).heap[w.heap.size]?=some (.cells #[.int .i64 m.kind,.int .i64 m.src,.int .i64 m.dst,.int .i64 m.epoch,.int .i64 m.ballot,.int .i64 m.vote,.int .i64 m.pos,.int .i64 m.value,.slice am m.mems.length cm,.slice al m.log.length cl] 134):=(Below.heap_setCell _ _ _ _ hne1).trans HMA.out
  have hNB:(A.setCell ⟨Y.heap.size,2,none⟩ (.slice x1 m.mems.length c1)).heap[Y.heap.size]?=some (.cells #[.int .i64 m.ballot,.int .i64 m.ballot,.slice x1 m.mems.length c1,.slice a2 (a.votes m.epoch).log.length d2] 310):=set4_2 _ HNA.out
  have oB:(A.setCell ⟨Y.heap.size,2,none⟩ (.slice x1 m.mems.length c1)).ownsRow V.heap.size 3 1 (.slice x1 m.mems.length c1) m.mems.length (ints m.mems):=ownsRow_setCell_below O1.out (by exact hVs) _
  generalize A.setCell ⟨Y.heap.size,2,none⟩ (.slice x1 m.mems.length c1)=B at *
  refine (HC2.out _ hbB).mono ?_
  rintro e C ⟨x2,c2,rfl,o2,hl2⟩;have O2:=hideA (And.intro (okp oB fun k _ hk=>hl2.block k hk) o2)
  have HMC:=hideA ((hl2.block _ (Array.getElem?_eq_some_iff.1 hMB).1).trans hMB)
  have HNC:=hideA ((hl2.block _ (Array.getElem?_eq_some_iff.1 hNB).1).trans hNB)
  have hBs:Y.heap.size<B.heap.size:=(Array.getElem?_eq_some_iff.1 hNB).1
  have hwC:Below w.heap.size w C:=hbB.trans (hl2.mono hbB.size)
  clear o2 oB hMB hNB O1 HMA HNA;have gC:=fun j=>coh HMC.out j
  have nC:=fun j=>coh HNC.out j
  have fC:=fun j=>foh HNC.out j
  go_wp2_with fail;clear gC nC fC;have hwD:Below w.heap.size w (C.setCell ⟨Y.heap.size,3,none⟩ (.slice x2 m.log.length c2)):=hwC.setCell (by exact hY.size) _
  have HMD:Hid ((C.setCell ⟨Y.heap.size,3,none⟩ (.slice x2 m.log.length c2)).heap[w.heap.size]?=some (.cells #[.int .i64 m.kind,.int .i64 m.src,.int .i64 m.dst,.int .i64 m.epoch,.int .i64 m.ballot,.int .i64 m.vote,.int .i64 m.pos,.int .i64 m.value,.slice am m.mems.length cm,.slice al m.log.length cl] 134)):=hideA ((Below.heap_setCell _ _ _ _ hne1).trans HMC.out)
  have HND:Hid ((C.setCell ⟨Y.heap.size,3,none⟩ (.slice x2 m.log.length c2)).heap[Y.heap.size]?=some (.cells #[.int .i64 m.ballot,.int .i64 m.ballot,.slice x1 m.mems.length c1,.slice x2 m.log.length c2] 310)):=hideA (set4_3 _ HNC.out)
  have OD:Hid ((C.setCell ⟨Y.heap.size,3,none⟩ (.slice x2 m.log.length c2)).ownsRow V.heap.size 3 1 (.slice x1 m.mems.length c1) m.mems.length (ints m.mems)∧(C.setCell ⟨Y.heap.size,3,none⟩ (.slice x2 m.log.length c2)).ownsRow B.heap.size 42 5 (.slice x2 m.log.length c2) m.log.length (ints (entsNums m.log))):=hideA ⟨ownsRow_setCell_below O2.out.1 (by exact hVs) _,ownsRow_setCell_below O2.out.2 (by exact hBs) _⟩
  generalize C.setCell ⟨Y.heap.size,3,none⟩ (.slice x2 m.log.length c2)=D at *
  have ID:=hideA (HI.out.below hwD)
  have gD:=fun j=>coh HMD.out j
  have nD:=fun j=>coh HND.out j
  have cD:=coh ID.out.blk 3
  obtain⟨W5,hP,m5,M5⟩:=run_put D.drew g l m.epoch (.agg #[.int .i64 m.ballot,.int .i64 m.ballot,.slice x1 m.mems.length c1,.slice x2 m.log.length c2]) ID.out.map
  have HM5:=hideA (And.intro m5 M5)
  clear m5 M5 O2 HMC HNC;go_region
  clear gD nD cD hP;have hgl:g<w.heap.size:=HI.out.lt g HI.out.fg
  have hk5:∀ k,k<w.heap.size→k≠g→W5.heap[k]?=w.heap[k]?:=fun k hk hne=>(HM5.out.2.block k (Nat.lt_of_lt_of_le hk hwD.size) hne).trans (hwD.block k hk)
  have hs5:w.heap.size≤W5.heap.size:=Nat.le_trans hwD.size HM5.out.2.size
  have h51:W5.heap[w.heap.size]?=some (.cells #[.int .i64 m.kind,.int .i64 m.src,.int .i64 m.dst,.int .i64 m.epoch,.int .i64 m.ballot,.int .i64 m.vote,.int .i64 m.pos,.int .i64 m.value,.slice am m.mems.length cm,.slice al m.log.length cl] 134):=(HM5.out.2.block _ (Array.getElem?_eq_some_iff.1 HMD.out).1 (by omega)).trans HMD.out
  have hVw:w.heap.size≤V.heap.size:=hwV.size
  have hBw:w.heap.size≤B.heap.size:=hbB.size
  have r1:W5.ownsRow V.heap.size 3 1 (.slice x1 m.mems.length c1) m.mems.length (ints m.mems):=oon OD.out.1 fun k e=>HM5.out.2.block k (Array.getElem?_eq_some_iff.1 (obc OD.out.1 e).choose_spec.1).1 (fun e2=>by obtain⟨_,_,h3⟩:=obc OD.out.1 e;have:=h3;omega)
  have r2:W5.ownsRow B.heap.size 42 5 (.slice x2 m.log.length c2) m.log.length (ints (entsNums m.log)):=oon OD.out.2 fun k e=>HM5.out.2.block k (Array.getElem?_eq_some_iff.1 (obc OD.out.2 e).choose_spec.1).1 (fun e2=>by obtain⟨_,_,h3⟩:=obc OD.out.2 e;have:=h3;omega)
  have I5:=hideA (HI.out.put (w':=W5) m.epoch ⟨m.ballot,m.ballot,m.mems,m.log⟩ _ _ HM5.out.1 hk5 hs5 (obs r1 (Nat.zero_le _)) (obs r2 (Nat.zero_le _)) (fun k e=>by obtain⟨_,_,h3⟩:=obc r1 e;exact .inr (by omega)) (fun k e=>by obtain⟨_,_,h3⟩:=obc r2 e;exact .inr (by omega)))
  have HC3:Hid (Calls Tryz.prog 256 #[.pointer (some ⟨b,0,none⟩),.agg #[.int .i64 m.kind,.int .i64 m.src,.int .i64 m.dst,.int .i64 m.epoch,.int .i64 m.ballot,.int .i64 m.vote,.int .i64 m.pos,.int .i64 m.value,.slice am m.mems.length cm,.slice al m.log.length cl],.agg #[.int .i64 12,.int .i64 0,.int .i64 0,.int .i64 m.epoch,.int .i64 m.ballot,.int .i64 0,.int .i64 0,.int .i64 0,.slice none 0 0,.slice none 0 0]] W5 fun e w'=>∃ v,e=.returned v∧MsgsOwn w' w.heap.size v [{ kind:=12,src:=own,dst:=m.src,epoch:=m.epoch,ballot:=m.ballot }]∧Below W5.heap.size W5 w'):=hideA ((accAnswer_any _ b own _ _ g _ m _ _ { kind:=12,src:=0,dst:=0,epoch:=m.epoch,ballot:=m.ballot } (.slice none 0 0) (.slice none 0 0) W5 I5.out (World.ownsRow_nil _ _ _ _) (World.ownsRow_nil _ _ _ _)).mono (by
   rintro e w' ⟨v,rfl,h1,h2⟩;exact⟨v,rfl,h1.base hs5,h2⟩))
  have g5:=fun j=>coh h51 j
  have H5:=hideA (And.intro hk5 (And.intro hs5 (And.intro HM5.out.2 hwD)))
  clear r1 r2 h51 hk5;go_wp2_with fail;refine HC3.out.mono ?_
  rintro e Z ⟨v,rfl,hv,hbZ⟩;have HV:=hideA hv;clear hv g5;go_wp2_with fail;go_ret;rw[HT.out];refine⟨v,_,rfl,⟨_,_,_,I5.out.below hbZ⟩,⟨?_, ?_, ?_, ?_, ?_⟩, ?_,HV.out⟩
  ·exact hbZ.os.trans (H5.out.2.2.1.os.trans H5.out.2.2.2.os)
  ·exact hbZ.tape.trans (H5.out.2.2.1.tape.trans H5.out.2.2.2.tape)
  ·exact hbZ.output.trans (H5.out.2.2.1.output.trans H5.out.2.2.2.output)
  ·exact Nat.le_trans H5.out.2.1 hbZ.size
  ·exact fun k hk hF=>(hbZ.block k (Nat.lt_of_lt_of_le hk H5.out.2.1)).trans (H5.out.1 k hk (fun e=>hF (e ▸ HI.out.fg)))
  ·rintro k (h1|h1)
   ·exact .inl h1
   ·exact .inr h1.1
theorem accTake_eq (a:Acc)(own:Int)(m:Msg)(hd:m.dst=own):a.take m=if m.kind=5 then (a,[{ kind:=6,src:=own,dst:=m.src,epoch:=a.epoch,ballot:=m.ballot,mems:=a.mems }]) else if m.kind=9 then a.takePrepare own m else if m.kind=11 then a.takeAccept own m else if m.kind=15 then a.takeWrite own m else (a,[]):=by
 subst hd;rfl
theorem AccOut.before {w W w':World}{F:Nat→Prop}{b:Nat}{own:Int}{e:Ending}{p:Acc × List Msg}(hb:Below w.heap.size w W)(h:AccOut W w' F b own e p):AccOut w w' F b own e p:=by
 obtain⟨v,F',rfl,h1,h2,h3,h4⟩:=h;refine⟨v,F',rfl,h1,⟨h2.os.trans hb.os,h2.tape.trans hb.tape,h2.output.trans hb.output,Nat.le_trans hb.size h2.size,fun k hk hF=>(h2.block k (Nat.lt_of_lt_of_le hk hb.size) hF).trans (hb.block k hk)⟩,fun k hk => ?_,h4.base hb.size⟩
 rcases h3 k hk with h|h
 ·exact .inl h
 ·exact .inr (Nat.le_trans hb.size h)
theorem AccAt.below {w w':World}{F:Nat→Prop}{b:Nat}{own:Int}{a:Acc}(h:AccAt w F b own a)(hb:Below w.heap.size w w'):AccAt w' F b own a:=by
 obtain⟨vm,g,l,h⟩:=h;exact⟨vm,g,l,h.below hb⟩
theorem accTake_any (F:Nat→Prop)(b:Nat)(own:Int)(a:Acc)(m:Msg)(mm ml:Value)(w:World)(h:AccAt w F b own a)(ok:AccOK a)(h1:IntOwn w mm m.mems)(h2:LogOwn w ml m.log)(hm1:m.mems.length≤5)(hm2:m.log.length≤24)(hd:m.dst=own) :
  Calls Tryz.prog 250 #[.pointer (some ⟨b,0,none⟩),mval m mm ml] w fun e w'=>AccOut w w' F b own e (a.take m):=by
 have HT:=hideA (accTake_eq a own m hd)
 have HK:∀ W,Below w.heap.size w W→AccAt W F b own a∧IntOwn W mm m.mems∧LogOwn W ml m.log:=fun W hb=>⟨h.below hb,okp h1 fun k _ hk=>hb.block k hk,okp h2 fun k _ hk=>hb.block k hk⟩
 have HA:=hideA h;have K5:Hid (∀ W,Below w.heap.size w W→Calls Tryz.prog 252 #[.pointer (some ⟨b,0,none⟩),.agg #[.int .i64 m.kind,.int .i64 m.src,.int .i64 m.dst,.int .i64 m.epoch,.int .i64 m.ballot,.int .i64 m.vote,.int .i64 m.pos,.int .i64 m.value,mm,ml]] W fun e w'=>AccOut W w' F b own e (a,[{ kind:=6,src:=own,dst:=m.src,epoch:=a.epoch,ballot:=m.ballot,mems:=a.mems }])):=hideA fun W hb=>takeRead_any F b own a m mm ml W (HK W hb).1 ok
 have K9:Hid (∀ W,Below w.heap.size w W→Calls Tryz.prog 253 #[.pointer (some ⟨b,0,none⟩),.agg #[.int .i64 m.kind,.int .i64 m.src,.int .i64 m.dst,.int .i64 m.epoch,.int .i64 m.ballot,.int .i64 m.vote,.int .i64 m.pos,.int .i64 m.value,mm,ml]] W fun e w'=>AccOut W w' F b own e (a.takePrepare own m)):=hideA fun W hb=>takePrepare_any F b own a m mm ml W (HK W hb).1 ok
 have K11:Hid (∀ W,Below w.heap.size w W→Calls Tryz.prog 254 #[.pointer (some ⟨b,0,none⟩),.agg #[.int .i64 m.kind,.int .i64 m.src,.int .i64 m.dst,.int .i64 m.epoch,.int .i64 m.ballot,.int .i64 m.vote,.int .i64 m.pos,.int .i64 m.value,mm,ml]] W fun e w'=>AccOut W w' F b own e (a.takeAccept own m)):=hideA fun W hb=>takeAccept_any F b own a m mm ml W (HK W hb).1 (HK W hb).2.1 (HK W hb).2.2 hm1 hm2
 have K15:Hid (∀ W,Below w.heap.size w W→Calls Tryz.prog 255 #[.pointer (some ⟨b,0,none⟩),.agg #[.int .i64 m.kind,.int .i64 m.src,.int .i64 m.dst,.int .i64 m.epoch,.int .i64 m.ballot,.int .i64 m.vote,.int .i64 m.pos,.int .i64 m.value,mm,ml]] W fun e w'=>AccOut W w' F b own e (a.takeWrite own m)):=hideA fun W hb=>takeWrite_any F b own a m mm ml W (HK W hb).1 (HK W hb).2.1 hm1
 clear h ok h1 h2 HK hd;unfold mval
 go_enter Tryz.func250,Tryz.ntmps250
 go_upto_region 1 with fail
 obtain⟨X,hX,hbX,hBX⟩:=msg_box w m mm ml
 rw[hX];clear hX;have g0:=coh hBX 0
 have g1:=coh hBX 1
 have g2:=coh hBX 2
 have g3:=coh hBX 3
 have g4:=coh hBX 4
 have g5:=coh hBX 5
 have g6:=coh hBX 6
 have g7:=coh hBX 7
 have g8:=coh hBX 8
 have g9:=coh hBX 9
 cases t5:(m.kind == 5) with
 | true =>
  have P5:Hid (m.kind=5):=hideA (by simpa using t5)
  have HN:Hid (a.take m=(a,[{ kind:=6,src:=own,dst:=m.src,epoch:=a.epoch,ballot:=m.ballot,mems:=a.mems }])):=hideA (by rw[HT.out,if_pos P5.out])
  go_wp2_with fail;refine (K5.out _ hbX).mono ?_
  rintro e Z ⟨v,F',rfl,hA,hM,hFF,hmo⟩;obtain⟨av,cv,hsh⟩:=hmo.shape;subst hsh;go_wp2_with fail;go_ret;rw[HN.out];exact AccOut.before hbX ⟨_,F',rfl,hA,hM,hFF,hmo⟩
 | false =>
  have N5:Hid (¬ m.kind=5):=hideA (by simpa using t5)
  cases t9:(m.kind == 9) with
  | true =>
   have P9:Hid (m.kind=9):=hideA (by simpa using t9)
   have HN:Hid (a.take m=a.takePrepare own m):=hideA (by rw[HT.out,if_neg N5.out,if_pos P9.out])
   go_wp2_with fail;refine (K9.out _ hbX).mono ?_
   rintro e Z ⟨v,F',rfl,hA,hM,hFF,hmo⟩;obtain⟨av,cv,hsh⟩:=hmo.shape;subst hsh;generalize hpl:(a.takePrepare own m).2.length=pl at *
   go_wp2_with fail;go_ret;rw[HN.out];exact AccOut.before hbX ⟨_,F',rfl,hA,hM,hFF,hmo⟩
  | false =>
   have N9:Hid (¬ m.kind=9):=hideA (by simpa using t9)
   cases t11:(m.kind == 11) with
   | true =>
    have P11:Hid (m.kind=11):=hideA (by simpa using t11)
    have HN:Hid (a.take m=a.takeAccept own m):=hideA (by rw[HT.out,if_neg N5.out,if_neg N9.out,if_pos P11.out])
    go_wp2_with fail;refine (K11.out _ hbX).mono ?_
    rintro e Z ⟨v,F',rfl,hA,hM,hFF,hmo⟩;obtain⟨av,cv,hsh⟩:=hmo.shape;subst hsh;generalize hpl:(a.takeAccept own m).2.length=pl at *
    go_wp2_with fail;go_ret;rw[HN.out];exact AccOut.before hbX ⟨_,F',rfl,hA,hM,hFF,hmo⟩
   | false =>
    have N11:Hid (¬ m.kind=11):=hideA (by simpa using t11)
    cases t15:(m.kind == 15) with
    | true =>
     have P15:Hid (m.kind=15):=hideA (by simpa using t15)
     have HN:Hid (a.take m=a.takeWrite own m):=hideA (by rw[HT.out,if_neg N5.out,if_neg N9.out,if_neg N11.out,if_pos P15.out])
     go_wp2_with fail;refine (K15.out _ hbX).mono ?_
     rintro e Z ⟨v,F',rfl,hA,hM,hFF,hmo⟩;obtain⟨av,cv,hsh⟩:=hmo.shape;subst hsh;generalize hpl:(a.takeWrite own m).2.length=pl at *
     go_wp2_with fail;go_ret;rw[HN.out];exact AccOut.before hbX ⟨_,F',rfl,hA,hM,hFF,hmo⟩
    | false =>
     have N15:Hid (¬ m.kind=15):=hideA (by simpa using t15)
     have HN:Hid (a.take m=(a,[])):=hideA (by rw[HT.out,if_neg N5.out,if_neg N9.out,if_neg N11.out,if_neg N15.out])
     go_wp2_with fail;go_ret;rw[HN.out];exact AccOut.still HA.out hbX (MsgsOwn.nil _ _)
theorem accTick_any (F:Nat→Prop)(b:Nat)(own:Int)(a:Acc)(w:World)(h:AccAt w F b own a) :
  Calls Tryz.prog 251 #[.pointer (some ⟨b,0,none⟩)] w fun e w'=>AccOut w w' F b own e (a,[]):=by
 have HA:=hideA h;clear h;go_enter Tryz.func251,Tryz.ntmps251
 go_wp2_with fail;go_ret;exact AccOut.still HA.out (Below.refl _ _) (MsgsOwn.nil _ _)
theorem accCrash_any (b:Nat)(w:World):Calls Tryz.prog 248 #[.pointer (some ⟨b,0,none⟩)] w fun e w'=>(∃ v,e=.returned v)∧w'=w:=by
 go_enter Tryz.func248,Tryz.ntmps248
 go_wp2_with fail;go_end0
 exact⟨⟨_,rfl⟩,rfl⟩
theorem accRestart_any (b:Nat)(w:World):Calls Tryz.prog 249 #[.pointer (some ⟨b,0,none⟩)] w fun e w'=>(∃ v,e=.returned v)∧w'=w:=by
 go_enter Tryz.func249,Tryz.ntmps249
 go_wp2_with fail;go_end0
 exact⟨⟨_,rfl⟩,rfl⟩
theorem accNew_any (own:Int)(l:List Int)(v:Value)(w:World)(hv:IntOwn w v l)(hl:l.length≤5) :
  Calls Tryz.prog 109 #[.int .i64 own,v] w fun e w'=>∃ b F,e=.returned (.pointer (some ⟨b,0,none⟩))∧AccAt w' F b own { up:=true,epoch:=0,mems:=l,votes:=fun _=>AVote.none }∧(∀ k,F k→w.heap.size≤k)∧Below w.heap.size w w':=by
 have hc:=cloneMems_any v l w hv (by omega)
 obtain⟨a0,c0,rfl⟩:=osh hv
 clear hv;have hmm := @run_makeMap Tryz.prog
 go_enter Tryz.func109,Tryz.ntmps109
 go_wp2_with fail;refine hc.mono ?_
 rintro e W ⟨x,c,rfl,ho,hb⟩;clear hc;have HO:=hideA ho;go_wp2_with fail;go_ret;have hs:=hb.size
 refine⟨_,fun k=>w.heap.size≤k∧k<W.heap.size+1+1,rfl,⟨.slice x l.length c,W.heap.size,[],heap_new2 _ _ _,((obs HO.out (Nat.zero_le _)).alloc _).alloc _,⟨#[],0,(Below.heap_alloc _ _ _ (by simp)).trans (hnw _ _),rfl⟩,fun _=>rfl,⟨by omega,by omega⟩,⟨by omega,by omega⟩,fun k e => ?_,fun k h => ?_⟩,fun k h=>h.1,(hb.alloc hb.size _).alloc (by simp;omega) _⟩
 ·obtain⟨_,h2,h3⟩:=obc HO.out e
  have:=(Array.getElem?_eq_some_iff.1 h2).1
  exact⟨h3,by omega⟩
 ·simpa using h.2
theorem accBallots_any (F:Nat→Prop)(b:Nat)(own:Int)(a:Acc)(w:World)(h:AccAt w F b own a)(ok:AccOK a) :
  Calls Tryz.prog 39 #[.pointer (some ⟨b,0,none⟩)] w fun e w'=>∃ x c,e=.returned (.agg #[.bool false,.int .i64 a.epoch,.slice x a.mems.length c])∧w'.ownsRow w.heap.size 3 1 (.slice x a.mems.length c) a.mems.length (ints a.mems)∧Below w.heap.size w w':=by
 obtain⟨vm,g,l,h⟩:=h;have hbl:b<w.heap.size:=h.lt b h.fb
 have hne1:¬ b=w.heap.size:=by omega
 have hne2:¬ w.heap.size=b:=by omega
 obtain⟨am,cm,rfl⟩:=osh h.hm
 have HI:=hideA h;have hm5:=ok.m
 have HS:Hid (∀ W,Below w.heap.size w W→W.cell? ⟨b,1,none⟩=some (.int .i64 a.epoch)∧W.cell? ⟨b,2,none⟩=some (.slice am a.mems.length cm)):=hideA fun W hb=>⟨coh (HI.out.below hb).blk 1,coh (HI.out.below hb).blk 2⟩
 have HC:Hid (∀ W,Below w.heap.size w W→W.heap[w.heap.size]?=some (.cells #[.bool false,.int .i64 0,.slice none 0 0] 53)→Calls Tryz.prog 69 #[.slice am a.mems.length cm] W fun e w'=>∃ x c,e=.returned (.slice x a.mems.length c)∧w'.ownsRow (w.heap.size+1) 3 1 (.slice x a.mems.length c) a.mems.length (ints a.mems)∧Below w.heap.size w w'∧w'.heap[w.heap.size]?=some (.cells #[.bool false,.int .i64 0,.slice none 0 0] 53)):=hideA fun W hb hB=>(cloneMems_any _ a.mems W (HI.out.below hb).hm (by omega)).mono (by
  rintro e w' ⟨x,c,rfl,h1,h2⟩;exact⟨x,c,rfl,obs h1 (by have:=(Array.getElem?_eq_some_iff.1 hB).1;omega),hb.trans (h2.mono hb.size),(h2.block _ (Array.getElem?_eq_some_iff.1 hB).1).trans hB⟩)
 clear h ok;go_enter Tryz.func39,Tryz.ntmps39
 go_wp2_with fail;obtain⟨X,hX,hb0,hB0⟩:=bm1 w #[.bool false,.int .i64 0,.slice none 0 0] 53
 rw[hX];clear hX;obtain⟨s1,s2⟩:=HS.out X hb0
 have HB0:=hideA hB0;clear hB0;go_region_held3 (fun w'=>w'.cell? ⟨b,1,none⟩=some (.int .i64 a.epoch)∧w'.cell? ⟨b,2,none⟩=some (.slice am a.mems.length cm)) (first|(simp[go_sem];done)|(simp[go_sem, *];done)|go_keep)
  (first
   | (go_at_call 69;refine (HC.out _ hb0.drew HB0.out).mono ?_;rintro e Y1 ⟨a1,c1,rfl,o1,hb1,B1⟩;obtain⟨u1,u2⟩:=HS.out Y1 hb1;have HB1:=hideA B1;have O1:=hideA o1;have gM:=fun j=>coh B1 j;have gF:=fun j=>foh B1 j;clear B1 o1))
 all_goals (
  go_wp2_with fail;refine bodyPost_ret (v:=.agg #[.bool false,.int .i64 a.epoch,.slice a1 a.mems.length c1]) (by simp[results,Tryz.results39,go_sem,gM]) rfl ?_
  have hz:w.heap.size<w.heap.size+1:=Nat.lt_succ_self _
  refine⟨a1,c1,rfl,obs (ownsRow_setCell_below (ownsRow_setCell_below (ownsRow_setCell_below O1.out hz _) hz _) hz _) (Nat.le_succ _), ?_⟩
  iterate 3 refine Below.setCell ?_ (by exact Nat.le_refl _) _
  exact hb1)
end Go.Proofs.YtgieeeeeiggoeaaGreat
