import Derived.Test.YtgieeeeeiggoeaaGreatC30
set_option maxRecDepth 100000
set_option maxHeartbeats 1000000
namespace Go.Proofs.YtgieeeeeiggoeaaGreat
open Go.RowKit Go.Shelf
def CAfter (w:World)(F:Nat→Prop)(x:Nat)(c':Clu)(w':World):Prop:=∃ F',CAt w' F' x c'∧Moved w w' F∧∀ k,F' k→F k∨w.heap.size≤k
theorem CAfter.still {w w':World}{F:Nat→Prop}{x:Nat}{c:Clu}(h:CAt w F x c)(hb:Below w.heap.size w w'):CAfter w F x c w':=by
 obtain⟨gs,cap,b,Fn,vr,va,vm,vb,vt,h⟩:=h;exact⟨F,⟨gs,cap,b,Fn,vr,va,vm,vb,vt,h.below hb⟩,(Moved.refl w F).below hb,fun _ e=>.inl e⟩
theorem CAfter.trans {w w1 w2:World}{F F1:Nat→Prop}{x:Nat}{c2:Clu}(hM:Moved w w1 F)(hF:∀ k,F1 k→F k∨w.heap.size≤k)(h2:CAfter w1 F1 x c2 w2):CAfter w F x c2 w2:=by
 obtain⟨F2,a1,a2,a3⟩:=h2;have hs:=hM.size
 refine⟨F2,a1,hM.trans a2 (fun k hk e => ?_),fun k e => ?_⟩
 ·rcases hF k e with h6|h6
  ·exact h6
  ·omega
 ·rcases a3 k e with h6|h6
  ·exact hF k h6
  ·exact .inr (by omega)
theorem nodOK {c:Clu}{E:Int}{g:Gh}(h:Good c E g)(j:Nat)(hj:j<c.reps.length+5):NodOK c.reps.length E (numOf c.reps.length j) (c.nod j):=by
 have hn5:=h.nodes.n5
 have hp:=num_nodPlace hn5 hj
 rcases nod_at hp with ⟨h1,h2,_⟩|⟨h1,h2,h3,_⟩|⟨h1,h2,h3,h4,_⟩
 ·refine⟨hn5,⟨h.nodes.E0,h.nodes.E2000⟩,fun r e => ?_,fun a e => ?_,fun s e => ?_⟩
  ·rw[h2] at e;cases e;exact h.nodes.R _ h1
  ·rw[h2] at e;cases e
  ·rw[h2] at e;cases e
 ·refine⟨hn5,⟨h.nodes.E0,h.nodes.E2000⟩,fun r e => ?_,fun a e => ?_,fun s e => ?_⟩
  ·rw[h3] at e;cases e
  ·rw[h3] at e;cases e;exact h.nodes.A _ h2
  ·rw[h3] at e;cases e
 ·refine⟨hn5,⟨h.nodes.E0,h.nodes.E2000⟩,fun r e => ?_,fun a e => ?_,fun s e => ?_⟩
  ·rw[h4] at e;cases e
  ·rw[h4] at e;cases e
  ·rw[h4] at e;cases e;exact⟨h.nodes.S _ h3,by unfold isMas at h3;omega⟩
theorem meth_crash (x : Nod) (q : Option Addr) (w : World) : (method 427 (nodTy x) (.pointer q) "Crash").run Tryz.prog w = .ok (crashFn x, .pointer q) w := by cases x <;> kernel_rfl
theorem meth_restart (x : Nod) (q : Option Addr) (w : World) : (method 427 (nodTy x) (.pointer q) "Restart").run Tryz.prog w = .ok (restartFn x, .pointer q) w := by cases x <;> kernel_rfl
theorem meth_take (x : Nod) (q : Option Addr) (w : World) : (method 427 (nodTy x) (.pointer q) "Take").run Tryz.prog w = .ok (takeFn x, .pointer q) w := by cases x <;> kernel_rfl
theorem meth_tick (x : Nod) (q : Option Addr) (w : World) : (method 427 (nodTy x) (.pointer q) "Tick").run Tryz.prog w = .ok (tickFn x, .pointer q) w := by cases x <;> kernel_rfl
theorem kinds (x:Nod):(nodTy x=129∧takeFn x=261∧tickFn x=262∧crashFn x=259∧restartFn x=260)
  ∨ (nodTy x=99∧takeFn x=250∧tickFn x=251∧crashFn x=248∧restartFn x=249)
  ∨ (nodTy x=81∧takeFn x=239∧tickFn x=125∧crashFn x=237∧restartFn x=238):=by
 cases x
 ·exact .inl ⟨rfl,rfl,rfl,rfl,rfl⟩
 ·exact .inr (.inl ⟨rfl,rfl,rfl,rfl,rfl⟩)
 ·exact .inr (.inr ⟨rfl,rfl,rfl,rfl,rfl⟩)
theorem StaIn.put {w:World}{gs m j:Nat}{f:Nat→Int × Int × Value}(h:StaIn w gs m f)(hj:j<m)(u:Int):StaIn (w.setCell ⟨gs,j*3+1,none⟩ (.int .i64 u)) gs m (fun i=>if i=j then ((f i).1,u,(f i).2.2) else f i):=by
 obtain⟨cs,h1,h2⟩:=h;refine⟨_,heap_setCell_same _ _ _ _ _ _ h1,fun i hi => ?_⟩
 obtain⟨q0,q1,q2⟩:=h2 i hi
 have key:∀ t,t≠j*3+1→(cs.setIfInBounds (j*3+1) (.int .i64 u))[t]?=cs[t]?:=fun t ht=>by
  rw[Array.getElem?_setIfInBounds]
  rw[if_neg (Ne.symm ht)]
 have hsz:j*3+1<cs.size:=(Array.getElem?_eq_some_iff.1 (h2 j hj).2.1).1
 by_cases e:i=j
 ·subst e
  simp only [if_true]
  refine⟨by rw[key _ (by omega)];exact q0, ?_,by rw[key _ (by omega)];exact q2⟩
  rw[Array.getElem?_setIfInBounds]
  simp[hsz]
 ·simp only [if_neg e]
  exact⟨by rw[key _ (by omega)];exact q0,by rw[key _ (by omega)];exact q1,by rw[key _ (by omega)];exact q2⟩
theorem cluCrash_any {w:World}{F:Nat→Prop}{x:Nat}{c:Clu}(d:Int)(h:CAt w F x c) :
  Calls Tryz.prog 75 #[.pointer (some ⟨x,0,none⟩),.int .i64 d] w fun r w'=>r=.returned (.int .i64 (c.crash d).2)∧CAfter w F x (c.crash d).1 w':=by
 have HA:=hideA h;obtain⟨gs,cap,b,Fn,vr,va,vm,vb,vt,h⟩:=h;have hf:Calls Tryz.prog 65 #[.pointer (some ⟨x,0,none⟩),.int .i64 0,.int .i64 d] w fun e w'=>e=.returned (findIn c gs true d)∧w'=w:=findIn_any w F x gs cap c b Fn vr va vm vb vt true d h
 have hu:=upOf_nod c d
 cases hp:nodPlace c.reps.length d with
 | none =>
  have e:findIn c gs true d=.tuple #[.pointer none,.int .i64 4]:=by unfold findIn;rw[hp]
  have H:Hid (c.crash d=(c,4)):=hideA (by unfold Clu.crash;rw[hu,hp];rfl)
  rw[e] at hf
  clear e hu h;go_enter Tryz.func75,Tryz.ntmps75
  go_wp2_with fail;refine hf.mono ?_
  rintro e w1 ⟨rfl,rfl⟩;clear hf;go_wp2_with fail;go_ret;rw[H.out];exact⟨rfl,CAfter.still HA.out (Below.refl _ _)⟩
 | some j =>
  by_cases hu2:(c.nod j).up=true
  ·have e:findIn c gs true d=.tuple #[.pointer (some ⟨gs,j*3,none⟩),.int .i64 0]:=by unfold findIn;rw[hp];simp[hu2]
   have H:Hid (c.crash d=(c.setNod j (c.nod j).crash,0)):=hideA (crash_nod hp hu2)
   have hj:=nodPlace_lt hp
   have hnum:=nodPlace_num hp
   have hG:=h.apart
   obtain⟨cs,hcs,hst⟩:=h.sta;have c1:=(coh hcs (j*3+1)).trans (hst j hj).2.1
   have f1:=foh hcs (j*3+1)
   have c2:w.cell? ⟨gs,j*3+2,none⟩=some (.iface (nodTy (c.nod j)) (.pointer (some ⟨b j,0,none⟩))):=(coh hcs (j*3+2)).trans (hst j hj).2.2
   rw[e] at hf
   clear e hu hcs hst;have hm:=meth_crash (c.nod j) (some ⟨b j,0,none⟩)
   have HC:Hid (∀ W,NodAt W (Fn j) (b j) d (c.nod j)→Calls Tryz.prog (crashFn (c.nod j)) #[.pointer (some ⟨b j,0,none⟩)] W fun e w'=>(∃ v,e=.returned v)∧NodTo W w' (Fn j) (b j) d (c.nod j).crash):=hideA fun W hN=>nodCrash_any (Fn j) (b j) d (c.nod j) W hN
   have HI:=hideA h;have hN:NodAt (w.setCell ⟨gs,j*3+1,none⟩ (.int .i64 1)) (Fn j) (b j) d (c.nod j):=by
    rw[← hnum];exact (h.nod j hj).keep fun k hk=>Below.heap_setCell _ _ _ _ (fun e=>h.off j hj k hk (.inr (.inl e)))
   have HN:=hideA hN;have HS:=hideA (h.sta.put hj 1)
   clear h hN;rcases kinds (c.nod j) with ⟨k1,_,_,k2,_⟩|⟨k1,_,_,k2,_⟩|⟨k1,_,_,k2,_⟩
   all_goals (
    rw[k1] at c2 hm
    rw[k2] at hm HC
    go_enter Tryz.func75,Tryz.ntmps75
    go_wp2_with fail;refine hf.mono ?_
    rintro e w1 ⟨rfl,rfl⟩;clear hf;go_wp2_with fail;refine (HC.out _ HN.out).mono ?_
    rintro e W ⟨⟨v,rfl⟩,F',n1,n2,n3⟩;have HTo:=hideA (And.intro n1 (And.intro n2 n3))
    clear n1 n2 n3 c1 c2 f1;go_wp2_with fail;go_ret;rw[H.out];refine⟨rfl,_,⟨gs,cap,b,_,vr,va,vm,vb,vt,HI.out.nodeS j hj (c.nod j).crash F' (by rw[hnum];exact HTo.out.1) ?_ (fun k e=>(HTo.out.2.2 k e).imp id (fun e=>by simpa using e)) (kin_crash _) ?_⟩, ?_, ?_⟩
    ·exact (((Moved.refl _ (fun k=>Fn j k∨k=gs)).setCell ⟨gs,j*3+1,none⟩ (.inr rfl) _).trans (HTo.out.2.1.wider (fun k e=>.inl e)) (fun k _ e=>e))
    ·refine (HS.out.keep (HTo.out.2.1.block gs (by simp;exact HI.out.lt gs (HI.out.inO gs (.inr (.inl rfl)))) (fun e=>HI.out.off j hj gs e (.inr (.inl rfl))))).as fun i hi => ?_
     unfold Clu.sta
     rw[setNod_reps,nod_setNod HI.out.a3 HI.out.m2 hj (kin_crash _) i hi]
     by_cases e:i=j
     ·subst e
      simp only [if_true]
      cases c.nod i<;>rfl
     ·simp only [if_neg e]
    ·have hMv:=(((Moved.refl _ (fun k=>Fn j k∨k=gs)).setCell ⟨gs,j*3+1,none⟩ (.inr rfl) (.int .i64 1)).trans (HTo.out.2.1.wider (fun k e=>.inl e)) (fun k _ e=>e))
     refine hMv.wider fun k e => ?_
     rcases e with e|e
     ·exact HI.out.inN j hj k e
     ·rw[e];exact HI.out.inO gs (.inr (.inl rfl))
    ·rintro k (e|e)
     ·exact .inl e
     ·exact (HTo.out.2.2 k e).imp (HI.out.inN j hj k) (fun e=>by simpa using e))
  ·have e:findIn c gs true d=.tuple #[.pointer none,.int .i64 5]:=by unfold findIn;rw[hp];simp[hu2]
   have H:Hid (c.crash d=(c,5)):=hideA (by
    have:(c.nod j).up=false:=by simpa using hu2
    unfold Clu.crash
    rw[hu,hp];simp only [Option.map_some,this])
   rw[e] at hf
   clear e hu h;go_enter Tryz.func75,Tryz.ntmps75
   go_wp2_with fail;refine hf.mono ?_
   rintro e w1 ⟨rfl,rfl⟩;clear hf;go_wp2_with fail;go_ret;rw[H.out];exact⟨rfl,CAfter.still HA.out (Below.refl _ _)⟩
theorem cluRestart_any {w:World}{F:Nat→Prop}{x:Nat}{c:Clu}{E:Int}{g:Gh}(d:Int)(h:CAt w F x c)(hg:Good c E g) :
  Calls Tryz.prog 76 #[.pointer (some ⟨x,0,none⟩),.int .i64 d] w fun r w'=>r=.returned (.int .i64 (c.restart d).2)∧CAfter w F x (c.restart d).1 w':=by
 have HA:=hideA h;obtain⟨gs,cap,b,Fn,vr,va,vm,vb,vt,h⟩:=h;have hf:Calls Tryz.prog 65 #[.pointer (some ⟨x,0,none⟩),.int .i64 1,.int .i64 d] w fun e w'=>e=.returned (findIn c gs false d)∧w'=w:=findIn_any w F x gs cap c b Fn vr va vm vb vt false d h
 have hu:=upOf_nod c d
 cases hp:nodPlace c.reps.length d with
 | none =>
  have e:findIn c gs false d=.tuple #[.pointer none,.int .i64 4]:=by unfold findIn;rw[hp]
  have H:Hid (c.restart d=(c,4)):=hideA (by unfold Clu.restart;rw[hu,hp];rfl)
  rw[e] at hf
  clear e hu h;go_enter Tryz.func76,Tryz.ntmps76
  go_wp2_with fail;refine hf.mono ?_
  rintro e w1 ⟨rfl,rfl⟩;clear hf;go_wp2_with fail;go_ret;rw[H.out];exact⟨rfl,CAfter.still HA.out (Below.refl _ _)⟩
 | some j =>
  by_cases hu2:(c.nod j).up=false
  ·have e:findIn c gs false d=.tuple #[.pointer (some ⟨gs,j*3,none⟩),.int .i64 0]:=by unfold findIn;rw[hp];simp[hu2]
   have H:Hid (c.restart d=(c.setNod j ((c.nod j).restart d),0)):=hideA (restart_nod hp hu2)
   have hj:=nodPlace_lt hp
   have hnum:=nodPlace_num hp
   have hG:=h.apart
   obtain⟨cs,hcs,hst⟩:=h.sta;have c1:=(coh hcs (j*3+1)).trans (hst j hj).2.1
   have f1:=foh hcs (j*3+1)
   have c2:w.cell? ⟨gs,j*3+2,none⟩=some (.iface (nodTy (c.nod j)) (.pointer (some ⟨b j,0,none⟩))):=(coh hcs (j*3+2)).trans (hst j hj).2.2
   rw[e] at hf
   clear e hu hcs hst;have hm:=meth_restart (c.nod j) (some ⟨b j,0,none⟩)
   have HC:Hid (∀ W,NodAt W (Fn j) (b j) d (c.nod j)→Calls Tryz.prog (restartFn (c.nod j)) #[.pointer (some ⟨b j,0,none⟩)] W fun e w'=>(∃ v,e=.returned v)∧NodTo W w' (Fn j) (b j) d ((c.nod j).restart d)):=hideA fun W hN=>nodRestart_any c.reps.length E (Fn j) (b j) d (c.nod j) W hN (hnum ▸ nodOK hg j hj) hu2
   have HI:=hideA h;have hN:NodAt (w.setCell ⟨gs,j*3+1,none⟩ (.int .i64 0)) (Fn j) (b j) d (c.nod j):=by
    rw[← hnum];exact (h.nod j hj).keep fun k hk=>Below.heap_setCell _ _ _ _ (fun e=>h.off j hj k hk (.inr (.inl e)))
   have HN:=hideA hN;have HS:=hideA (h.sta.put hj 0)
   clear h hN;rcases kinds (c.nod j) with ⟨k1,_,_,_,k2⟩|⟨k1,_,_,_,k2⟩|⟨k1,_,_,_,k2⟩
   all_goals (
    rw[k1] at c2 hm
    rw[k2] at hm HC
    go_enter Tryz.func76,Tryz.ntmps76
    go_wp2_with fail;refine hf.mono ?_
    rintro e w1 ⟨rfl,rfl⟩;clear hf;go_wp2_with fail;refine (HC.out _ HN.out).mono ?_
    rintro e W ⟨⟨v,rfl⟩,F',n1,n2,n3⟩;have HTo:=hideA (And.intro n1 (And.intro n2 n3))
    clear n1 n2 n3 c1 c2 f1;go_wp2_with fail;go_ret;rw[H.out];refine⟨rfl,_,⟨gs,cap,b,_,vr,va,vm,vb,vt,HI.out.nodeS j hj ((c.nod j).restart d) F' (by rw[hnum];exact HTo.out.1) ?_ (fun k e=>(HTo.out.2.2 k e).imp id (fun e=>by simpa using e)) (kin_restart _ _) ?_⟩, ?_, ?_⟩
    ·exact (((Moved.refl _ (fun k=>Fn j k∨k=gs)).setCell ⟨gs,j*3+1,none⟩ (.inr rfl) _).trans (HTo.out.2.1.wider (fun k e=>.inl e)) (fun k _ e=>e))
    ·refine (HS.out.keep (HTo.out.2.1.block gs (by simp;exact HI.out.lt gs (HI.out.inO gs (.inr (.inl rfl)))) (fun e=>HI.out.off j hj gs e (.inr (.inl rfl))))).as fun i hi => ?_
     unfold Clu.sta
     rw[setNod_reps,nod_setNod HI.out.a3 HI.out.m2 hj (kin_restart _ _) i hi]
     by_cases e:i=j
     ·subst e
      simp only [if_true]
      cases c.nod i<;>rfl
     ·simp only [if_neg e]
    ·have hMv:=(((Moved.refl _ (fun k=>Fn j k∨k=gs)).setCell ⟨gs,j*3+1,none⟩ (.inr rfl) (.int .i64 0)).trans (HTo.out.2.1.wider (fun k e=>.inl e)) (fun k _ e=>e))
     refine hMv.wider fun k e => ?_
     rcases e with e|e
     ·exact HI.out.inN j hj k e
     ·rw[e];exact HI.out.inO gs (.inr (.inl rfl))
    ·rintro k (e|e)
     ·exact .inl e
     ·exact (HTo.out.2.2 k e).imp (HI.out.inN j hj k) (fun e=>by simpa using e))
  ·have e:findIn c gs false d=.tuple #[.pointer none,.int .i64 5]:=by unfold findIn;rw[hp];simp[hu2]
   have H:Hid (c.restart d=(c,5)):=hideA (by
    have:(c.nod j).up=true:=by simpa using hu2
    unfold Clu.restart
    rw[hu,hp];simp only [Option.map_some,this])
   rw[e] at hf
   clear e hu h;go_enter Tryz.func76,Tryz.ntmps76
   go_wp2_with fail;refine hf.mono ?_
   rintro e w1 ⟨rfl,rfl⟩;clear hf;go_wp2_with fail;go_ret;rw[H.out];exact⟨rfl,CAfter.still HA.out (Below.refl _ _)⟩
theorem set_getD_self {α : Type}(l:List α)(i:Nat)(d : α):l.set i (l.getD i d)=l:=by
 by_cases h:i<l.length
 ·rw[List.getD_eq_getElem?_getD,List.getElem?_eq_getElem h]
  exact List.set_getElem_self h
 ·exact List.set_eq_of_length_le (by omega)
theorem setNod_self (c:Clu)(j:Nat):c.setNod j (c.nod j)=c:=by
 unfold Clu.nod
 split
 ·unfold Clu.setNod Clu.setRep Clu.rep
  simp only
  rw[set_getD_self]
 ·split
  ·unfold Clu.setNod Clu.setAcc Clu.acc
   simp only
   rw[set_getD_self]
  ·unfold Clu.setNod Clu.setMas Clu.mas
   simp only
   rw[set_getD_self]
theorem kin_self (x:Nod):x.kin x:=by cases x<;>trivial
theorem CluIn.sends {w W w':World}{F:Nat→Prop}{x gs cap:Nat}{c:Clu}{b:Nat→Nat}{Fn:Nat→Nat→Prop}{vr va vm vb vt:Value}(h:CluIn w F x gs cap c b Fn vr va vm vb vt)(j:Nat)(hj:j<c.reps.length+5)(y:Nod)(F':Nat→Prop)(l:List (List UInt8 × Bool))
  (hy:NodAt W F' (b j) (numOf c.reps.length j) y) (hM:Moved w W (Fn j)) (hF:∀ k,F' k→Fn j k∨w.heap.size≤k) (hkin:(c.nod j).kin y) (hup:y.up=(c.nod j).up)
  (hB:BagTo W w' x (.slice (some ⟨gs,0,none⟩) (c.reps.length+5) cap) vr va vm vb vt l):CAfter w F x { c.setNod j y with bag:=l } w':=by
 have h1:=h.node j hj y F' hy hM hF hkin hup
 have hn:=setNod_reps c j y
 obtain⟨vb',h2,h3,h4⟩:=h1.bagTo l (by rw[hn];exact hB)
 refine CAfter.trans (F1:=fun k=>F k∨F' k) (hM.wider (fun k e=>h.inN j hj k e)) ?_ ⟨_,⟨gs,cap,b,_,vr,va,vm,vb',vt,h2⟩,h3,h4⟩
 rintro k (e|e)
 ·exact .inl e
 ·exact (hF k e).imp (h.inN j hj k) id
theorem NodOut.below {w W w':World}{F:Nat→Prop}{b:Nat}{own:Int}{e:Ending}{q:Nod × List Msg}(hb:Below w.heap.size w W)(h:NodOut W w' F b own e q):NodOut w w' F b own e q:=by
 obtain⟨v,F',rfl,h1,h2,h3,h4⟩:=h;have hs:=hb.size
 exact⟨v,F',rfl,h1,((Moved.refl w F).below hb).trans h2 (fun k _ e=>e),fun k e=>(h3 k e).imp id (fun e=>by omega),h4.base hs⟩
theorem CluIn.bagBeside {w W:World}{F:Nat→Prop}{x gs cap:Nat}{c:Clu}{b:Nat→Nat}{Fn:Nat→Nat→Prop}{vr va vm vb vt:Value}(h:CluIn w F x gs cap c b Fn vr va vm vb vt)(j:Nat)(hj:j<c.reps.length+5)(hM:Moved w W (Fn j)) :
  BagIn W x (.slice (some ⟨gs,0,none⟩) (c.reps.length+5) cap) vr va vm vb vt c.bag∧W.heap[gs]?=w.heap[gs]?:=by
 have hO:∀ k,OwnS x gs vr va vm vb vt k→W.heap[k]?=w.heap[k]?:=fun k hk=>hM.block k (h.lt k (h.inO k hk)) (fun e=>h.off j hj k e hk)
 exact⟨⟨(hO x (.inl rfl)).trans h.bag.blk,oon h.bag.row fun k e=>hO k (.inr (.inr (.inr (.inr (.inr (.inl e))))))⟩,hO gs (.inr (.inl rfl))⟩
theorem BagTo.beside {W w':World}{x gs:Nat}{vs vr va vm vb vt:Value}{l l':List (List UInt8 × Bool)}{cs:Array Value}(hB:BagIn W x vs vr va vm vb vt l)(h:BagTo W w' x vs vr va vm vb vt l')(hg:W.heap[gs]?=some (.cells cs 183)):w'.heap[gs]?=some (.cells cs 183):=by
 obtain⟨vb',h1,h2,h3⟩:=h;refine (h2.block gs (Array.getElem?_eq_some_iff.1 hg).1 ?_).trans hg
 rintro (e|e)
 ·rw[e,hB.blk] at hg
  simp at hg
 ·exact bty hg hB.row (by decide) e
theorem tick_len (r:Rep)(own:Int)(h:r.log.length≤24):(r.tick own).length≤24:=by
 unfold Rep.tick
 split
 ·split
  ·unfold Rep.acks
   split<;>simp
  ·simp[placesFrom]
   omega
 ·simp
theorem nodTick_len {n:Nat}{E own:Int}{y:Nod}(h:NodOK n E own y):(y.tick own).length≤100:=by
 cases y with
 | rep r =>
  have:=tick_len r own (h.rep r rfl).log.1
  show (r.tick own).length≤100
  omega
 | acc a=>simp[Nod.tick]
 | mas s =>
  have h1:=all_len (h.mas s rfl).1 h.n5
  show (s.asks own).length≤100
  unfold Mas.asks
  rw[List.length_map];have:=List.length_filter_le (fun x => !s.cameFrom x) s.all
  omega
theorem cluTick_any {w:World}{F:Nat→Prop}{x:Nat}{c:Clu}{E:Int}{g:Gh}(d:Int)(h:CAt w F x c)(hg:Good c E g) :
  Calls Tryz.prog 73 #[.pointer (some ⟨x,0,none⟩),.int .i64 d] w fun r w'=>r=.returned (.int .i64 (c.tick d).2)∧CAfter w F x (c.tick d).1 w':=by
 have HA:=hideA h;obtain⟨gs,cap,b,Fn,vr,va,vm,vb,vt,h⟩:=h;have hf:Calls Tryz.prog 65 #[.pointer (some ⟨x,0,none⟩),.int .i64 0,.int .i64 d] w fun e w'=>e=.returned (findIn c gs true d)∧w'=w:=findIn_any w F x gs cap c b Fn vr va vm vb vt true d h
 have hu:=upOf_nod c d
 cases hp:nodPlace c.reps.length d with
 | none =>
  have e:findIn c gs true d=.tuple #[.pointer none,.int .i64 4]:=by unfold findIn;rw[hp]
  have H:Hid (c.tick d=(c,4)):=hideA (by unfold Clu.tick;rw[hu,hp];rfl)
  rw[e] at hf
  clear e hu h;go_enter Tryz.func73,Tryz.ntmps73
  go_wp2_with fail;refine hf.mono ?_
  rintro e w1 ⟨rfl,rfl⟩;clear hf;go_wp2_with fail;go_ret;rw[H.out];exact⟨rfl,CAfter.still HA.out (Below.refl _ _)⟩
 | some j =>
  by_cases hu2:(c.nod j).up=true
  ·have e:findIn c gs true d=.tuple #[.pointer (some ⟨gs,j*3,none⟩),.int .i64 0]:=by unfold findIn;rw[hp];simp[hu2]
   have hj:=nodPlace_lt hp
   have hnum:=nodPlace_num hp
   have H:Hid (c.tick d=({ c.setNod j (c.nod j) with bag:=puts c.bag ((c.nod j).tick d) },0)):=hideA (by
    unfold Clu.tick
    rw[hu,hp];simp only [Option.map_some,hu2]
    rw[setNod_self,ticks_nod hp];rfl)
   have hok:Hid (∀ m∈(c.nod j).tick d,m.ok=true):=hideA (by
    rw[← ticks_nod hp];exact fun m hm=>(hg.nodes.ticks d m hm).1.ok hg.nodes.n5 hg.nodes.E2000)
   have hlen:Hid (((c.nod j).tick d).length≤100):=hideA (by
    have:=nodTick_len (nodOK hg j hj)
    rw[hnum] at this
    exact this)
   obtain⟨cs,hcs,hst⟩:=h.sta;have c2:w.cell? ⟨gs,j*3+2,none⟩=some (.iface (nodTy (c.nod j)) (.pointer (some ⟨b j,0,none⟩))):=(coh hcs (j*3+2)).trans (hst j hj).2.2
   rw[e] at hf
   clear e hu;have hm:=meth_tick (c.nod j) (some ⟨b j,0,none⟩)
   have HC:Hid (∀ W,Below w.heap.size w W→Calls Tryz.prog (tickFn (c.nod j)) #[.pointer (some ⟨b j,0,none⟩)] W fun e w'=>NodOut w w' (Fn j) (b j) d e (c.nod j,(c.nod j).tick d)):=hideA fun W hb=>by
    have hN:NodAt W (Fn j) (b j) d (c.nod j):=by
     rw[← hnum];exact (h.nod j hj).keep fun k hk=>hb.block k ((h.nod j hj).lt hk)
    exact (nodTick_any c.reps.length E (Fn j) (b j) d (c.nod j) _ hN (hnum ▸ nodOK hg j hj)).mono fun e w' ho=>NodOut.below hb ho
   have HS:Hid (∀ W v,Moved w W (Fn j)→MsgsOwn W w.heap.size v ((c.nod j).tick d)→Calls Tryz.prog 36 #[.pointer (some ⟨x,4,none⟩),v] W fun e w'=>(∃ v,e=.returned v)∧BagTo W w' x (.slice (some ⟨gs,0,none⟩) (c.reps.length+5) cap) vr va vm vb vt (puts c.bag ((c.nod j).tick d))):=hideA fun W v hM hv=>bagSend_any x _ vr va vm vb vt c.bag _ v _ W (h.bagBeside j hj hM).1 hg.bag hv hok.out (by have:=hlen.out;omega)
   have HK:Hid (∀ W,Moved w W (Fn j)→W.cell? ⟨gs,j*3+2,none⟩=some (.iface (nodTy (c.nod j)) (.pointer (some ⟨b j,0,none⟩)))∧∀ w' l',BagTo W w' x (.slice (some ⟨gs,0,none⟩) (c.reps.length+5) cap) vr va vm vb vt l'→w'.cell? ⟨gs,j*3+2,none⟩=some (.iface (nodTy (c.nod j)) (.pointer (some ⟨b j,0,none⟩)))):=hideA fun W hM=>by
    obtain⟨q1,q2⟩:=h.bagBeside j hj hM
    have q3:=q2.trans hcs
    exact⟨(coh q3 (j*3+2)).trans (hst j hj).2.2,fun w' l' hB=>(coh (hB.beside q1 q3) (j*3+2)).trans (hst j hj).2.2⟩
   have HI:=hideA h;clear h hcs hst;rcases kinds (c.nod j) with ⟨k1,_,k2,_⟩|⟨k1,_,k2,_⟩|⟨k1,_,k2,_⟩
   ·rw[k1] at c2 hm HK
    rw[k2] at hm HC
    go_enter Tryz.func73,Tryz.ntmps73
    go_wp2_with fail;refine hf.mono ?_
    rintro e w1 ⟨rfl,rfl⟩;clear hf;go_wp2_with fail;have hbd:=(Below.refl w1.heap.size w1).drew
    go_region_held3 (fun w'=>w'.cell? ⟨gs,j*3+2,none⟩=some (.iface 129 (.pointer (some ⟨b j,0,none⟩)))) (first|assumption|(simp[go_sem];done)|(simp[go_sem, *];done)|go_keep)
     (first
      | (go_at_call 262;refine (HC.out _ hbd).mono ?_;rintro e W ⟨v,F',rfl,n1,n2,n3,n4⟩;have HN:=hideA (And.intro n1 (And.intro n2 (And.intro n3 n4)));have cW:=(HK.out W n2).1;clear n1 n2 n3 n4)
      | (go_at_call 36;refine (HS.out _ _ HN.out.2.1 HN.out.2.2.2).mono ?_;rintro e W2 ⟨⟨v2,rfl⟩,hB⟩;have HB:=hideA hB;have cW2:=(HK.out W HN.out.2.1).2 _ _ hB;clear hB))
    all_goals (
     go_wp2_with fail;go_ret;rw[H.out];exact⟨rfl,HI.out.sends j hj (c.nod j) F' _ (by rw[hnum];exact HN.out.1) HN.out.2.1 HN.out.2.2.1 (kin_self _) rfl HB.out⟩)
   ·rw[k1] at c2 hm HK
    rw[k2] at hm HC
    go_enter Tryz.func73,Tryz.ntmps73
    go_wp2_with fail;refine hf.mono ?_
    rintro e w1 ⟨rfl,rfl⟩;clear hf;go_wp2_with fail;have hbd:=(Below.refl w1.heap.size w1).drew
    go_region_held3 (fun w'=>w'.cell? ⟨gs,j*3+2,none⟩=some (.iface 99 (.pointer (some ⟨b j,0,none⟩)))) (first|assumption|(simp[go_sem];done)|(simp[go_sem, *];done)|go_keep)
     (first
      | (go_at_call 251;refine (HC.out _ hbd).mono ?_;rintro e W ⟨v,F',rfl,n1,n2,n3,n4⟩;have HN:=hideA (And.intro n1 (And.intro n2 (And.intro n3 n4)));have cW:=(HK.out W n2).1;clear n1 n2 n3 n4)
      | (go_at_call 36;refine (HS.out _ _ HN.out.2.1 HN.out.2.2.2).mono ?_;rintro e W2 ⟨⟨v2,rfl⟩,hB⟩;have HB:=hideA hB;have cW2:=(HK.out W HN.out.2.1).2 _ _ hB;clear hB))
    all_goals (
     go_wp2_with fail;go_ret;rw[H.out];exact⟨rfl,HI.out.sends j hj (c.nod j) F' _ (by rw[hnum];exact HN.out.1) HN.out.2.1 HN.out.2.2.1 (kin_self _) rfl HB.out⟩)
   ·rw[k1] at c2 hm HK
    rw[k2] at hm HC
    go_enter Tryz.func73,Tryz.ntmps73
    go_wp2_with fail;refine hf.mono ?_
    rintro e w1 ⟨rfl,rfl⟩;clear hf;go_wp2_with fail;have hbd:=(Below.refl w1.heap.size w1).drew
    go_region_held3 (fun w'=>w'.cell? ⟨gs,j*3+2,none⟩=some (.iface 81 (.pointer (some ⟨b j,0,none⟩)))) (first|assumption|(simp[go_sem];done)|(simp[go_sem, *];done)|go_keep)
     (first
      | (go_at_call 125;refine (HC.out _ hbd).mono ?_;rintro e W ⟨v,F',rfl,n1,n2,n3,n4⟩;have HN:=hideA (And.intro n1 (And.intro n2 (And.intro n3 n4)));have cW:=(HK.out W n2).1;clear n1 n2 n3 n4)
      | (go_at_call 36;refine (HS.out _ _ HN.out.2.1 HN.out.2.2.2).mono ?_;rintro e W2 ⟨⟨v2,rfl⟩,hB⟩;have HB:=hideA hB;have cW2:=(HK.out W HN.out.2.1).2 _ _ hB;clear hB))
    all_goals (
     go_wp2_with fail;go_ret;rw[H.out];exact⟨rfl,HI.out.sends j hj (c.nod j) F' _ (by rw[hnum];exact HN.out.1) HN.out.2.1 HN.out.2.2.1 (kin_self _) rfl HB.out⟩)
  ·have e:findIn c gs true d=.tuple #[.pointer none,.int .i64 5]:=by unfold findIn;rw[hp];simp[hu2]
   have H:Hid (c.tick d=(c,5)):=hideA (by
    have:(c.nod j).up=false:=by simpa using hu2
    unfold Clu.tick
    rw[hu,hp];simp only [Option.map_some,this])
   rw[e] at hf
   clear e hu h;go_enter Tryz.func73,Tryz.ntmps73
   go_wp2_with fail;refine hf.mono ?_
   rintro e w1 ⟨rfl,rfl⟩;clear hf;go_wp2_with fail;go_ret;rw[H.out];exact⟨rfl,CAfter.still HA.out (Below.refl _ _)⟩
theorem CluIn.bagAfter {w w':World}{F:Nat→Prop}{x gs cap:Nat}{c:Clu}{b:Nat→Nat}{Fn:Nat→Nat→Prop}{vr va vm vb vt:Value}(h:CluIn w F x gs cap c b Fn vr va vm vb vt)(l:List (List UInt8 × Bool))(hB:BagTo w w' x (.slice (some ⟨gs,0,none⟩) (c.reps.length+5) cap) vr va vm vb vt l):CAfter w F x { c with bag:=l } w':=by
 obtain⟨vb',h2,h3,h4⟩:=h.bagTo l hB
 exact⟨_,⟨gs,cap,b,_,vr,va,vm,vb',vt,h2⟩,h3,h4⟩
theorem cluDrop_any {w:World}{F:Nat→Prop}{x:Nat}{c:Clu}{E:Int}{g:Gh}(d:Int)(h:CAt w F x c)(hg:Good c E g) :
  Calls Tryz.prog 78 #[.pointer (some ⟨x,0,none⟩),.int .i64 d] w fun r w'=>r=.returned (.int .i64 (c.drop d).2)∧CAfter w F x (c.drop d).1 w':=by
 have HA:=hideA h;obtain⟨gs,cap,b,Fn,vr,va,vm,vb,vt,h⟩:=h;have hf:=bagHas_any x _ vr va vm vb vt c.bag d w h.bag
 by_cases hh:c.hasFrame d
 ·have e:decide (0≤d∧d<(c.bag.length:Int))=true:=decide_eq_true hh
  rw[e] at hf
  have hd:d=((d.toNat:Nat):Int):=by have:=hh.1;omega
  have H:Hid (c.drop d=({ c with bag:=c.bag.eraseIdx d.toNat },0)):=hideA (by unfold Clu.drop;rw[if_pos hh];rfl)
  have HT:=hideA (bagTake_any x _ vr va vm vb vt c.bag d.toNat w h.bag (by have:=hh.1;have:=hh.2;omega) hg.bag)
  have HI:=hideA h;rw[← hd] at HT
  clear h e hd;go_enter Tryz.func78,Tryz.ntmps78
  go_wp2_with fail;refine hf.mono ?_
  rintro e w1 ⟨rfl,rfl⟩;clear hf;go_wp2_with fail;refine HT.out.mono ?_
  rintro e W ⟨rfl,hB⟩;have HB:=hideA hB;clear hB;go_wp2_with fail;go_ret;rw[H.out];exact⟨rfl,HI.out.bagAfter _ HB.out⟩
 ·have e:decide (0≤d∧d<(c.bag.length:Int))=false:=decide_eq_false hh
  rw[e] at hf
  have H:Hid (c.drop d=(c,8)):=hideA (by unfold Clu.drop;rw[if_neg hh])
  clear h e;go_enter Tryz.func78,Tryz.ntmps78
  go_wp2_with fail;refine hf.mono ?_
  rintro e w1 ⟨rfl,rfl⟩;clear hf;go_wp2_with fail;go_ret;rw[H.out];exact⟨rfl,CAfter.still HA.out (Below.refl _ _)⟩
theorem double_put (c:Clu)(hb:c.bag.length≤200)(f:List UInt8 × Bool):(c.bag++[f]).take 200=putOne c.bag f:=by
 unfold putOne
 split
 ·rw[List.take_of_length_le (by simp;omega)]
 ·rw[List.take_append_of_le_length (by omega),List.take_of_length_le hb]
theorem cluDouble_any {w:World}{F:Nat→Prop}{x:Nat}{c:Clu}{E:Int}{g:Gh}(d:Int)(h:CAt w F x c)(hg:Good c E g) :
  Calls Tryz.prog 79 #[.pointer (some ⟨x,0,none⟩),.int .i64 d] w fun r w'=>r=.returned (.int .i64 (c.double d).2)∧CAfter w F x (c.double d).1 w':=by
 have HA:=hideA h;obtain⟨gs,cap,b,Fn,vr,va,vm,vb,vt,h⟩:=h;have hf:=bagHas_any x _ vr va vm vb vt c.bag d w h.bag
 by_cases hh:c.hasFrame d
 ·have e:decide (0≤d∧d<(c.bag.length:Int))=true:=decide_eq_true hh
  rw[e] at hf
  have hd:d=((d.toNat:Nat):Int):=by have:=hh.1;omega
  have H:Hid (c.double d=({ c with bag:=putOne c.bag (c.bag.getD d.toNat ([],false)) },0)):=hideA (by unfold Clu.double;rw[if_pos hh,double_put c hg.bag];rfl)
  have HT:=hideA (bagDouble_any x _ vr va vm vb vt c.bag d.toNat w h.bag (by have:=hh.1;have:=hh.2;omega) hg.bag)
  have HI:=hideA h;rw[← hd] at HT
  clear h e hd;go_enter Tryz.func79,Tryz.ntmps79
  go_wp2_with fail;refine hf.mono ?_
  rintro e w1 ⟨rfl,rfl⟩;clear hf;go_wp2_with fail;refine HT.out.mono ?_
  rintro e W ⟨⟨v,rfl⟩,hB⟩;have HB:=hideA hB;clear hB;go_wp2_with fail;go_ret;rw[H.out];exact⟨rfl,HI.out.bagAfter _ HB.out⟩
 ·have e:decide (0≤d∧d<(c.bag.length:Int))=false:=decide_eq_false hh
  rw[e] at hf
  have H:Hid (c.double d=(c,8)):=hideA (by unfold Clu.double;rw[if_neg hh])
  clear h e;go_enter Tryz.func79,Tryz.ntmps79
  go_wp2_with fail;refine hf.mono ?_
  rintro e w1 ⟨rfl,rfl⟩;clear hf;go_wp2_with fail;go_ret;rw[H.out];exact⟨rfl,CAfter.still HA.out (Below.refl _ _)⟩
theorem cluBag_any {w:World}{F:Nat→Prop}{x:Nat}{c:Clu}(h:CAt w F x c)(hg:c.bag.length≤200) :
  Calls Tryz.prog 61 #[.pointer (some ⟨x,0,none⟩)] w fun r w'=>∃ v,r=.returned v∧w'.ownsRow w.heap.size 9 1 v c.bag.length (bagV c.bag)∧Below w.heap.size w w':=by
 obtain⟨gs,cap,b,Fn,vr,va,vm,vb,vt,h⟩:=h;have HL:=hideA (bagList_any x _ vr va vm vb vt c.bag w h.bag hg)
 clear h;go_enter Tryz.func61,Tryz.ntmps61
 go_wp2_with fail;refine HL.out.mono ?_
 rintro e W ⟨v,rfl,h1,h2⟩;obtain⟨a9,c9,rfl⟩:=osh h1
 have H1:=hideA h1;clear h1;go_wp2_with fail;go_ret;exact⟨_,rfl,H1.out,h2⟩
theorem cluAnswers_any {w:World}{F:Nat→Prop}{x:Nat}{c:Clu}(h:CAt w F x c)(hg:c.told.length≤3000000000000) :
  Calls Tryz.prog 103 #[.pointer (some ⟨x,0,none⟩)] w fun r w'=>∃ v,r=.returned v∧w'.ownsRow w.heap.size 113 3 v c.told.length (ints (ansNums c.told))∧Below w.heap.size w w':=by
 obtain⟨gs,cap,b,Fn,vr,va,vm,vb,vt,h⟩:=h;have HC:=hideA (clone_anss vt c.told.length (ints (ansNums c.told)) w (CellsAt.of_owns h.rt) (by rw[ints_length,ansNums_length]) (ints_one _) hg)
 obtain⟨at',ct,rfl⟩:=osh h.rt
 have c5:=coh h.bag.blk 5
 clear h;go_enter Tryz.func103,Tryz.ntmps103
 go_wp2_with fail;refine HC.out.mono ?_
 rintro e W ⟨v,rfl,h1,h2⟩;obtain⟨a9,c9,rfl⟩:=osh h1
 have H1:=hideA h1;clear h1;go_wp2_with fail;go_ret;exact⟨_,rfl,H1.out,h2⟩
end Go.Proofs.YtgieeeeeiggoeaaGreat
