import Derived.Test.YtgieeeeeiggoeaaGreatC27
import Derived.Test.YtgieeeeeiggoeaaGreatC28
import Derived.Test.YtgieeeeeiggoeaaGreatC29
import Derived.Test.YtgieeeeeiggoeaaGreatC18
import Derived.Test.YtgieeeeeiggoeaaGreatC05
set_option maxRecDepth 100000
set_option maxHeartbeats 1000000
namespace Go.Proofs.YtgieeeeeiggoeaaGreat
open Go.RowKit Go.Shelf
def nodTy : Nod→TypeId
 | .rep _=>129
 | .acc _=>99
 | .mas _=>81
def upInt (b:Bool):Int:=if b then 0 else 1
def OwnS (x gs:Nat)(vr va vm vb vt:Value)(k:Nat):Prop:=k=x∨k=gs∨vr.ownBlock=some k∨va.ownBlock=some k∨vm.ownBlock=some k∨vb.ownBlock=some k∨vt.ownBlock=some k
def StaIn (w:World)(gs:Nat)(m:Nat)(f:Nat→Int × Int × Value):Prop :=
 ∃ cs,w.heap[gs]?=some (.cells cs 183)∧∀ j,j<m→cs[j*3]?=some (.int .i64 (f j).1)∧cs[j*3+1]?=some (.int .i64 (f j).2.1)∧cs[j*3+2]?=some (f j).2.2
def Clu.sta (c:Clu)(b:Nat→Nat)(j:Nat):Int × Int × Value:=(numOf c.reps.length j,upInt (c.nod j).up,.iface (nodTy (c.nod j)) (.pointer (some ⟨b j,0,none⟩)))
def ptrs (b:Nat→Nat)(from_ m:Nat):List Value:=(List.range m).map fun i=>Value.pointer (some ⟨b (from_+i),0,none⟩)
structure CluIn (w:World)(F:Nat→Prop)(x gs cap:Nat)(c:Clu)(b:Nat→Nat)(Fn:Nat→Nat→Prop)(vr va vm vb vt:Value):Prop where
 bag:BagIn w x (.slice (some ⟨gs,0,none⟩) (c.reps.length+5) cap) vr va vm vb vt c.bag
 sta:StaIn w gs (c.reps.length+5) (c.sta b)
 hcap:c.reps.length+5≤cap
 rr:w.ownsRow 0 129 1 vr c.reps.length (ptrs b 0 c.reps.length)
 ra:w.ownsRow 0 99 1 va 3 (ptrs b c.reps.length 3)
 rm:w.ownsRow 0 81 1 vm 2 (ptrs b (c.reps.length+3) 2)
 rt:w.ownsRow 0 113 3 vt c.told.length (ints (ansNums c.told))
 nod:∀ j,j<c.reps.length+5→NodAt w (Fn j) (b j) (numOf c.reps.length j) (c.nod j)
 sep:∀ i j,i<c.reps.length+5→j<c.reps.length+5→i≠j→∀ k,Fn i k→¬ Fn j k
 off:∀ j,j<c.reps.length+5→∀ k,Fn j k→¬ OwnS x gs vr va vm vb vt k
 inO:∀ k,OwnS x gs vr va vm vb vt k→F k
 inN:∀ j,j<c.reps.length+5→∀ k,Fn j k→F k
 lt:∀ k,F k→k<w.heap.size
 n1:1≤c.reps.length
 n5:c.reps.length≤5
 a3:c.accs.length=3
 m2:c.mass.length=2
def CAt (w:World)(F:Nat→Prop)(x:Nat)(c:Clu):Prop:=∃ gs cap b Fn vr va vm vb vt,CluIn w F x gs cap c b Fn vr va vm vb vt
theorem StaIn.keep {w w':World}{gs m:Nat}{f:Nat→Int × Int × Value}(h:StaIn w gs m f)(hk:w'.heap[gs]?=w.heap[gs]?):StaIn w' gs m f:=by
 obtain⟨cs,h1,h2⟩:=h;exact⟨cs,hk.trans h1,h2⟩
theorem StaIn.as {w:World}{gs m:Nat}{f f':Nat→Int × Int × Value}(h:StaIn w gs m f)(hf:∀ j,j<m→f' j=f j):StaIn w gs m f':=by
 obtain⟨cs,h1,h2⟩:=h;exact⟨cs,h1,fun j hj=>by rw[hf j hj];exact h2 j hj⟩
theorem CluIn.keep {w w':World}{F:Nat→Prop}{x gs cap:Nat}{c:Clu}{b:Nat→Nat}{Fn:Nat→Nat→Prop}{vr va vm vb vt:Value}(h:CluIn w F x gs cap c b Fn vr va vm vb vt)(hk:∀ k,F k→w'.heap[k]?=w.heap[k]?):CluIn w' F x gs cap c b Fn vr va vm vb vt where
 bag:=⟨(hk x (h.inO x (.inl rfl))).trans h.bag.blk,oon h.bag.row fun k e=>hk k (h.inO k (.inr (.inr (.inr (.inr (.inr (.inl e)))))))⟩
 sta:=h.sta.keep (hk gs (h.inO gs (.inr (.inl rfl))))
 hcap:=h.hcap
 rr:=oon h.rr fun k e=>hk k (h.inO k (.inr (.inr (.inl e))))
 ra:=oon h.ra fun k e=>hk k (h.inO k (.inr (.inr (.inr (.inl e)))))
 rm:=oon h.rm fun k e=>hk k (h.inO k (.inr (.inr (.inr (.inr (.inl e))))))
 rt:=oon h.rt fun k e=>hk k (h.inO k (.inr (.inr (.inr (.inr (.inr (.inr e)))))))
 nod:=fun j hj=>(h.nod j hj).keep fun k e=>hk k (h.inN j hj k e)
 sep:=h.sep
 off:=h.off
 inO:=h.inO
 inN:=h.inN
 lt:=fun k hF=>lt_of_keep (h.lt k hF) (hk k hF)
 n1:=h.n1
 n5:=h.n5
 a3:=h.a3
 m2:=h.m2
theorem CluIn.below {w w':World}{F:Nat→Prop}{x gs cap:Nat}{c:Clu}{b:Nat→Nat}{Fn:Nat→Nat→Prop}{vr va vm vb vt:Value}(h:CluIn w F x gs cap c b Fn vr va vm vb vt)(hb:Below w.heap.size w w'):CluIn w' F x gs cap c b Fn vr va vm vb vt :=
 h.keep fun k hF=>hb.block k (h.lt k hF)
theorem CluIn.apart {w:World}{F:Nat→Prop}{x gs cap:Nat}{c:Clu}{b:Nat→Nat}{Fn:Nat→Nat→Prop}{vr va vm vb vt:Value}(h:CluIn w F x gs cap c b Fn vr va vm vb vt):x≠gs∧∀ {base size n:Nat} {e:TypeId} {v:Value} {xs:List Value},w.ownsRow base e size v n xs→e≠183→v.ownBlock≠some gs:=by
 obtain⟨cs,h1, -⟩:=h.sta;refine⟨fun e => ?_,fun hv he=>bty h1 hv he⟩
 subst e;rw[h.bag.blk] at h1
 simp at h1
theorem CluIn.nodeS {w w':World}{F:Nat→Prop}{x gs cap:Nat}{c:Clu}{b:Nat→Nat}{Fn:Nat→Nat→Prop}{vr va vm vb vt:Value}(h:CluIn w F x gs cap c b Fn vr va vm vb vt)(j:Nat)(hj:j<c.reps.length+5)(y:Nod)(F':Nat→Prop)
  (hy:NodAt w' F' (b j) (numOf c.reps.length j) y) (hM:Moved w w' (fun k=>Fn j k∨k=gs)) (hF:∀ k,F' k→Fn j k∨w.heap.size≤k) (hkin:(c.nod j).kin y) (hsta:StaIn w' gs (c.reps.length+5) ((c.setNod j y).sta b)) :
  CluIn w' (fun k=>F k∨F' k) x gs cap (c.setNod j y) b (fun i=>if i=j then F' else Fn i) vr va vm vb vt:=by
 have hn:=setNod_reps c j y
 obtain⟨hbag,htold,hacc,hmas⟩:=setNod_rest c j y
 have hnod:∀ k,k<c.reps.length+5→(c.setNod j y).nod k=if k=j then y else c.nod k:=fun k hk=>nod_setNod h.a3 h.m2 hj hkin k hk
 have hO:∀ k,OwnS x gs vr va vm vb vt k→k≠gs→w'.heap[k]?=w.heap[k]?:=fun k hk hg=>hM.block k (h.lt k (h.inO k hk)) (fun e=>e.elim (fun e=>h.off j hj k e hk) hg)
 have hG:=h.apart
 refine⟨?_, ?_, ?_, ?_, ?_, ?_, ?_, ?_, ?_, ?_, ?_, ?_, ?_, ?_, ?_, ?_, ?_⟩
 ·rw[hn,hbag]
  exact⟨(hO x (.inl rfl) hG.1).trans h.bag.blk,oon h.bag.row fun k e=>hO k (.inr (.inr (.inr (.inr (.inr (.inl e)))))) (fun e2=>hG.2 h.bag.row (by decide) (e2 ▸ e))⟩
 ·rw[hn]
  exact hsta
 ·rw[hn];exact h.hcap
 ·rw[hn];exact oon h.rr fun k e=>hO k (.inr (.inr (.inl e))) (fun e2=>hG.2 h.rr (by decide) (e2 ▸ e))
 ·rw[hn];exact oon h.ra fun k e=>hO k (.inr (.inr (.inr (.inl e)))) (fun e2=>hG.2 h.ra (by decide) (e2 ▸ e))
 ·rw[hn];exact oon h.rm fun k e=>hO k (.inr (.inr (.inr (.inr (.inl e))))) (fun e2=>hG.2 h.rm (by decide) (e2 ▸ e))
 ·rw[htold];exact oon h.rt fun k e=>hO k (.inr (.inr (.inr (.inr (.inr (.inr e)))))) (fun e2=>hG.2 h.rt (by decide) (e2 ▸ e))
 ·intro i hi
  rw[hn] at hi
  rw[hnod i hi,hn];by_cases e:i=j
  ·subst e
   rw[if_pos rfl];first|exact hy|(simp only [if_true];exact hy)
  ·rw[if_neg e]
   simp only [if_neg e]
   exact (h.nod i hi).keep fun k hk=>hM.block k (h.lt k (h.inN i hi k hk)) (fun e9=>e9.elim (h.sep i j hi hj e k hk) (fun e8=>h.off i hi k hk (.inr (.inl e8))))
 ·intro i k hi hk hne z hz
  rw[hn] at hi hk
  by_cases e:i=j
  ·subst e
   rw[if_pos rfl] at hz
   rw[if_neg (Ne.symm hne)]
   intro h2;rcases hF z hz with h3|h3
   ·exact h.sep i k hi hk hne z h3 h2
   ·have:=h.lt z (h.inN k hk z h2);omega
  ·rw[if_neg e] at hz
   by_cases e2:k=j
   ·subst e2
    rw[if_pos rfl];intro h2;rcases hF z h2 with h3|h3
    ·exact h.sep i k hi hk hne z hz h3
    ·have:=h.lt z (h.inN i hi z hz);omega
   ·rw[if_neg e2]
    exact h.sep i k hi hk hne z hz
 ·intro i hi k hk
  rw[hn] at hi
  by_cases e:i=j
  ·subst e
   rw[if_pos rfl] at hk
   rcases hF k hk with h3|h3
   ·exact h.off i hi k h3
   ·intro h4
    have:=h.lt k (h.inO k h4)
    omega
  ·rw[if_neg e] at hk
   exact h.off i hi k hk
 ·exact fun k hk=>.inl (h.inO k hk)
 ·intro i hi k hk
  rw[hn] at hi
  by_cases e:i=j
  ·rw[if_pos e] at hk
   exact .inr hk
  ·rw[if_neg e] at hk
   exact .inl (h.inN i hi k hk)
 ·rintro k (hk|hk)
  ·have:=h.lt k hk
   have:=hM.size
   omega
  ·exact hy.lt hk
 ·rw[hn];exact h.n1
 ·rw[hn];exact h.n5
 ·rw[hacc];exact h.a3
 ·rw[hmas];exact h.m2
theorem CluIn.node {w w':World}{F:Nat→Prop}{x gs cap:Nat}{c:Clu}{b:Nat→Nat}{Fn:Nat→Nat→Prop}{vr va vm vb vt:Value}(h:CluIn w F x gs cap c b Fn vr va vm vb vt)(j:Nat)(hj:j<c.reps.length+5)(y:Nod)(F':Nat→Prop)
  (hy:NodAt w' F' (b j) (numOf c.reps.length j) y) (hM:Moved w w' (Fn j)) (hF:∀ k,F' k→Fn j k∨w.heap.size≤k) (hkin:(c.nod j).kin y) (hup:y.up=(c.nod j).up) :
  CluIn w' (fun k=>F k∨F' k) x gs cap (c.setNod j y) b (fun i=>if i=j then F' else Fn i) vr va vm vb vt:=by
 refine h.nodeS j hj y F' hy (hM.wider fun k e=>.inl e) hF hkin ?_
 have hn:=setNod_reps c j y
 have hnod:∀ k,k<c.reps.length+5→(c.setNod j y).nod k=if k=j then y else c.nod k:=fun k hk=>nod_setNod h.a3 h.m2 hj hkin k hk
 have hty:nodTy y=nodTy (c.nod j):=by
  revert hkin
  cases c.nod j<;>cases y<;>simp[Nod.kin,nodTy]
 refine (h.sta.keep (hM.block gs (h.lt gs (h.inO gs (.inr (.inl rfl)))) (fun e=>h.off j hj gs e (.inr (.inl rfl))))).as fun i hi => ?_
 unfold Clu.sta
 rw[hn,hnod i hi];by_cases e:i=j
 ·subst e
  rw[if_pos rfl,hup,hty]
 ·rw[if_neg e]
theorem CluIn.bagTo {w w':World}{F:Nat→Prop}{x gs cap:Nat}{c:Clu}{b:Nat→Nat}{Fn:Nat→Nat→Prop}{vr va vm vb vt:Value}(h:CluIn w F x gs cap c b Fn vr va vm vb vt)(l:List (List UInt8 × Bool))(hB:BagTo w w' x (.slice (some ⟨gs,0,none⟩) (c.reps.length+5) cap) vr va vm vb vt l) :
  ∃ vb',CluIn w' (fun k=>F k∨vb'.ownBlock=some k) x gs cap { c with bag:=l } b Fn vr va vm vb' vt∧Moved w w' F∧∀ k,(F k∨vb'.ownBlock=some k)→F k∨w.heap.size≤k:=by
 obtain⟨vb',hI,hM,hg⟩:=hB;have hS:∀ k,BagS x vb k→F k:=by
  rintro k (e|e)
  ·exact h.inO k (.inl e)
  ·exact h.inO k (.inr (.inr (.inr (.inr (.inr (.inl e))))))
 have hrow:∀ {base size n:Nat} {e:TypeId} {v:Value} {xs:List Value},w.ownsRow base e size v n xs→e≠138→e≠93→w'.ownsRow base e size v n xs:=by
  intro base size n e v xs hv h1 h2;refine hM.owns hv fun k hk hS => ?_
  rcases hS with e1|e1
  ·exact bty h.bag.blk hv h2 (e1 ▸ hk)
  ·exact otw hv h.bag.row h1 k hk e1
 have hgs:w'.heap[gs]?=w.heap[gs]?:=by
  refine hM.block gs (h.lt gs (h.inO gs (.inr (.inl rfl)))) ?_
  obtain⟨cs,h1, -⟩:=h.sta;rintro (e|e)
  ·rw[e] at h1
   rw[h.bag.blk] at h1
   simp at h1
  ·exact bty h1 h.bag.row (by decide) e
 have hnw:∀ k,vb'.ownBlock=some k→F k∨w.heap.size≤k:=fun k e=>(hg k e).imp (fun e2=>hS k (.inr e2)) id
 refine⟨vb',⟨hI,h.sta.keep hgs,h.hcap,hrow h.rr (by decide) (by decide),hrow h.ra (by decide) (by decide),hrow h.rm (by decide) (by decide),hrow h.rt (by decide) (by decide), ?_,h.sep, ?_, ?_,fun j hj k hk=>.inl (h.inN j hj k hk), ?_,h.n1,h.n5,h.a3,h.m2⟩,hM.wider hS, ?_⟩
 ·intro j hj
  refine (h.nod j hj).keep fun k hk=>hM.block k (h.lt k (h.inN j hj k hk)) ?_
  rintro (e|e)
  ·exact h.off j hj k hk (.inl e)
  ·exact h.off j hj k hk (.inr (.inr (.inr (.inr (.inr (.inl e))))))
 ·intro j hj k hk hO
  rcases hO with e|e|e|e|e|e|e
  ·exact h.off j hj k hk (.inl e)
  ·exact h.off j hj k hk (.inr (.inl e))
  ·exact h.off j hj k hk (.inr (.inr (.inl e)))
  ·exact h.off j hj k hk (.inr (.inr (.inr (.inl e))))
  ·exact h.off j hj k hk (.inr (.inr (.inr (.inr (.inl e)))))
  ·rcases hg k e with e2|e2
   ·exact h.off j hj k hk (.inr (.inr (.inr (.inr (.inr (.inl e2))))))
   ·have:=h.lt k (h.inN j hj k hk);omega
  ·exact h.off j hj k hk (.inr (.inr (.inr (.inr (.inr (.inr e))))))
 ·intro k hO
  rcases hO with e|e|e|e|e|e|e
  ·exact .inl (h.inO k (.inl e))
  ·exact .inl (h.inO k (.inr (.inl e)))
  ·exact .inl (h.inO k (.inr (.inr (.inl e))))
  ·exact .inl (h.inO k (.inr (.inr (.inr (.inl e)))))
  ·exact .inl (h.inO k (.inr (.inr (.inr (.inr (.inl e))))))
  ·exact .inr e
  ·exact .inl (h.inO k (.inr (.inr (.inr (.inr (.inr (.inr e)))))))
 ·rintro k (e|e)
  ·have:=h.lt k e
   have:=hM.size
   omega
  ·obtain⟨_,h6,_⟩:=obc hI.row e
   exact (Array.getElem?_eq_some_iff.1 h6).1
 ·rintro k (e|e)
  ·exact .inl e
  ·exact hnw k e
def upTo (n most:Int):Bool:=decide (0≤n) && decide (n≤most)
theorem isUpTo_any (n most:Int)(w:World):Calls Tryz.prog 114 #[.int .i64 n,.int .i64 most] w fun e w'=>e=.returned (.bool (upTo n most))∧w'=w:=by
 have HU:Hid (upTo n most=(decide (0≤n) && decide (n≤most))):=hideA rfl
 by_cases h:0≤n
 ·have HV:Hid (upTo n most=decide (n≤most)):=hideA (by rw[HU.out];simp[h])
  go_enter Tryz.func114,Tryz.ntmps114
  go_wp2_with fail;go_ret;refine⟨?_,rfl⟩
  rw[HV.out];first|rfl|simp
 ·have HV:Hid (upTo n most=false):=hideA (by rw[HU.out];simp[h])
  go_enter Tryz.func114,Tryz.ntmps114
  go_wp2_with fail;go_ret;refine⟨?_,rfl⟩
  rw[HV.out];first|rfl|simp
def valOk (e:Ent):Bool:=if e.kind=1 then upTo e.value 999 else if e.kind=2 then decide (e.value=0) else false
theorem ent_box (w:World)(x:Ent):∃ X,w.alloc (.cells #[.int .i64 x.client,.int .i64 x.seq,.int .i64 x.kind,.int .i64 x.key,.int .i64 x.value] 42)=X∧Below w.heap.size w X∧X.heap[w.heap.size]?=some (.cells #[.int .i64 x.client,.int .i64 x.seq,.int .i64 x.kind,.int .i64 x.key,.int .i64 x.value] 42) :=
 ⟨_,rfl,(Below.refl _ w).alloc (Nat.le_refl _) _,hnw _ _⟩
theorem hasValue_any (x:Ent)(w:World):Calls Tryz.prog 115 #[.agg #[.int .i64 x.client,.int .i64 x.seq,.int .i64 x.kind,.int .i64 x.key,.int .i64 x.value]] w fun e w'=>e=.returned (.bool (valOk x))∧Below w.heap.size w w':=by
 have HU:Hid (valOk x=if x.kind=1 then upTo x.value 999 else if x.kind=2 then decide (x.value=0) else false):=hideA rfl
 have HC:=fun W=>hideA (isUpTo_any x.value 999 W)
 cases t1:(x.kind == 1) with
 | true =>
  have HV:Hid (valOk x=upTo x.value 999):=hideA (by rw[HU.out,if_pos (by simpa using t1)])
  go_enter Tryz.func115,Tryz.ntmps115
  go_upto_region 1 with fail
  obtain⟨X,hX,hbX,hM⟩:=ent_box w x
  rw[hX];clear hX;have gM:=fun j=>coh hM j
  clear hM;go_wp2_with fail;refine (HC _).out.mono ?_
  rintro e W ⟨rfl,rfl⟩;go_wp2_with fail;go_ret;exact⟨by rw[HV.out];rfl,hbX⟩
 | false =>
  have N1:Hid (¬ x.kind=1):=hideA (by simpa using t1)
  cases t2:(x.kind == 2) with
  | true =>
   have HV:Hid (valOk x=decide (x.value=0)):=hideA (by rw[HU.out,if_neg N1.out,if_pos (by simpa using t2)])
   go_enter Tryz.func115,Tryz.ntmps115
   go_upto_region 1 with fail
   obtain⟨X,hX,hbX,hM⟩:=ent_box w x
   rw[hX];clear hX;have gM:=fun j=>coh hM j
   clear hM;go_wp2_with fail;go_ret;refine⟨?_,hbX⟩
   rw[HV.out];first|rfl|simp
  | false =>
   have HV:Hid (valOk x=false):=hideA (by rw[HU.out,if_neg N1.out,if_neg (by simpa using t2)])
   go_enter Tryz.func115,Tryz.ntmps115
   go_upto_region 1 with fail
   obtain⟨X,hX,hbX,hM⟩:=ent_box w x
   rw[hX];clear hX;have gM:=fun j=>coh hM j
   clear hM;go_wp2_with fail;go_ret;exact⟨by rw[HV.out];rfl,hbX⟩
theorem isEntry_eq (x:Ent):(upTo x.client 3 && upTo x.seq 999 && upTo x.key 15 && valOk x)=x.ok:=by
 unfold upTo valOk Ent.ok upTo
 by_cases h1:x.kind=1
 ·simp[h1]
  cases decide (0≤x.client)<;>cases decide (x.client≤3)<;>cases decide (0≤x.seq)<;>cases decide (x.seq≤999)<;>cases decide (0≤x.key)<;>cases decide (x.key≤15)<;>simp
 ·by_cases h2:x.kind=2
  ·by_cases h3:x.value=0
   ·simp[h2,h3]
    cases decide (0≤x.client)<;>cases decide (x.client≤3)<;>cases decide (0≤x.seq)<;>cases decide (x.seq≤999)<;>cases decide (0≤x.key)<;>cases decide (x.key≤15)<;>simp
   ·simp[h2,h3]
  ·simp[h1,h2]
theorem isEntry_any (x:Ent)(w:World):Calls Tryz.prog 60 #[.agg #[.int .i64 x.client,.int .i64 x.seq,.int .i64 x.kind,.int .i64 x.key,.int .i64 x.value]] w fun e w'=>e=.returned (.bool x.ok)∧Below w.heap.size w w':=by
 have HU:=hideA (isEntry_eq x)
 have HC1:=fun W=>hideA (isUpTo_any x.client 3 W)
 have HC2:=fun W=>hideA (isUpTo_any x.seq 999 W)
 have HC3:=fun W=>hideA (isUpTo_any x.key 15 W)
 have HC4:=fun W=>hideA (hasValue_any x W)
 go_enter Tryz.func60,Tryz.ntmps60
 go_upto_region 1 with fail
 obtain⟨X,hX,hbX,hM⟩:=ent_box w x
 rw[hX];clear hX;have gM:=fun j=>coh hM j
 have HM:=hideA hM;clear hM;go_wp2_with fail;refine (HC1 _).out.mono ?_
 rintro e W ⟨rfl,rfl⟩;cases u1:upTo x.client 3 with
 | false =>
  have HV:Hid (x.ok=false):=hideA (by rw[← HU.out,u1];simp)
  go_wp2_with fail;go_ret;exact⟨by rw[HV.out];rfl,hbX⟩
 | true =>
  go_wp2_with fail;refine (HC2 _).out.mono ?_
  rintro e W ⟨rfl,rfl⟩;cases u2:upTo x.seq 999 with
  | false =>
   have HV:Hid (x.ok=false):=hideA (by rw[← HU.out,u2];simp)
   go_wp2_with fail;go_ret;exact⟨by rw[HV.out];rfl,hbX⟩
  | true =>
   go_wp2_with fail;refine (HC3 _).out.mono ?_
   rintro e W ⟨rfl,rfl⟩;cases u3:upTo x.key 15 with
   | false =>
    have HV:Hid (x.ok=false):=hideA (by rw[← HU.out,u3];simp)
    go_wp2_with fail;go_ret;exact⟨by rw[HV.out];rfl,hbX⟩
   | true =>
    have HV:Hid (x.ok=valOk x):=hideA (by rw[← HU.out,u1,u2,u3];simp)
    go_wp2_with fail;refine (HC4 _).out.mono ?_
    rintro e W ⟨rfl,hb2⟩;clear gM;go_wp2_with fail;go_ret;exact⟨by rw[HV.out];rfl,hbX.trans (hb2.mono hbX.size)⟩
def findV (gs n:Nat)(d:Int):Value:=.pointer ((nodPlace n d).map fun j=>⟨gs,j*3,none⟩)
theorem find_any (w:World)(F:Nat→Prop)(x gs cap:Nat)(c:Clu)(b:Nat→Nat)(Fn:Nat→Nat→Prop)(vr va vm vb vt:Value)(d:Int)(h:CluIn w F x gs cap c b Fn vr va vm vb vt) :
  Calls Tryz.prog 120 #[.pointer (some ⟨x,0,none⟩),.int .i64 d] w fun e w'=>e=.returned (findV gs c.reps.length d)∧w'=w:=by
 have n5:=h.n5
 have c0:=coh h.bag.blk 0
 obtain⟨cs,hcs,hst⟩:=h.sta;have HC:Hid (∀ j,j<c.reps.length+5→w.cell? ⟨gs,j*3,none⟩=some (.int .i64 (numOf c.reps.length j))):=hideA fun j hj=>(coh hcs (j*3)).trans (hst j hj).1
 have HFs:Hid (∀ j,j<c.reps.length+5→numOf c.reps.length j=d→findV gs c.reps.length d=.pointer (some ⟨gs,j*3,none⟩)):=hideA fun j hj e=>by unfold findV;rw[← e,num_nodPlace n5 hj];rfl
 have HFn:Hid ((∀ j,j<c.reps.length+5→numOf c.reps.length j≠d)→findV gs c.reps.length d=.pointer none):=hideA fun hh=>by
  unfold findV
  cases hp:nodPlace c.reps.length d with
  | none=>rfl
  | some j=>exact absurd (nodPlace_num hp) (hh j (nodPlace_lt hp))
 have hcap:=h.hcap
 clear h hcs hst;generalize findV gs c.reps.length d=fv at *
 generalize hN:c.reps.length+5=N at *
 generalize numOf c.reps.length=nf at *
 go_enter Tryz.func120,Tryz.ntmps120
 go_wp2_with fail;go_loopw [11] (fun i wr=>∃ k:Nat,k≤N∧i=.int .i64 k∧wr=w∧∀ j,j<k→nf j≠d) (fun i _=>N-(intOf i).toNat)
 case atStart=>exact⟨0,Nat.zero_le _,rfl,rfl,fun j hj=>absurd hj (Nat.not_lt_zero _)⟩
 case round =>
  obtain⟨k,hk,rfl,rfl,hno⟩:=hrel;by_cases hlt:k<N
  ·have ck:=HC.out k hlt
   have hk1:(k:Int)<(N:Int):=by omega
   have HFk:=hideA (HFs.out k hlt)
   have HNo:=hideA hno;clear hno;generalize hy:nf k=y at *
   by_cases hyd:y=d
   ·have H:=hideA (HFk.out hyd)
    subst hyd;go_wp2_with fail;go_ret;exact⟨by rw[H.out];rfl,rfl⟩
   ·have hxd:(y == d)=false:=by simp[hyd]
    go_wp2_with fail;go_roundw
    case rel =>
     refine⟨k+1,by omega,by go_num,by trivial,fun j hj => ?_⟩
     by_cases e:j=k
     ·subst e
      rw[hy];exact hyd
     ·exact HNo.out j (by omega)
    case measure=>simp[intOf];omega
  ·obtain rfl:k=N:=by omega
   have H:=hideA (HFn.out hno)
   clear hno;go_wp2_with fail;go_ret;exact⟨by rw[H.out];rfl,rfl⟩
def findIn (c:Clu)(gs:Nat)(up:Bool)(d:Int):Value :=
 match nodPlace c.reps.length d with
 | none=>.tuple #[.pointer none,.int .i64 4]
 | some j=>if (c.nod j).up=up then .tuple #[.pointer (some ⟨gs,j*3,none⟩),.int .i64 0] else .tuple #[.pointer none,.int .i64 5]
theorem findIn_any (w:World)(F:Nat→Prop)(x gs cap:Nat)(c:Clu)(b:Nat→Nat)(Fn:Nat→Nat→Prop)(vr va vm vb vt:Value)(up:Bool)(d:Int)(h:CluIn w F x gs cap c b Fn vr va vm vb vt) :
  Calls Tryz.prog 65 #[.pointer (some ⟨x,0,none⟩),.int .i64 (upInt up),.int .i64 d] w fun e w'=>e=.returned (findIn c gs up d)∧w'=w:=by
 have hf:=find_any w F x gs cap c b Fn vr va vm vb vt d h
 obtain⟨cs,hcs,hst⟩:=h.sta;cases hp:nodPlace c.reps.length d with
 | none =>
  have H:Hid (findIn c gs up d=.tuple #[.pointer none,.int .i64 4]):=hideA (by unfold findIn;rw[hp])
  have e:findV gs c.reps.length d=.pointer none:=by unfold findV;rw[hp];rfl
  rw[e] at hf
  clear h e;go_enter Tryz.func65,Tryz.ntmps65
  go_wp2_with fail;refine hf.mono ?_
  rintro e w1 ⟨rfl,rfl⟩;clear hf;go_wp2_with fail;go_ret2
  exact⟨by rw[H.out];rfl,rfl⟩
 | some j =>
  have hj:=nodPlace_lt hp
  have e:findV gs c.reps.length d=.pointer (some ⟨gs,j*3,none⟩):=by unfold findV;rw[hp];rfl
  have c1:w.cell? ⟨gs,j*3+1,none⟩=some (.int .i64 (upInt (c.nod j).up)):=(coh hcs (j*3+1)).trans (hst j hj).2.1
  rw[e] at hf
  clear h e hcs hst;by_cases hu:(c.nod j).up=up
  ·have H:Hid (findIn c gs up d=.tuple #[.pointer (some ⟨gs,j*3,none⟩),.int .i64 0]):=hideA (by unfold findIn;rw[hp];simp[hu])
   rw[hu] at c1
   generalize upInt up=u at *
   go_enter Tryz.func65,Tryz.ntmps65
   go_wp2_with fail;refine hf.mono ?_
   rintro e w1 ⟨rfl,rfl⟩;clear hf;go_wp2_with fail;go_ret2
   exact⟨by rw[H.out];rfl,rfl⟩
  ·have H:Hid (findIn c gs up d=.tuple #[.pointer none,.int .i64 5]):=hideA (by unfold findIn;rw[hp];simp[hu])
   have hne:(upInt (c.nod j).up == upInt up)=false:=by
    revert hu
    cases (c.nod j).up<;>cases up<;>simp[upInt]
   have hne2:¬ upInt (c.nod j).up=upInt up:=by simpa using hne
   generalize upInt up=u at *
   generalize upInt (c.nod j).up=u2 at *
   go_enter Tryz.func65,Tryz.ntmps65
   go_wp2_with fail;refine hf.mono ?_
   rintro e w1 ⟨rfl,rfl⟩;clear hf;go_wp2_with fail;go_ret2
   exact⟨by rw[H.out];rfl,rfl⟩
theorem isUp_any (w:World)(F:Nat→Prop)(x gs cap:Nat)(c:Clu)(b:Nat→Nat)(Fn:Nat→Nat→Prop)(vr va vm vb vt:Value)(d:Int)(h:CluIn w F x gs cap c b Fn vr va vm vb vt) :
  Calls Tryz.prog 33 #[.pointer (some ⟨x,0,none⟩),.int .i64 d] w fun e w'=>e=.returned (.bool (decide (c.upOf d=some true)))∧w'=w:=by
 have hf:Calls Tryz.prog 65 #[.pointer (some ⟨x,0,none⟩),.int .i64 0,.int .i64 d] w fun e w'=>e=.returned (findIn c gs true d)∧w'=w:=findIn_any w F x gs cap c b Fn vr va vm vb vt true d h
 have hu:=upOf_nod c d
 clear h;cases hp:nodPlace c.reps.length d with
 | none =>
  have e:findIn c gs true d=.tuple #[.pointer none,.int .i64 4]:=by unfold findIn;rw[hp]
  have H:Hid (decide (c.upOf d=some true)=false):=hideA (by rw[hu,hp];rfl)
  rw[e] at hf
  clear e hu;go_enter Tryz.func33,Tryz.ntmps33
  go_wp2_with fail;refine hf.mono ?_
  rintro e w1 ⟨rfl,rfl⟩;clear hf;go_wp2_with fail;go_ret;exact⟨by rw[H.out];rfl,rfl⟩
 | some j =>
  by_cases hu2:(c.nod j).up=true
  ·have e:findIn c gs true d=.tuple #[.pointer (some ⟨gs,j*3,none⟩),.int .i64 0]:=by unfold findIn;rw[hp];simp[hu2]
   have H:Hid (decide (c.upOf d=some true)=true):=hideA (by rw[hu,hp];simp[hu2])
   rw[e] at hf
   clear e hu;go_enter Tryz.func33,Tryz.ntmps33
   go_wp2_with fail;refine hf.mono ?_
   rintro e w1 ⟨rfl,rfl⟩;clear hf;go_wp2_with fail;go_ret;exact⟨by rw[H.out];rfl,rfl⟩
  ·have e:findIn c gs true d=.tuple #[.pointer none,.int .i64 5]:=by unfold findIn;rw[hp];simp[hu2]
   have H:Hid (decide (c.upOf d=some true)=false):=hideA (by rw[hu,hp];simp[hu2])
   rw[e] at hf
   clear e hu;go_enter Tryz.func33,Tryz.ntmps33
   go_wp2_with fail;refine hf.mono ?_
   rintro e w1 ⟨rfl,rfl⟩;clear hf;go_wp2_with fail;go_ret;exact⟨by rw[H.out];rfl,rfl⟩
end Go.Proofs.YtgieeeeeiggoeaaGreat
