import Derived.Test.YtgieeeeeiggoeaaGreatC13
import Derived.Test.YtgieeeeeiggoeaaGreatC11
import Derived.Test.YtgieeeeeiggoeaaGreatC31
set_option maxRecDepth 100000
set_option maxHeartbeats 1000000
namespace Go.Proofs.YtgieeeeeiggoeaaGreat
open Go.RowKit
def Dec.value (d:Dec)(mem log:Value):Value :=
 .tuple #[.agg #[.int .i64 d.k,.int .i64 d.f,.int .i64 d.t,.int .i64 d.ep,.int .i64 d.ba,.int .i64 d.vo,.int .i64 d.po,.int .i64 d.va,mem,log],.int .i64 d.err]
theorem wireDecode_any (L:List UInt8)(w:World)(hm:L.length≤140737488355328) :
  Calls Tryz.prog 117 #[.string (bs L)] w fun e w'=>Below w.heap.size w w'∧∃ mem log,e=.returned ((decOf L).value mem log) ∧
   w'.ownsRow (w.heap.size+1) 3 1 mem (decOf L).ms.length (ints (decOf L).ms)∧w'.ownsRow (w.heap.size+1) 42 5 log (decOf L).es.length (ints (entsNums (decOf L).es)):=by
 by_cases h:L.length<21
 ·refine (wireDecode_a L w h).mono ?_
  rintro e w' ⟨hb,rfl⟩;rw[decOf_a h];exact⟨hb,_,_,rfl,World.ownsRow_nil _ _ _ _,World.ownsRow_nil _ _ _ _⟩
 ·by_cases h2:L.drop (L.length-4)≠sumOf (L.take (L.length-4))
  ·refine (wireDecode_b L _ w (by omega) hm rfl h2).mono ?_
   rintro e w' ⟨hb,rfl⟩;rw[decOf_b h h2];exact⟨hb,_,_,rfl,World.ownsRow_nil _ _ _ _,World.ownsRow_nil _ _ _ _⟩
  ·refine (wireDecode_c L _ w (by omega) hm rfl (by simpa using h2)).mono ?_
   rintro e w' ⟨hb,hp⟩;rcases hp with ⟨h3,mem,log,o1,o2,rfl⟩|⟨h3,rfl⟩
   ·rw[decOf_d h h2 h3]
    exact⟨hb,mem,log,rfl,o1,o2⟩
   ·rw[decOf_c h h2 (by simp[h3])]
    exact⟨hb,_,_,rfl,World.ownsRow_nil _ _ _ _,World.ownsRow_nil _ _ _ _⟩
theorem refDecode_any (L:List UInt8)(w:World)(hm:L.length≤140737488355328) :
  Calls Tryz.prog 139 #[.string (bs L)] w fun e w'=>Below w.heap.size w w'∧∃ mem log,e=.returned ((decOf L).value mem log) ∧
   w'.ownsRow (w.heap.size+1) 3 1 mem (decOf L).ms.length (ints (decOf L).ms)∧w'.ownsRow (w.heap.size+1) 42 5 log (decOf L).es.length (ints (entsNums (decOf L).es)):=by
 by_cases h:L.length<21
 ·refine (refDecode_a L w h).mono ?_
  rintro e w' ⟨hb,rfl⟩;rw[decOf_a h];exact⟨hb,_,_,rfl,World.ownsRow_nil _ _ _ _,World.ownsRow_nil _ _ _ _⟩
 ·have hs:=sum_iff L _ (by omega) rfl
  by_cases h2:L.drop (L.length-4)≠sumOf (L.take (L.length-4))
  ·refine (refDecode_b L _ w (by omega) hm rfl (fun e=>h2 (hs.1 e))).mono ?_
   rintro e w' ⟨hb,rfl⟩;rw[decOf_b h h2];exact⟨hb,_,_,rfl,World.ownsRow_nil _ _ _ _,World.ownsRow_nil _ _ _ _⟩
  ·have he:=hs.2 (by simpa using h2)
   have hi:=decOk_iff _ _ he
   refine (refDecode_c L _ w (by omega) hm rfl he).mono ?_
   rintro e w' ⟨hb,hp⟩;rcases hp with ⟨h3,mem,log,o1,o2,rfl⟩|⟨h3,rfl⟩
   ·rw[decOf_d h h2 (hi.2 h3)]
    exact⟨hb,mem,log,rfl,o1,o2⟩
   ·rw[decOf_c h h2 (fun h4=>h3 (hi.1 h4))]
    exact⟨hb,_,_,rfl,World.ownsRow_nil _ _ _ _,World.ownsRow_nil _ _ _ _⟩
end Go.Proofs.YtgieeeeeiggoeaaGreat
namespace Go.Proofs.YtgieeeeeiggoeaaGreat
open Go.RowKit Go.Shelf
def decMsg (L:List UInt8):Msg:=⟨(decOf L).k,(decOf L).f,(decOf L).t,(decOf L).ep,(decOf L).ba,(decOf L).vo,(decOf L).po,(decOf L).va,(decOf L).ms,(decOf L).es⟩
theorem msgOf_dec (L:List UInt8):msgOf L=if (decOf L).err=0 then some (decMsg L) else none:=rfl
theorem send_nil (c:Clu)(h:c.bag.length≤200):c.send []=c:=by
 unfold Clu.send
 rw[List.map_nil,List.append_nil,List.take_of_length_le h]
theorem tell_up (c:Clu)(m:Msg)(d:Int):(c.tell m).upOf d=c.upOf d:=by
 unfold Clu.tell
 split<;>rfl
theorem tell_bag (c:Clu)(m:Msg):(c.tell m).bag=c.bag:=by
 unfold Clu.tell
 split<;>rfl
theorem arrive_tell {c:Clu}{m:Msg}(h:c.upOf m.dst≠some true)(hb:c.bag.length≤200):c.arrive m=c.tell m:=by
 unfold Clu.arrive
 rw[takes_none (by rw[tell_up];exact h),send_nil _ (by rw[tell_bag];exact hb)]
theorem num_small {n j:Nat}(hn:n≤5)(hj:j<n+5):numOf n j<300:=by
 unfold numOf
 split
 ·omega
 ·split<;>omega
theorem tell_no {c:Clu}{m:Msg}(h:m.dst<300):c.tell m=c:=by
 unfold Clu.tell
 rw[if_neg (by omega)]
theorem arrive_node {c:Clu}{m:Msg}{j:Nat}(hn:c.reps.length≤5)(hp:nodPlace c.reps.length m.dst=some j)(hu:(c.nod j).up=true) :
  c.arrive m={ c.setNod j ((c.nod j).take m.dst m).1 with bag:=puts c.bag ((c.nod j).take m.dst m).2 }:=by
 have hd:m.dst<300:=by rw[← nodPlace_num hp];exact num_small hn (nodPlace_lt hp)
 unfold Clu.arrive
 rw[tell_no hd,takes_nod hp hu];unfold Clu.send
 simp only
 rw[(setNod_rest c j _).1]
 rfl
theorem acks_len (r:Rep)(own:Int):(r.acks own).length≤1:=by
 unfold Rep.acks
 split<;>simp
theorem put_len (r:Rep)(own:Int)(e:Ent)(h:r.log.length≤24):(r.put own e).2.length≤50:=by
 unfold Rep.put
 split
 ·simp
 ·unfold Rep.commitAll
  rw[List.length_append,List.length_map];have:=acks_len { r with log:=r.log++[e],commit:=(r.log++[e]).length } own
  simp only [placesFrom,List.length_map,List.length_range,List.length_append,List.length_cons,List.length_nil] at *
  omega
theorem take_len (r:Rep)(own:Int)(m:Msg)(h:r.log.length≤24):(r.take own m).2.length≤50:=by
 have ha:=acks_len r own
 unfold Rep.take
 split
 ·split
  ·unfold Rep.asked
   split
   ·simp
   ·split
    ·split<;>simp
    ·split
     ·simp
     ·exact put_len r own _ h
  ·simp
 ·split
  ·unfold Rep.takeForward
   split
   ·split
    ·exact put_len r own _ h
    ·split
     ·show (r.acks own).length≤50;omega
     ·simp
   ·simp
  ·split
   ·unfold Rep.takeAck
    split
    ·have:=acks_len { r with commit:=m.pos.toNat } own
     show (Rep.acks { r with commit:=m.pos.toNat } own).length≤50
     omega
    ·simp
   ·split
    ·unfold Rep.takeSeal
     split<;>simp
    ·split
     ·unfold Rep.takeInstall
      simp
     ·simp
theorem accTake_len (a:Acc)(m:Msg):(a.take m).2.length≤1:=by
 unfold Acc.take
 split
 ·simp
 ·split
  ·split<;>simp
  ·split
   ·split<;>simp
   ·split<;>simp
theorem asks_len (s:Mas)(own:Int):(s.asks own).length≤s.all.length:=by
 unfold Mas.asks
 rw[List.length_map];exact List.length_filter_le _ _
theorem nodTake_len {n:Nat}{E own:Int}{y:Nod}{m:Msg}(h:NodOK n E own y)(hw:∀ s,y=.mas s→∃ E',MasWF n E' (s.take m).1):(y.take own m).2.length≤100:=by
 cases y with
 | rep r =>
  have:=take_len r own m (h.rep r rfl).log.1
  show (r.take own m).2.length≤100
  omega
 | acc a =>
  have:=accTake_len a m
  show (a.take m).2.length≤100
  omega
 | mas s =>
  obtain⟨E',h1⟩:=hw s rfl
  have h2:=all_len h1 h.n5
  show (s.take m).2.length≤100
  have key:(s.take m).2=[]∨∃ o,(s.take m).2=(s.take m).1.asks o:=by
   have hon:∀ s:Mas,∀ o,(s.onward o).2=(s.onward o).1.asks o:=fun _ _=>rfl
   unfold Mas.take
   split
   ·split
    ·split
     ·exact .inl rfl
     ·exact .inr ⟨_,hon _ _⟩
    ·exact .inr ⟨_,hon _ _⟩
    ·split
     ·exact .inl rfl
     ·split
      ·exact .inr ⟨_,hon _ _⟩
      ·exact .inr ⟨_,hon _ _⟩
    ·split
     ·exact .inl rfl
     ·exact .inr ⟨_,hon _ _⟩
    ·split
     ·exact .inl rfl
     ·exact .inr ⟨_,hon _ _⟩
   ·exact .inl rfl
  rcases key with e|⟨o,e⟩
  ·rw[e];simp
  ·rw[e]
   have:=asks_len (s.take m).1 o
   omega
theorem nodTake_up (y:Nod)(own:Int)(m:Msg):(y.take own m).1.up=y.up:=by
 cases y with
 | rep r=>exact take_up r own m
 | acc a =>
  show (a.take m).1.up=a.up
  unfold Acc.take
  split
  ·rfl
  ·split
   ·split<;>rfl
   ·split
    ·split<;>rfl
    ·split
     ·simp only
      split<;>rfl
     ·rfl
 | mas s=>exact masTake_up s m
theorem isClient_any (n:Int)(w:World):Calls Tryz.prog 151 #[.int .i64 n] w fun e w'=>e=.returned (.bool (decide (300≤n∧n≤303)))∧w'=w:=by
 by_cases h0:300≤n
 ·have H:Hid (decide (300≤n∧n≤303)=decide (n≤303)):=hideA (by simp[h0])
  generalize decide (300≤n∧n≤303)=dd at *
  go_enter Tryz.func151,Tryz.ntmps151
  go_wp2_with fail;go_ret;exact⟨by rw[H.out];first|rfl|simp,rfl⟩
 ·have H:Hid (decide (300≤n∧n≤303)=false):=hideA (by simp[h0])
  generalize decide (300≤n∧n≤303)=dd at *
  go_enter Tryz.func151,Tryz.ntmps151
  go_wp2_with fail;go_ret;exact⟨by rw[H.out];first|rfl|simp,rfl⟩
theorem CluIn.toldTo {w w':World}{F:Nat→Prop}{x gs cap:Nat}{c:Clu}{b:Nat→Nat}{Fn:Nat→Nat→Prop}{vr va vm vb vt:Value}(h:CluIn w F x gs cap c b Fn vr va vm vb vt)(l:List Ans)(vt':Value)
  (hblk:w'.heap[x]?=some (.cells #[.slice (some ⟨gs,0,none⟩) (c.reps.length+5) cap,vr,va,vm,vb,vt'] 93)) (hrow:w'.ownsRow 0 113 3 vt' l.length (ints (ansNums l))) (hM:Moved w w' (fun k=>k=x∨vt.ownBlock=some k)) (hg:Grows w vt vt') :
  CAfter w F x { c with told:=l } w':=by
 have hS:∀ k,(k=x∨vt.ownBlock=some k)→F k:=by
  rintro k (e|e)
  ·exact h.inO k (.inl e)
  ·exact h.inO k (.inr (.inr (.inr (.inr (.inr (.inr e))))))
 have hrow2:∀ {base size n:Nat} {e:TypeId} {v:Value} {xs:List Value},w.ownsRow base e size v n xs→e≠113→e≠93→w'.ownsRow base e size v n xs:=by
  intro base size n e v xs hv h1 h2;refine hM.owns hv fun k hk hS => ?_
  rcases hS with e1|e1
  ·exact bty h.bag.blk hv h2 (e1 ▸ hk)
  ·exact otw hv h.rt h1 k hk e1
 have hgs:w'.heap[gs]?=w.heap[gs]?:=by
  refine hM.block gs (h.lt gs (h.inO gs (.inr (.inl rfl)))) ?_
  rintro (e|e)
  ·exact h.apart.1 e.symm
  ·exact h.apart.2 h.rt (by decide) e
 have hnw:∀ k,vt'.ownBlock=some k→F k∨w.heap.size≤k:=fun k e=>(hg k e).imp (fun e2=>hS k (.inr e2)) id
 refine⟨fun k=>F k∨vt'.ownBlock=some k,⟨gs,cap,b,Fn,vr,va,vm,vb,vt',⟨⟨hblk,hrow2 h.bag.row (by decide) (by decide)⟩,h.sta.keep hgs,h.hcap,hrow2 h.rr (by decide) (by decide),hrow2 h.ra (by decide) (by decide),hrow2 h.rm (by decide) (by decide),hrow, ?_,h.sep, ?_, ?_,fun j hj k hk=>.inl (h.inN j hj k hk), ?_,h.n1,h.n5,h.a3,h.m2⟩⟩,hM.wider hS, ?_⟩
 ·intro j hj
  refine (h.nod j hj).keep fun k hk=>hM.block k (h.lt k (h.inN j hj k hk)) ?_
  rintro (e|e)
  ·exact h.off j hj k hk (.inl e)
  ·exact h.off j hj k hk (.inr (.inr (.inr (.inr (.inr (.inr e))))))
 ·intro j hj k hk hO
  rcases hO with e|e|e|e|e|e|e
  ·exact h.off j hj k hk (.inl e)
  ·exact h.off j hj k hk (.inr (.inl e))
  ·exact h.off j hj k hk (.inr (.inr (.inl e)))
  ·exact h.off j hj k hk (.inr (.inr (.inr (.inl e))))
  ·exact h.off j hj k hk (.inr (.inr (.inr (.inr (.inl e)))))
  ·exact h.off j hj k hk (.inr (.inr (.inr (.inr (.inr (.inl e))))))
  ·rcases hg k e with e2|e2
   ·exact h.off j hj k hk (.inr (.inr (.inr (.inr (.inr (.inr e2))))))
   ·have:=h.lt k (h.inN j hj k hk);omega
 ·intro k hO
  rcases hO with e|e|e|e|e|e|e
  ·exact .inl (h.inO k (.inl e))
  ·exact .inl (h.inO k (.inr (.inl e)))
  ·exact .inl (h.inO k (.inr (.inr (.inl e))))
  ·exact .inl (h.inO k (.inr (.inr (.inr (.inl e)))))
  ·exact .inl (h.inO k (.inr (.inr (.inr (.inr (.inl e))))))
  ·exact .inl (h.inO k (.inr (.inr (.inr (.inr (.inr (.inl e)))))))
  ·exact .inr e
 ·rintro k (e|e)
  ·have:=h.lt k e
   have:=hM.size
   omega
  ·obtain⟨_,h6,_⟩:=obc hrow e
   exact (Array.getElem?_eq_some_iff.1 h6).1
 ·rintro k (e|e)
  ·exact .inl e
  ·exact hnw k e
theorem ptrs_at (b:Nat→Nat)(from_ m k:Nat)(h:k<m):(ptrs b from_ m)[k]?=some (.pointer (some ⟨b (from_+k),0,none⟩)):=by
 unfold ptrs
 rw[List.getElem?_map,List.getElem?_range h]
 rfl
theorem pickRep_any (v:Value)(b:Nat→Nat)(s n:Nat)(f d:Int)(w:World)(h:w.ownsRow 0 129 1 v n (ptrs b s n))(hn:n≤100)(hf:0≤f∧f≤1000) :
  Calls Tryz.prog 59 #[v,.int .i64 f,.int .i64 d] w fun e w'=>e=.returned (if f≤d∧d<f+n then .tuple #[.pointer (some ⟨b (s+(d-f).toNat),0,none⟩),.bool true] else .tuple #[.pointer none,.bool false])∧w'=w:=by
 obtain⟨a,c,rfl⟩:=osh h
 have hw1:IntKind.i64.wrap (f+(n:Int))=f+(n:Int):=by rw[IntKind.wrap_i64];omega
 by_cases h1:d<f
 ·have H:Hid ((if f≤d∧d<f+n then Value.tuple #[.pointer (some ⟨b (s+(d-f).toNat),0,none⟩),.bool true] else .tuple #[.pointer none,.bool false])=.tuple #[.pointer none,.bool false]):=hideA (if_neg (by omega))
  rw[H.out];clear h;go_enter Tryz.func59,Tryz.ntmps59
  go_wp2_with fail;go_ret2
  exact⟨rfl,rfl⟩
 ·by_cases h2:f+(n:Int)≤d
  ·have H:Hid ((if f≤d∧d<f+n then Value.tuple #[.pointer (some ⟨b (s+(d-f).toNat),0,none⟩),.bool true] else .tuple #[.pointer none,.bool false])=.tuple #[.pointer none,.bool false]):=hideA (if_neg (by omega))
   rw[H.out];clear h;go_enter Tryz.func59,Tryz.ntmps59
   go_wp2_with fail;go_ret2
   exact⟨rfl,rfl⟩
  ·have H:Hid ((if f≤d∧d<f+n then Value.tuple #[.pointer (some ⟨b (s+(d-f).toNat),0,none⟩),.bool true] else .tuple #[.pointer none,.bool false])=.tuple #[.pointer (some ⟨b (s+(d-f).toNat),0,none⟩),.bool true]):=hideA (if_pos (by omega))
   rw[H.out];have hw2:IntKind.i64.wrap (d-f)=((d-f).toNat:Int):=by rw[IntKind.wrap_i64];omega
   have hkl:(d-f).toNat<n:=by omega
   obtain⟨g,cap,hv, -, -⟩:=h.form (by omega)
   cases hv
   have ck:w.cell? ⟨g,(d-f).toNat,none⟩=some (.pointer (some ⟨b (s+(d-f).toNat),0,none⟩)):=by
    rw[World.ownsRow.cellAt h (d-f).toNat (by omega)]
    exact ptrs_at b s n _ hkl
   clear h;generalize (d-f).toNat=k at *
   have hk0:(0:Int)≤(k:Int):=by omega
   have hk1:(k:Int)<(n:Int):=by omega
   go_enter Tryz.func59,Tryz.ntmps59
   go_wp2_with fail;go_ret2
   exact⟨rfl,rfl⟩
theorem pickAcc_any (v:Value)(b:Nat→Nat)(s n:Nat)(f d:Int)(w:World)(h:w.ownsRow 0 99 1 v n (ptrs b s n))(hn:n≤100)(hf:0≤f∧f≤1000) :
  Calls Tryz.prog 38 #[v,.int .i64 f,.int .i64 d] w fun e w'=>e=.returned (if f≤d∧d<f+n then .tuple #[.pointer (some ⟨b (s+(d-f).toNat),0,none⟩),.bool true] else .tuple #[.pointer none,.bool false])∧w'=w:=by
 obtain⟨a,c,rfl⟩:=osh h
 have hw1:IntKind.i64.wrap (f+(n:Int))=f+(n:Int):=by rw[IntKind.wrap_i64];omega
 by_cases h1:d<f
 ·have H:Hid ((if f≤d∧d<f+n then Value.tuple #[.pointer (some ⟨b (s+(d-f).toNat),0,none⟩),.bool true] else .tuple #[.pointer none,.bool false])=.tuple #[.pointer none,.bool false]):=hideA (if_neg (by omega))
  rw[H.out];clear h;go_enter Tryz.func38,Tryz.ntmps38
  go_wp2_with fail;go_ret2
  exact⟨rfl,rfl⟩
 ·by_cases h2:f+(n:Int)≤d
  ·have H:Hid ((if f≤d∧d<f+n then Value.tuple #[.pointer (some ⟨b (s+(d-f).toNat),0,none⟩),.bool true] else .tuple #[.pointer none,.bool false])=.tuple #[.pointer none,.bool false]):=hideA (if_neg (by omega))
   rw[H.out];clear h;go_enter Tryz.func38,Tryz.ntmps38
   go_wp2_with fail;go_ret2
   exact⟨rfl,rfl⟩
  ·have H:Hid ((if f≤d∧d<f+n then Value.tuple #[.pointer (some ⟨b (s+(d-f).toNat),0,none⟩),.bool true] else .tuple #[.pointer none,.bool false])=.tuple #[.pointer (some ⟨b (s+(d-f).toNat),0,none⟩),.bool true]):=hideA (if_pos (by omega))
   rw[H.out];have hw2:IntKind.i64.wrap (d-f)=((d-f).toNat:Int):=by rw[IntKind.wrap_i64];omega
   have hkl:(d-f).toNat<n:=by omega
   obtain⟨g,cap,hv, -, -⟩:=h.form (by omega)
   cases hv
   have ck:w.cell? ⟨g,(d-f).toNat,none⟩=some (.pointer (some ⟨b (s+(d-f).toNat),0,none⟩)):=by
    rw[World.ownsRow.cellAt h (d-f).toNat (by omega)]
    exact ptrs_at b s n _ hkl
   clear h;generalize (d-f).toNat=k at *
   have hk0:(0:Int)≤(k:Int):=by omega
   have hk1:(k:Int)<(n:Int):=by omega
   go_enter Tryz.func38,Tryz.ntmps38
   go_wp2_with fail;go_ret2
   exact⟨rfl,rfl⟩
theorem acc_place {n:Nat}{d:Int}(hn:n≤5)(h:100≤d∧d<103):nodPlace n d=some (n+(d-100).toNat):=by
 unfold nodPlace
 rw[if_neg (by omega),if_pos h]
theorem rep_place {n:Nat}{d:Int}(h:0≤d∧d<n):nodPlace n d=some d.toNat:=by
 unfold nodPlace
 rw[if_pos h]
theorem acc_nod {c:Clu}{d:Int}{j:Nat}(h:isAcc d)(hn:c.reps.length≤5)(hp:nodPlace c.reps.length d=some j):c.nod j=.acc (c.acc d):=by
 unfold isAcc at h
 rcases nod_at hp with ⟨h1,_,_⟩|⟨_,_,h3,_⟩|⟨_,_,h3,_,_⟩
 ·unfold Clu.isRep at h1;omega
 ·exact h3
 ·unfold isMas at h3;omega
theorem rep_nod {c:Clu}{d:Int}{j:Nat}(h:c.isRep d)(hp:nodPlace c.reps.length d=some j):c.nod j=.rep (c.rep d):=by
 rcases nod_at hp with ⟨_,h2,_⟩|⟨h1,_,_,_⟩|⟨h1,_,_,_,_⟩
 ·exact h2
 ·exact absurd h h1
 ·exact absurd h h1
theorem cluStatus_any {w:World}{F:Nat→Prop}{x:Nat}{c:Clu}{E:Int}{g:Gh}(d:Int)(h:CAt w F x c)(hg:Good c E g)(hd:c.isRep d) :
  Calls Tryz.prog 54 #[.pointer (some ⟨x,0,none⟩),.int .i64 d] w fun r w'=>∃ vm vl,r=.returned (.tuple #[.agg #[.bool (c.rep d).up,.int .i64 (c.rep d).epoch,.int .i64 (c.rep d).lock,.int .i64 ((c.rep d).commit:Int),vm,vl],.int .i64 0]) ∧
   w'.ownsRow w.heap.size 3 1 vm (c.rep d).mems.length (ints (c.rep d).mems)∧w'.ownsRow w.heap.size 42 5 vl (c.rep d).log.length (ints (entsNums (c.rep d).log))∧Below w.heap.size w w':=by
 obtain⟨gs,cap,b,Fn,vr,va,vm,vb,vt,h⟩:=h;obtain⟨ar,cr,hvr⟩:=osh h.rr
 subst hvr;have hp:=rep_place hd
 have hj:=nodPlace_lt hp
 have hnum:=nodPlace_num hp
 have hnod:=rep_nod hd hp
 have hup:c.upOf d=some (c.rep d).up:=by rw[upOf_nod,hp];simp[hnod,Nod.up]
 have e0:(if 0≤d∧d<0+(c.reps.length:Int) then Value.tuple #[.pointer (some ⟨b (0+(d-0).toNat),0,none⟩),.bool true] else .tuple #[.pointer none,.bool false])=.tuple #[.pointer (some ⟨b d.toNat,0,none⟩),.bool true]:=by
  rw[if_pos (by have:=hd.1;have:=hd.2;omega)]
  simp
 have HP:Hid (∀ W,Below w.heap.size w W→Calls Tryz.prog 59 #[.slice ar c.reps.length cr,.int .i64 0,.int .i64 d] W fun e w'=>e=.returned (.tuple #[.pointer (some ⟨b d.toNat,0,none⟩),.bool true])∧w'=W):=hideA fun W hb=>by
  have:=pickRep_any _ b 0 c.reps.length 0 d W (h.below hb).rr (by have:=h.n5;omega) (by omega)
  rw[e0] at this
  exact this
 have HU:Hid (∀ W,Below w.heap.size w W→Calls Tryz.prog 33 #[.pointer (some ⟨x,0,none⟩),.int .i64 d] W fun e w'=>e=.returned (.bool (c.rep d).up)∧w'=W):=hideA fun W hb=>by
  have:=isUp_any W F x gs cap c b Fn _ va vm vb vt d (h.below hb)
  rw[hup,show decide (some (c.rep d).up=some true)=(c.rep d).up by cases (c.rep d).up<;>rfl] at this
  exact this
 have hN:=h.nod _ hj
 rw[hnod,hnum] at hN
 obtain⟨⟨wm,wl,hat,hF,hlt⟩,hdn⟩:=hN;have hwf:=hg.nodes.R d hd
 have HS:Hid (∀ W,Below w.heap.size w W→Calls Tryz.prog 111 #[.pointer (some ⟨b d.toNat,0,none⟩)] W fun e w'=>∃ a c1 a' c',e=.returned (.agg #[.bool false,.int .i64 (c.rep d).epoch,.int .i64 (c.rep d).lock,.int .i64 ((c.rep d).commit:Int),.slice a (c.rep d).mems.length c1,.slice a' (c.rep d).log.length c']) ∧
   w'.ownsRow W.heap.size 3 1 (.slice a (c.rep d).mems.length c1) (c.rep d).mems.length (ints (c.rep d).mems)∧w'.ownsRow W.heap.size 42 5 (.slice a' (c.rep d).log.length c') (c.rep d).log.length (ints (entsNums (c.rep d).log))∧Below W.heap.size W w'):=hideA fun W hb=>repStatus_any _ d (c.rep d) wm wl W (hat.below hb) (hwf.ok h.n5)
 have HI:=hideA h;have hxl:x<w.heap.size:=h.lt x (h.inO x (.inl rfl))
 have hx1:¬ x=w.heap.size:=by omega
 have hx2:¬ w.heap.size=x:=by omega
 clear h hat hwf hnod hup e0;generalize c.rep d=r at *
 go_enter Tryz.func54,Tryz.ntmps54
 go_upto_region 1 with fail
 obtain⟨X,hX,hbX,hM⟩:=bm1 w #[.bool false,.int .i64 0,.int .i64 0,.int .i64 0,.slice none 0 0,.slice none 0 0] 46
 rw[hX];clear hX;have c1:=coh (HI.out.below hbX).bag.blk 1
 have HM:=hideA hM;clear hM;go_wp2_with fail;refine (HP.out X hbX).mono ?_
 rintro e W ⟨rfl,rfl⟩;clear c1;go_wp2_with fail;refine (HS.out W hbX).mono ?_
 rintro e Y ⟨sa,sc,sa',sc',rfl,o1,o2,hbY⟩;have hbWY:=hbX.trans (hbY.mono hbX.size)
 have HMY:=hideA ((hbY.block _ (Array.getElem?_eq_some_iff.1 HM.out).1).trans HM.out)
 have HO:=hideA (And.intro o1 o2)
 clear o1 o2;go_upto_region 5 with fail
 obtain⟨Z,hZ,hbZ,hMZ⟩:=bm1 Y #[.bool false,.int .i64 r.epoch,.int .i64 r.lock,.int .i64 (r.commit:Int),.slice sa r.mems.length sc,.slice sa' r.log.length sc'] 46
 rw[hZ];clear hZ;have hbWZ:=hbWY.trans (hbZ.mono hbWY.size)
 have HMZ:=hideA ((hbZ.block _ (Array.getElem?_eq_some_iff.1 HMY.out).1).trans HMY.out)
 have HOZ:Hid (Z.ownsRow W.heap.size 3 1 (.slice sa r.mems.length sc) r.mems.length (ints r.mems)∧Z.ownsRow W.heap.size 42 5 (.slice sa' r.log.length sc') r.log.length (ints (entsNums r.log))):=hideA ⟨okp HO.out.1 fun k _ hk=>hbZ.block k hk,okp HO.out.2 fun k _ hk=>hbZ.block k hk⟩
 have hne1:¬ w.heap.size=Y.heap.size:=by have:=(Array.getElem?_eq_some_iff.1 HMY.out).1;omega
 have hne2:¬ Y.heap.size=w.heap.size:=fun e=>hne1 e.symm
 have gZ:=fun j=>coh hMZ j
 have fZ:=fun j=>foh hMZ j
 have gW:=fun j=>coh HMZ.out j
 have fW:=fun j=>foh HMZ.out j
 have HMZ2:=hideA hMZ;clear hMZ;go_wp2_with fail;refine (HU.out Z hbWZ).mono ?_
 rintro e V ⟨rfl,rfl⟩;go_wp2_with fail;have n1:=bty HMZ2.out HOZ.out.1 (by decide)
 have n2:=bty HMZ.out HOZ.out.1 (by decide)
 have n3:=bty HMZ2.out HOZ.out.2 (by decide)
 have n4:=bty HMZ.out HOZ.out.2 (by decide)
 refine bodyPost_ret (v:=.tuple #[.agg #[.bool r.up,.int .i64 r.epoch,.int .i64 r.lock,.int .i64 (r.commit:Int),.slice sa r.mems.length sc,.slice sa' r.log.length sc'],.int .i64 0]) (by simp[results,Tryz.results54,go_sem,gW]) rfl ?_
 refine⟨_,_,rfl,obs (ownsRow_setCell_other (ownsRow_setCell_other (ownsRow_setCell_other (ownsRow_setCell_other (ownsRow_setCell_other (ownsRow_setCell_other (ownsRow_setCell_other HOZ.out.1 n1 _) n2 _) n2 _) n2 _) n2 _) n2 _) n2 _) hbX.size,obs (ownsRow_setCell_other (ownsRow_setCell_other (ownsRow_setCell_other (ownsRow_setCell_other (ownsRow_setCell_other (ownsRow_setCell_other (ownsRow_setCell_other HOZ.out.2 n3 _) n4 _) n4 _) n4 _) n4 _) n4 _) n4 _) hbX.size, ?_⟩
 iterate 6 refine Below.setCell ?_ (by exact Nat.le_refl _) _
 exact Below.setCell hbWZ (by have:=hbWY.size;exact this) _
theorem cluBallots_any {w:World}{F:Nat→Prop}{x:Nat}{c:Clu}{E:Int}{g:Gh}(d:Int)(h:CAt w F x c)(hg:Good c E g)(hd:isAcc d) :
  Calls Tryz.prog 20 #[.pointer (some ⟨x,0,none⟩),.int .i64 d] w fun r w'=>∃ vm,r=.returned (.tuple #[.agg #[.bool (c.acc d).up,.int .i64 (c.acc d).epoch,vm],.int .i64 0]) ∧
   w'.ownsRow w.heap.size 3 1 vm (c.acc d).mems.length (ints (c.acc d).mems)∧Below w.heap.size w w':=by
 obtain⟨gs,cap,b,Fn,vr,va,vm,vb,vt,h⟩:=h;obtain⟨ar,cr,hvr⟩:=osh h.ra
 subst hvr;have hp:=acc_place h.n5 hd
 have hj:=nodPlace_lt hp
 have hnum:=nodPlace_num hp
 have hnod:=acc_nod hd h.n5 hp
 have hup:c.upOf d=some (c.acc d).up:=by rw[upOf_nod,hp];simp[hnod,Nod.up]
 have e0:(if 100≤d∧d<100+((3:Nat):Int) then Value.tuple #[.pointer (some ⟨b (c.reps.length+(d-100).toNat),0,none⟩),.bool true] else .tuple #[.pointer none,.bool false])=.tuple #[.pointer (some ⟨b (c.reps.length+(d-100).toNat),0,none⟩),.bool true]:=if_pos (by have:=hd.1;have:=hd.2;omega)
 have HP:Hid (∀ W,Below w.heap.size w W→Calls Tryz.prog 38 #[.slice ar 3 cr,.int .i64 100,.int .i64 d] W fun e w'=>e=.returned (.tuple #[.pointer (some ⟨b (c.reps.length+(d-100).toNat),0,none⟩),.bool true])∧w'=W):=hideA fun W hb=>by
  have:=pickAcc_any _ b c.reps.length 3 100 d W (h.below hb).ra (by omega) (by omega)
  rw[e0] at this
  exact this
 have HU:Hid (∀ W,Below w.heap.size w W→Calls Tryz.prog 33 #[.pointer (some ⟨x,0,none⟩),.int .i64 d] W fun e w'=>e=.returned (.bool (c.acc d).up)∧w'=W):=hideA fun W hb=>by
  have:=isUp_any W F x gs cap c b Fn vr _ vm vb vt d (h.below hb)
  rw[hup,show decide (some (c.acc d).up=some true)=(c.acc d).up by cases (c.acc d).up<;>rfl] at this
  exact this
 have hN:=h.nod _ hj
 rw[hnod,hnum] at hN
 have hat:=hN
 have hwf:=hg.nodes.A d hd
 have HS:Hid (∀ W,Below w.heap.size w W→Calls Tryz.prog 39 #[.pointer (some ⟨b (c.reps.length+(d-100).toNat),0,none⟩)] W fun e w'=>∃ a c1,e=.returned (.agg #[.bool false,.int .i64 (c.acc d).epoch,.slice a (c.acc d).mems.length c1])∧w'.ownsRow W.heap.size 3 1 (.slice a (c.acc d).mems.length c1) (c.acc d).mems.length (ints (c.acc d).mems)∧Below W.heap.size W w'):=hideA fun W hb=>accBallots_any _ _ d (c.acc d) W (by obtain⟨z1,z2,z3,z4⟩:=hat;exact⟨z1,z2,z3,z4.below hb⟩) (hwf.ok h.n5)
 have HI:=hideA h;have hxl:x<w.heap.size:=h.lt x (h.inO x (.inl rfl))
 have hx1:¬ x=w.heap.size:=by omega
 have hx2:¬ w.heap.size=x:=by omega
 clear h hat hwf hnod hup e0;generalize c.acc d=r at *
 go_enter Tryz.func20,Tryz.ntmps20
 go_upto_region 1 with fail
 obtain⟨X,hX,hbX,hM⟩:=bm1 w #[.bool false,.int .i64 0,.slice none 0 0] 53
 rw[hX];clear hX;have c1:=coh (HI.out.below hbX).bag.blk 2
 have HM:=hideA hM;clear hM;go_wp2_with fail;refine (HP.out X hbX).mono ?_
 rintro e W ⟨rfl,rfl⟩;clear c1;go_wp2_with fail;refine (HS.out W hbX).mono ?_
 rintro e Y ⟨sa,sc,rfl,o1,hbY⟩;have hbWY:=hbX.trans (hbY.mono hbX.size)
 have HMY:=hideA ((hbY.block _ (Array.getElem?_eq_some_iff.1 HM.out).1).trans HM.out)
 have HO:=hideA o1;clear o1;go_upto_region 5 with fail
 obtain⟨Z,hZ,hbZ,hMZ⟩:=bm1 Y #[.bool false,.int .i64 r.epoch,.slice sa r.mems.length sc] 53
 rw[hZ];clear hZ;have hbWZ:=hbWY.trans (hbZ.mono hbWY.size)
 have HMZ:=hideA ((hbZ.block _ (Array.getElem?_eq_some_iff.1 HMY.out).1).trans HMY.out)
 have HOZ:Hid (Z.ownsRow W.heap.size 3 1 (.slice sa r.mems.length sc) r.mems.length (ints r.mems)):=hideA (okp HO.out fun k _ hk=>hbZ.block k hk)
 have hne1:¬ w.heap.size=Y.heap.size:=by have:=(Array.getElem?_eq_some_iff.1 HMY.out).1;omega
 have hne2:¬ Y.heap.size=w.heap.size:=fun e=>hne1 e.symm
 have gZ:=fun j=>coh hMZ j
 have fZ:=fun j=>foh hMZ j
 have gW:=fun j=>coh HMZ.out j
 have fW:=fun j=>foh HMZ.out j
 have HMZ2:=hideA hMZ;clear hMZ;go_wp2_with fail;refine (HU.out Z hbWZ).mono ?_
 rintro e V ⟨rfl,rfl⟩;go_wp2_with fail;have n1:=bty HMZ2.out HOZ.out (by decide)
 have n2:=bty HMZ.out HOZ.out (by decide)
 refine bodyPost_ret (v:=.tuple #[.agg #[.bool r.up,.int .i64 r.epoch,.slice sa r.mems.length sc],.int .i64 0]) (by simp[results,Tryz.results20,go_sem,gW]) rfl ?_
 refine⟨_,rfl,obs (ownsRow_setCell_other (ownsRow_setCell_other (ownsRow_setCell_other (ownsRow_setCell_other HOZ.out n1 _) n2 _) n2 _) n2 _) hbX.size, ?_⟩
 iterate 3 refine Below.setCell ?_ (by exact Nat.le_refl _) _
 exact Below.setCell hbWZ (by have:=hbWY.size;exact this) _
end Go.Proofs.YtgieeeeeiggoeaaGreat
