import Derived.Test.YtgieeeeeiggoeaaGreatQ46
import Derived.Test.YtgieeeeeiggoeaaGreatQ26
import Derived.Test.YtgieeeeeiggoeaaGreatQ45
import Derived.Test.YtgieeeeeiggoeaaGreatQ47
namespace Go.Proofs.YtgieeeeeiggoeaaGreat
open Go.RowKit Go.Shelf
set_option maxRecDepth 100000 in
theorem areMem_any {w : World} {F : Nat → Prop} {x gs cap : Nat} {c : Clu} {b : Nat → Nat} {Fn : Nat → Nat → Prop} {vr va vm vb vt : Value} (v : Value) (l : List Int) (h : CluIn w F x gs cap c b Fn vr va vm vb vt) (hv : ListIn w v l) (hl : l.length ≤ 1000000) :
  Calls Tryz.prog 35 #[.pointer (some ⟨x,0,none⟩),v] w fun e w' => e = .returned (.bool (memsOk l c.reps.length)) ∧ w' = w := by
 have hc := areMembers_any v l c.reps.length w hv hl
 obtain ⟨ar,cr,hvr⟩ := owns_shape h.rr
 subst hvr
 have c1 := cell_of_heap h.bag.blk 1
 clear h
 go_enter Tryz.func35,Tryz.ntmps35
 go_wp2_with fail
 refine hc.mono ?_
 rintro e w1 ⟨rfl,rfl⟩
 clear hc
 go_wp2_with fail
 go_ret
 exact ⟨rfl,rfl⟩
theorem mas_place {n : Nat} {d : Int} (hn : n ≤ 5) (h : 200 ≤ d ∧ d < 202) : nodPlace n d = some (n + 3 + (d - 200).toNat) := by
 unfold nodPlace
 rw [if_neg (by omega),if_neg (by omega),if_pos h]
theorem acc_place {n : Nat} {d : Int} (hn : n ≤ 5) (h : 100 ≤ d ∧ d < 103) : nodPlace n d = some (n + (d - 100).toNat) := by
 unfold nodPlace
 rw [if_neg (by omega),if_pos h]
theorem rep_place {n : Nat} {d : Int} (h : 0 ≤ d ∧ d < n) : nodPlace n d = some d.toNat := by
 unfold nodPlace
 rw [if_pos h]
theorem mas_nod {c : Clu} {d : Int} {j : Nat} (h : isMas d) (hn : c.reps.length ≤ 5) (hp : nodPlace c.reps.length d = some j) : c.nod j = .mas (c.mas d) ∧ (∀ r,c.setNod j (.mas r) = c.setMas d r) := by
 unfold isMas at h
 rcases nod_at hp with ⟨h1,_,_⟩ | ⟨_,h2,_,_⟩ | ⟨_,_,_,h4,h5⟩
 ·unfold Clu.isRep at h1; omega
 ·unfold isAcc at h2; omega
 ·exact ⟨h4,h5⟩
theorem acc_nod {c : Clu} {d : Int} {j : Nat} (h : isAcc d) (hn : c.reps.length ≤ 5) (hp : nodPlace c.reps.length d = some j) : c.nod j = .acc (c.acc d) := by
 unfold isAcc at h
 rcases nod_at hp with ⟨h1,_,_⟩ | ⟨_,_,h3,_⟩ | ⟨_,_,h3,_,_⟩
 ·unfold Clu.isRep at h1; omega
 ·exact h3
 ·unfold isMas at h3; omega
theorem rep_nod {c : Clu} {d : Int} {j : Nat} (h : c.isRep d) (hp : nodPlace c.reps.length d = some j) : c.nod j = .rep (c.rep d) := by
 rcases nod_at hp with ⟨_,h2,_⟩ | ⟨h1,_,_,_⟩ | ⟨h1,_,_,_,_⟩
 ·exact h2
 ·exact absurd h h1
 ·exact absurd h h1
set_option maxRecDepth 100000 in
set_option maxHeartbeats 2000000 in
theorem cluChange_any {w : World} {F : Nat → Prop} {x : Nat} {c : Clu} {E : Int} {g : Gh} (d : Int) (v : Value) (l : List Int) (h : CAt w F x c) (hg : Good c E g) (hv : ListIn w v l) (hl : l.length ≤ 1000000) (hvF : ∀ k,v.ownBlock = some k → ¬ F k) :
  Calls Tryz.prog 18 #[.pointer (some ⟨x,0,none⟩), .int .i64 d,v] w fun r w' => r = .returned (.int .i64 (c.change d l).2) ∧ CAfter w F x (c.change d l).1 w' := by
 have HA := hideA h
 obtain ⟨gs,cap,b,Fn,vr,va,vm,vb,vt,h⟩ := h
 obtain ⟨am,cm,hvm⟩ := owns_shape h.rm
 subst hvm
 have hn5 := h.n5
 have hf := pickMas_any _ b (c.reps.length + 3) 2 200 d w h.rm (by omega) (by omega)
 have c3 := cell_of_heap h.bag.blk 3
 have HU := hideA (isUp_any w F x gs cap c b Fn vr va _ vb vt d h)
 have HR := hideA (areMem_any v l h hv hl)
 have HI := hideA h
 by_cases hd : isMas d
 ·have e0 : (if 200 ≤ d ∧ d < 200 + ((2 : Nat) : Int) then Value.tuple #[.pointer (some ⟨b (c.reps.length + 3 + (d - 200).toNat),0,none⟩), .bool true] else .tuple #[.pointer none, .bool false]) = .tuple #[.pointer (some ⟨b (c.reps.length + 3 + (d - 200).toNat),0,none⟩), .bool true] := if_pos (by unfold isMas at hd; omega)
  rw [e0] at hf
  clear e0
  have hp := mas_place hn5 hd
  generalize c.reps.length + 3 + (d - 200).toNat = j at *
  have hj := nodPlace_lt hp
  have hnum := nodPlace_num hp
  obtain ⟨hnod,hset⟩ := mas_nod hd hn5 hp
  have hN := h.nod j hj
  rw [hnod,hnum] at hN
  obtain ⟨⟨p,hrel,hat⟩,hdn⟩ := hN
  have HB := hideA (mayBegin_any (Fn j) (b j) d p w hat)
  have hup : c.upOf d = some (c.mas d).up := by rw [upOf_nod,hp]; simp [hnod,Nod.up]
  rw [hup] at HU
  have hbeg : p.begun = (c.mas d).begun := hrel.begun
  cases hu : (c.mas d).up with
  | false =>
   have H : Hid (c.change d l = (c,5)) := hideA (by unfold Clu.change; rw [if_neg (by simpa using hd),if_pos (.inl hu)])
   have e1 : decide (some (c.mas d).up = some true) = false := by rw [hu]; rfl
   rw [e1] at HU
   clear e1 h hat
   go_enter Tryz.func18,Tryz.ntmps18
   go_wp2_with fail
   refine hf.mono ?_
   rintro e w1 ⟨rfl,rfl⟩
   clear hf
   go_wp2_with fail
   refine HU.out.mono ?_
   rintro e w1 ⟨rfl,rfl⟩
   go_wp2_with fail
   go_ret
   rw [H.out]
   exact ⟨rfl,CAfter.still HA.out (Below.refl _ _)⟩
  | true =>
   have e1 : decide (some (c.mas d).up = some true) = true := by rw [hu]; rfl
   rw [e1] at HU
   clear e1
   by_cases hb : 1000 ≤ (c.mas d).begun
   ·have H : Hid (c.change d l = (c,5)) := hideA (by unfold Clu.change; rw [if_neg (by simpa using hd),if_pos (.inr hb)])
    have e1 : decide (p.begun < 1000) = false := by rw [hbeg]; simp; omega
    rw [e1] at HB
    clear e1 h hat
    go_enter Tryz.func18,Tryz.ntmps18
    go_wp2_with fail
    refine hf.mono ?_
    rintro e w1 ⟨rfl,rfl⟩
    clear hf
    go_wp2_with fail
    refine HU.out.mono ?_
    rintro e w1 ⟨rfl,rfl⟩
    go_wp2_with fail
    refine HB.out.mono ?_
    rintro e w1 ⟨rfl,rfl⟩
    go_wp2_with fail
    go_ret
    rw [H.out]
    exact ⟨rfl,CAfter.still HA.out (Below.refl _ _)⟩
   ·have e1 : decide (p.begun < 1000) = true := by rw [hbeg]; simp; omega
    rw [e1] at HB
    clear e1
    cases hmem : memsOk l c.reps.length with
    | false =>
     have H : Hid (c.change d l = (c,7)) := hideA (by unfold Clu.change; rw [if_neg (by simpa using hd),if_neg (by rw [hu]; simp; omega),if_pos hmem])
     rw [hmem] at HR
     clear h hat
     go_enter Tryz.func18,Tryz.ntmps18
     go_wp2_with fail
     refine hf.mono ?_
     rintro e w1 ⟨rfl,rfl⟩
     clear hf
     go_wp2_with fail
     refine HU.out.mono ?_
     rintro e w1 ⟨rfl,rfl⟩
     go_wp2_with fail
     refine HB.out.mono ?_
     rintro e w1 ⟨rfl,rfl⟩
     go_wp2_with fail
     refine HR.out.mono ?_
     rintro e w1 ⟨rfl,rfl⟩
     go_wp2_with fail
     go_ret
     rw [H.out]
     exact ⟨rfl,CAfter.still HA.out (Below.refl _ _)⟩
    | true =>
     have H : Hid (c.change d l = ({ c.setNod j (.mas ((c.mas d).begin d l)) with bag := puts c.bag (((c.mas d).begin d l).asks d) },0)) := hideA (by
      unfold Clu.change
      rw [if_neg (by simpa using hd),if_neg (by rw [hu]; simp; omega),if_neg (by rw [hmem]; simp),hset]
      rfl)
     rw [hmem] at HR
     have hwf := masBegin_wf (n := c.reps.length) (E := E) (own := d) (s := c.mas d) (l := l) (by omega) hg.nodes.E0 hd hmem
     have hok : ∀ z ∈ ((c.mas d).begin d l).asks d,z.ok = true := fun z hz => (asks_wf hwf hg.nodes.n5 hg.nodes.E0 (by unfold isMas at hd; omega) z hz).ok hg.nodes.n5 hg.nodes.E2000
     have hlen : (((c.mas d).begin d l).asks d).length ≤ 100 := by
      have q1 := asks_len ((c.mas d).begin d l) d
      have q2 := all_len hwf hg.nodes.n5
      omega
     have hl5 : l.length ≤ 5 := by have := memsOk_length hmem; omega
     have hbrel := hrel.begin l hmem hn5
     have HC : Hid (∀ W,Below w.heap.size w W → Calls Tryz.prog 37 #[.pointer (some ⟨b j,0,none⟩),v] W fun e w' => NodOut w w' (Fn j) (b j) d e (.mas ((c.mas d).begin d l),((c.mas d).begin d l).asks d)) := hideA fun W hbW => by
      refine (masBegin_any (Fn j) (b j) d p v l W (hat.below hbW) (by omega) (by unfold isMas at hd; omega) (hv.1.below hbW) (fun k e e2 => hvF k e (h.inN j hj k (by rw [e2]; obtain ⟨_,_,_,_,q⟩ := hat; exact q.fb))) hl5).mono ?_
      rintro e w' ⟨v9,F',rfl,n1,n2,n3,n4⟩
      rw [hbrel.2] at n4
      exact NodOut.below hbW ⟨v9,F',rfl,⟨⟨_,hbrel.1,n1⟩,fun e => by simp [Mas.begin] at e⟩,n2,n3,n4⟩
     have HS : Hid (∀ W v,Moved w W (Fn j) → MsgsOwn W w.heap.size v (((c.mas d).begin d l).asks d) → Calls Tryz.prog 36 #[.pointer (some ⟨x,4,none⟩),v] W fun e w' => (∃ v,e = .returned v) ∧ BagTo W w' x (.slice (some ⟨gs,0,none⟩) (c.reps.length + 5) cap) vr va (.slice am 2 cm) vb vt (puts c.bag (((c.mas d).begin d l).asks d))) := hideA fun W v hM hv => bagSend_any x _ vr va _ vb vt c.bag _ v _ W (h.bagBeside j hj hM).1 hg.bag hv hok (by omega)
     clear h hat
     obtain ⟨aa,ca,hsh, -⟩ := hv.2
     subst hsh
     clear hv
     go_enter Tryz.func18,Tryz.ntmps18
     go_wp2_with fail
     refine hf.mono ?_
     rintro e w1 ⟨rfl,rfl⟩
     clear hf
     go_wp2_with fail
     refine HU.out.mono ?_
     rintro e w1 ⟨rfl,rfl⟩
     go_wp2_with fail
     refine HB.out.mono ?_
     rintro e w1 ⟨rfl,rfl⟩
     go_wp2_with fail
     refine HR.out.mono ?_
     rintro e w1 ⟨rfl,rfl⟩
     clear c3
     go_wp2_with fail
     have hbd := (Below.refl w1.heap.size w1).drew
     go_region_held3 (fun _ => True) (trivial)
      (first
       | (go_at_call 37; refine (HC.out _ hbd).mono ?_; rintro e W ⟨v9,F',rfl,n1,n2,n3,n4⟩; have HN := hideA (And.intro n1 (And.intro n2 (And.intro n3 n4))); clear n1 n2 n3 n4)
       | (go_at_call 36; refine (HS.out _ _ HN.out.2.1 HN.out.2.2.2).mono ?_; rintro e W2 ⟨⟨v2,rfl⟩,hB⟩; have HBT := hideA hB; clear hB))
     all_goals (
      go_wp2_with fail
      go_ret
      rw [H.out]
      exact ⟨rfl,HI.out.sends j hj (.mas ((c.mas d).begin d l)) F' _ (by rw [hnum]; exact HN.out.1) HN.out.2.1 HN.out.2.2.1 (by rw [hnod]; trivial) (by rw [hnod]; exact hu.symm) HBT.out⟩)
 ·have e0 : (if 200 ≤ d ∧ d < 200 + ((2 : Nat) : Int) then Value.tuple #[.pointer (some ⟨b (c.reps.length + 3 + (d - 200).toNat),0,none⟩), .bool true] else .tuple #[.pointer none, .bool false]) = .tuple #[.pointer none, .bool false] := if_neg (fun e => hd ⟨e.1,by omega⟩)
  rw [e0] at hf
  have H : Hid (c.change d l = (c,4)) := hideA (by unfold Clu.change; rw [if_pos hd])
  clear e0 h
  go_enter Tryz.func18,Tryz.ntmps18
  go_wp2_with fail
  refine hf.mono ?_
  rintro e w1 ⟨rfl,rfl⟩
  clear hf
  go_wp2_with fail
  go_ret
  rw [H.out]
  exact ⟨rfl,CAfter.still HA.out (Below.refl _ _)⟩
set_option maxRecDepth 100000 in
set_option maxHeartbeats 1000000 in
theorem cluStatus_any {w : World} {F : Nat → Prop} {x : Nat} {c : Clu} {E : Int} {g : Gh} (d : Int) (h : CAt w F x c) (hg : Good c E g) (hd : c.isRep d) :
  Calls Tryz.prog 54 #[.pointer (some ⟨x,0,none⟩), .int .i64 d] w fun r w' => ∃ vm vl,r = .returned (.tuple #[.agg #[.bool (c.rep d).up, .int .i64 (c.rep d).epoch, .int .i64 (c.rep d).lock, .int .i64 ((c.rep d).commit : Int),vm,vl], .int .i64 0]) ∧
   w'.ownsRow w.heap.size 3 1 vm (c.rep d).mems.length (ints (c.rep d).mems) ∧ w'.ownsRow w.heap.size 42 5 vl (c.rep d).log.length (ints (entsNums (c.rep d).log)) ∧ Below w.heap.size w w' := by
 obtain ⟨gs,cap,b,Fn,vr,va,vm,vb,vt,h⟩ := h
 obtain ⟨ar,cr,hvr⟩ := owns_shape h.rr
 subst hvr
 have hp := rep_place hd
 have hj := nodPlace_lt hp
 have hnum := nodPlace_num hp
 have hnod := rep_nod hd hp
 have hup : c.upOf d = some (c.rep d).up := by rw [upOf_nod,hp]; simp [hnod,Nod.up]
 have e0 : (if 0 ≤ d ∧ d < 0 + (c.reps.length : Int) then Value.tuple #[.pointer (some ⟨b (0 + (d - 0).toNat),0,none⟩), .bool true] else .tuple #[.pointer none, .bool false]) = .tuple #[.pointer (some ⟨b d.toNat,0,none⟩), .bool true] := by
  rw [if_pos (by have := hd.1; have := hd.2; omega)]
  simp
 have HP : Hid (∀ W,Below w.heap.size w W → Calls Tryz.prog 59 #[.slice ar c.reps.length cr, .int .i64 0, .int .i64 d] W fun e w' => e = .returned (.tuple #[.pointer (some ⟨b d.toNat,0,none⟩), .bool true]) ∧ w' = W) := hideA fun W hb => by
  have := pickRep_any _ b 0 c.reps.length 0 d W (h.below hb).rr (by have := h.n5; omega) (by omega)
  rw [e0] at this
  exact this
 have HU : Hid (∀ W,Below w.heap.size w W → Calls Tryz.prog 33 #[.pointer (some ⟨x,0,none⟩), .int .i64 d] W fun e w' => e = .returned (.bool (c.rep d).up) ∧ w' = W) := hideA fun W hb => by
  have := isUp_any W F x gs cap c b Fn _ va vm vb vt d (h.below hb)
  rw [hup,show decide (some (c.rep d).up = some true) = (c.rep d).up by cases (c.rep d).up <;> rfl] at this
  exact this
 have hN := h.nod _ hj
 rw [hnod,hnum] at hN
 obtain ⟨⟨wm,wl,hat,hF,hlt⟩,hdn⟩ := hN
 have hwf := hg.nodes.R d hd
 have HS : Hid (∀ W,Below w.heap.size w W → Calls Tryz.prog 111 #[.pointer (some ⟨b d.toNat,0,none⟩)] W fun e w' => ∃ a c1 a' c',e = .returned (.agg #[.bool false, .int .i64 (c.rep d).epoch, .int .i64 (c.rep d).lock, .int .i64 ((c.rep d).commit : Int), .slice a (c.rep d).mems.length c1, .slice a' (c.rep d).log.length c']) ∧
   w'.ownsRow W.heap.size 3 1 (.slice a (c.rep d).mems.length c1) (c.rep d).mems.length (ints (c.rep d).mems) ∧ w'.ownsRow W.heap.size 42 5 (.slice a' (c.rep d).log.length c') (c.rep d).log.length (ints (entsNums (c.rep d).log)) ∧ Below W.heap.size W w') := hideA fun W hb => repStatus_any _ d (c.rep d) wm wl W (hat.below hb) (hwf.ok h.n5)
 have HI := hideA h
 have hxl : x < w.heap.size := h.lt x (h.inO x (.inl rfl))
 have hx1 : ¬ x = w.heap.size := by omega
 have hx2 : ¬ w.heap.size = x := by omega
 clear h hat hwf hnod hup e0
 generalize c.rep d = r at *
 go_enter Tryz.func54,Tryz.ntmps54
 go_upto_region 1 with fail
 obtain ⟨X,hX,hbX,hM⟩ := box_more1 w #[.bool false, .int .i64 0, .int .i64 0, .int .i64 0, .slice none 0 0, .slice none 0 0] 46
 rw [hX]
 clear hX
 have c1 := cell_of_heap (HI.out.below hbX).bag.blk 1
 have HM := hideA hM
 clear hM
 go_wp2_with fail
 refine (HP.out X hbX).mono ?_
 rintro e W ⟨rfl,rfl⟩
 clear c1
 go_wp2_with fail
 refine (HS.out W hbX).mono ?_
 rintro e Y ⟨sa,sc,sa',sc',rfl,o1,o2,hbY⟩
 have hbWY := hbX.trans (hbY.mono hbX.size)
 have HMY := hideA ((hbY.block _ (Array.getElem?_eq_some_iff.1 HM.out).1).trans HM.out)
 have HO := hideA (And.intro o1 o2)
 clear o1 o2
 go_upto_region 5 with fail
 obtain ⟨Z,hZ,hbZ,hMZ⟩ := box_more1 Y #[.bool false, .int .i64 r.epoch, .int .i64 r.lock, .int .i64 (r.commit : Int), .slice sa r.mems.length sc, .slice sa' r.log.length sc'] 46
 rw [hZ]
 clear hZ
 have hbWZ := hbWY.trans (hbZ.mono hbWY.size)
 have HMZ := hideA ((hbZ.block _ (Array.getElem?_eq_some_iff.1 HMY.out).1).trans HMY.out)
 have HOZ : Hid (Z.ownsRow W.heap.size 3 1 (.slice sa r.mems.length sc) r.mems.length (ints r.mems) ∧ Z.ownsRow W.heap.size 42 5 (.slice sa' r.log.length sc') r.log.length (ints (entsNums r.log))) := hideA ⟨owns_kept HO.out.1 fun k _ hk => hbZ.block k hk,owns_kept HO.out.2 fun k _ hk => hbZ.block k hk⟩
 have hne1 : ¬ w.heap.size = Y.heap.size := by have := (Array.getElem?_eq_some_iff.1 HMY.out).1; omega
 have hne2 : ¬ Y.heap.size = w.heap.size := fun e => hne1 e.symm
 have gZ := fun j => cell_of_heap hMZ j
 have fZ := fun j => frozen_of_heap hMZ j
 have gW := fun j => cell_of_heap HMZ.out j
 have fW := fun j => frozen_of_heap HMZ.out j
 have HMZ2 := hideA hMZ
 clear hMZ
 go_wp2_with fail
 refine (HU.out Z hbWZ).mono ?_
 rintro e V ⟨rfl,rfl⟩
 go_wp2_with fail
 have n1 := blk_type HMZ2.out HOZ.out.1 (by decide)
 have n2 := blk_type HMZ.out HOZ.out.1 (by decide)
 have n3 := blk_type HMZ2.out HOZ.out.2 (by decide)
 have n4 := blk_type HMZ.out HOZ.out.2 (by decide)
 refine bodyPost_ret (v := .tuple #[.agg #[.bool r.up, .int .i64 r.epoch, .int .i64 r.lock, .int .i64 (r.commit : Int), .slice sa r.mems.length sc, .slice sa' r.log.length sc'], .int .i64 0]) (by simp [results,Tryz.results54,go_sem,gW]) rfl ?_
 refine ⟨_,_,rfl,owns_base (ownsRow_setCell_other (ownsRow_setCell_other (ownsRow_setCell_other (ownsRow_setCell_other (ownsRow_setCell_other (ownsRow_setCell_other (ownsRow_setCell_other HOZ.out.1 n1 _) n2 _) n2 _) n2 _) n2 _) n2 _) n2 _) hbX.size,owns_base (ownsRow_setCell_other (ownsRow_setCell_other (ownsRow_setCell_other (ownsRow_setCell_other (ownsRow_setCell_other (ownsRow_setCell_other (ownsRow_setCell_other HOZ.out.2 n3 _) n4 _) n4 _) n4 _) n4 _) n4 _) n4 _) hbX.size, ?_⟩
 iterate 6 refine Below.setCell ?_ (by exact Nat.le_refl _) _
 exact Below.setCell hbWZ (by have := hbWY.size; exact this) _
set_option maxRecDepth 100000 in
set_option maxHeartbeats 1000000 in
theorem cluBallots_any {w : World} {F : Nat → Prop} {x : Nat} {c : Clu} {E : Int} {g : Gh} (d : Int) (h : CAt w F x c) (hg : Good c E g) (hd : isAcc d) :
  Calls Tryz.prog 20 #[.pointer (some ⟨x,0,none⟩), .int .i64 d] w fun r w' => ∃ vm,r = .returned (.tuple #[.agg #[.bool (c.acc d).up, .int .i64 (c.acc d).epoch,vm], .int .i64 0]) ∧
   w'.ownsRow w.heap.size 3 1 vm (c.acc d).mems.length (ints (c.acc d).mems) ∧ Below w.heap.size w w' := by
 obtain ⟨gs,cap,b,Fn,vr,va,vm,vb,vt,h⟩ := h
 obtain ⟨ar,cr,hvr⟩ := owns_shape h.ra
 subst hvr
 have hp := acc_place h.n5 hd
 have hj := nodPlace_lt hp
 have hnum := nodPlace_num hp
 have hnod := acc_nod hd h.n5 hp
 have hup : c.upOf d = some (c.acc d).up := by rw [upOf_nod,hp]; simp [hnod,Nod.up]
 have e0 : (if 100 ≤ d ∧ d < 100 + ((3 : Nat) : Int) then Value.tuple #[.pointer (some ⟨b (c.reps.length + (d - 100).toNat),0,none⟩), .bool true] else .tuple #[.pointer none, .bool false]) = .tuple #[.pointer (some ⟨b (c.reps.length + (d - 100).toNat),0,none⟩), .bool true] := if_pos (by have := hd.1; have := hd.2; omega)
 have HP : Hid (∀ W,Below w.heap.size w W → Calls Tryz.prog 38 #[.slice ar 3 cr, .int .i64 100, .int .i64 d] W fun e w' => e = .returned (.tuple #[.pointer (some ⟨b (c.reps.length + (d - 100).toNat),0,none⟩), .bool true]) ∧ w' = W) := hideA fun W hb => by
  have := pickAcc_any _ b c.reps.length 3 100 d W (h.below hb).ra (by omega) (by omega)
  rw [e0] at this
  exact this
 have HU : Hid (∀ W,Below w.heap.size w W → Calls Tryz.prog 33 #[.pointer (some ⟨x,0,none⟩), .int .i64 d] W fun e w' => e = .returned (.bool (c.acc d).up) ∧ w' = W) := hideA fun W hb => by
  have := isUp_any W F x gs cap c b Fn vr _ vm vb vt d (h.below hb)
  rw [hup,show decide (some (c.acc d).up = some true) = (c.acc d).up by cases (c.acc d).up <;> rfl] at this
  exact this
 have hN := h.nod _ hj
 rw [hnod,hnum] at hN
 have hat := hN
 have hwf := hg.nodes.A d hd
 have HS : Hid (∀ W,Below w.heap.size w W → Calls Tryz.prog 39 #[.pointer (some ⟨b (c.reps.length + (d - 100).toNat),0,none⟩)] W fun e w' => ∃ a c1,e = .returned (.agg #[.bool false, .int .i64 (c.acc d).epoch, .slice a (c.acc d).mems.length c1]) ∧ w'.ownsRow W.heap.size 3 1 (.slice a (c.acc d).mems.length c1) (c.acc d).mems.length (ints (c.acc d).mems) ∧ Below W.heap.size W w') := hideA fun W hb => accBallots_any _ _ d (c.acc d) W (by obtain ⟨z1,z2,z3,z4⟩ := hat; exact ⟨z1,z2,z3,z4.below hb⟩) (hwf.ok h.n5)
 have HI := hideA h
 have hxl : x < w.heap.size := h.lt x (h.inO x (.inl rfl))
 have hx1 : ¬ x = w.heap.size := by omega
 have hx2 : ¬ w.heap.size = x := by omega
 clear h hat hwf hnod hup e0
 generalize c.acc d = r at *
 go_enter Tryz.func20,Tryz.ntmps20
 go_upto_region 1 with fail
 obtain ⟨X,hX,hbX,hM⟩ := box_more1 w #[.bool false, .int .i64 0, .slice none 0 0] 53
 rw [hX]
 clear hX
 have c1 := cell_of_heap (HI.out.below hbX).bag.blk 2
 have HM := hideA hM
 clear hM
 go_wp2_with fail
 refine (HP.out X hbX).mono ?_
 rintro e W ⟨rfl,rfl⟩
 clear c1
 go_wp2_with fail
 refine (HS.out W hbX).mono ?_
 rintro e Y ⟨sa,sc,rfl,o1,hbY⟩
 have hbWY := hbX.trans (hbY.mono hbX.size)
 have HMY := hideA ((hbY.block _ (Array.getElem?_eq_some_iff.1 HM.out).1).trans HM.out)
 have HO := hideA o1
 clear o1
 go_upto_region 5 with fail
 obtain ⟨Z,hZ,hbZ,hMZ⟩ := box_more1 Y #[.bool false, .int .i64 r.epoch, .slice sa r.mems.length sc] 53
 rw [hZ]
 clear hZ
 have hbWZ := hbWY.trans (hbZ.mono hbWY.size)
 have HMZ := hideA ((hbZ.block _ (Array.getElem?_eq_some_iff.1 HMY.out).1).trans HMY.out)
 have HOZ : Hid (Z.ownsRow W.heap.size 3 1 (.slice sa r.mems.length sc) r.mems.length (ints r.mems)) := hideA (owns_kept HO.out fun k _ hk => hbZ.block k hk)
 have hne1 : ¬ w.heap.size = Y.heap.size := by have := (Array.getElem?_eq_some_iff.1 HMY.out).1; omega
 have hne2 : ¬ Y.heap.size = w.heap.size := fun e => hne1 e.symm
 have gZ := fun j => cell_of_heap hMZ j
 have fZ := fun j => frozen_of_heap hMZ j
 have gW := fun j => cell_of_heap HMZ.out j
 have fW := fun j => frozen_of_heap HMZ.out j
 have HMZ2 := hideA hMZ
 clear hMZ
 go_wp2_with fail
 refine (HU.out Z hbWZ).mono ?_
 rintro e V ⟨rfl,rfl⟩
 go_wp2_with fail
 have n1 := blk_type HMZ2.out HOZ.out (by decide)
 have n2 := blk_type HMZ.out HOZ.out (by decide)
 refine bodyPost_ret (v := .tuple #[.agg #[.bool r.up, .int .i64 r.epoch, .slice sa r.mems.length sc], .int .i64 0]) (by simp [results,Tryz.results20,go_sem,gW]) rfl ?_
 refine ⟨_,rfl,owns_base (ownsRow_setCell_other (ownsRow_setCell_other (ownsRow_setCell_other (ownsRow_setCell_other HOZ.out n1 _) n2 _) n2 _) n2 _) hbX.size, ?_⟩
 iterate 3 refine Below.setCell ?_ (by exact Nat.le_refl _) _
 exact Below.setCell hbWZ (by have := hbWY.size; exact this) _
theorem cApi : Api CAt where
 keep := fun ⟨gs,cap,b,Fn,vr,va,vm,vb,vt,h⟩ hk => ⟨gs,cap,b,Fn,vr,va,vm,vb,vt,h.keep hk⟩
 lt := fun ⟨_,_,_,_,_,_,_,_,_,h⟩ hk => h.lt _ hk
 new := fun n w h1 h5 => cluNew_any n w h1 h5
 ask := fun d e h ⟨⟨_,_,hg⟩,_⟩ => cluAsk_any d e h hg
 change := fun d v l h ⟨⟨_,_,hg⟩,_⟩ hv hl hF => cluChange_any d v l h hg hv hl hF
 tick := fun d h ⟨⟨_,_,hg⟩,_⟩ => cluTick_any d h hg
 deliver := fun d h ⟨⟨_,_,hg⟩,ht⟩ => cluDeliver_any d h hg ht
 drop := fun d h ⟨⟨_,_,hg⟩,_⟩ => cluDrop_any d h hg
 double := fun d h ⟨⟨_,_,hg⟩,_⟩ => cluDouble_any d h hg
 crash := fun d h _ => cluCrash_any d h
 restart := fun d h ⟨⟨_,_,hg⟩,_⟩ => cluRestart_any d h hg
 bag := fun h ⟨⟨_,_,hg⟩,_⟩ => cluBag_any h hg.bag
 status := fun d h ⟨⟨_,_,hg⟩,_⟩ hd => cluStatus_any d h hg hd
 answers := fun h ⟨_,ht⟩ => cluAnswers_any h (by omega)
end Go.Proofs.YtgieeeeeiggoeaaGreat
namespace Go.Proofs.YtgieeeeeiggoeaaGreat
open Go.RowKit
set_option maxHeartbeats 1000000 in
theorem bagLen_any {At : World → (Nat → Prop) → Nat → Clu → Prop} (api : Api At) (p x : Nat) (F : Nat → Prop) (c : Clu) (w : World) (hc : w.cell? ⟨p,0,none⟩ = some (.pointer (some ⟨x,0,none⟩))) (hat : At w F x c) (hok : POK c) :
  Calls Tryz.prog 30 #[.pointer (some ⟨p,0,none⟩)] w fun e w' => e = .returned (.int .i64 (c.bag.length : Int)) ∧ Below w.heap.size w w' := by
 have hb := api.bag hat hok
 go_enter Tryz.func30,Tryz.ntmps30
 go_wp2_with fail
 refine hb.mono ?_
 rintro e w1 ⟨v,rfl,hv,hbl⟩
 obtain ⟨a,cap,rfl⟩ := owns_shape hv
 clear hb hv
 go_wp2_with fail
 go_ret
 exact ⟨rfl,hbl⟩
end Go.Proofs.YtgieeeeeiggoeaaGreat
