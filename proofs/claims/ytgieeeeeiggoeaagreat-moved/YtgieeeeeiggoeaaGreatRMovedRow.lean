import Derived.Test.YtgieeeeeiggoeaaGreatQ53
import Derived.Test.YtgieeeeeiggoeaaGreatRows
import Derived.WalkKit
import Derived.ProofKit
import Derived.OpenShut
import Derived.ShutString
import Derived.ChangeOld
import Derived.Below
import Derived.SizedLaws
namespace Go.Proofs.YtgieeeeeiggoeaaGreat
open Go.RowKit Go.Shelf
theorem own_one {g n c k : Nat} (h : (Value.slice (some ⟨g,0,none⟩) n c).ownBlock = some k) : k = g := by
 have : g = k := by simpa [Value.ownBlock] using h
 exact this.symm
set_option maxRecDepth 100000 in
set_option maxHeartbeats 8000000 in
theorem Moved_any (z : Int) (v : Value) (l : List KStep) (ma mb mm : Int) (w : World) (i0 : -9223372036854775808 ≤ z) (i1 : z ≤ 9223372036854775807) (hS : ScrAt w v l) (_hll : l.length ≤ 2299999999999)
  (a0 : -9223372036854775808 ≤ ma) (a1 : ma ≤ 9223372036854775807) (b0 : -9223372036854775808 ≤ mb) (b1 : mb ≤ 9223372036854775807) (m0 : -9223372036854775808 ≤ mm) (m1 : mm ≤ 9223372036854775807) :
  Calls Tryz.prog 7 #[.int .i64 z,v, .int .i64 ma, .int .i64 mb, .int .i64 mm] w fun e w' => e = .returned (.bool true) ∧ Below w.heap.size w w' := by
 have hp := pickI_lt z 5 (by omega)
 obtain ⟨n,hn⟩ : ∃ n : Nat,1 + pickI z 5 = (n : Int) := ⟨(1 + pickI z 5).toNat,by omega⟩
 have HB := hideA (kbegin_any z w n hn i0 i1)
 have hQ0 := (begin_QI n (by omega) (by omega)).1
 have HS := hideA hS
 obtain ⟨a,c,rfl,hS⟩ := hS
 clear hS
 go_enter Tryz.func7,Tryz.ntmps7
 go_wp2_with fail
 refine HB.out.mono ?_
 rintro e W ⟨p,x,rfl,hA,hF⟩
 have HA := hideA (And.intro hA (And.intro hF hQ0))
 clear hA hF HB hQ0
 go_wp2_with fail
 go_loopw [12] (fun i wr => ∃ k : Nat,k ≤ l.length ∧ k ≤ 20 ∧ i = .int .i64 k ∧ ∃ r L,RunAt w wr p x r ∧ Fine r (5000 + 5000 * k) ∧ QI r n L ∧ L.length = k + 1) (fun i _ => l.length - (intOf i).toNat)
 case atStart => exact ⟨0,Nat.zero_le _,Nat.zero_le _,rfl,_, [firstEntry],HA.out.1,HA.out.2.1,HA.out.2.2,rfl⟩
 case round =>
  obtain ⟨k,hk,hk20,rfl,r,L,hA,hF,hQ,hLk⟩ := hrel
  have H := hideA (And.intro hA (And.intro hF hQ))
  obtain ⟨FX,FR,vW,vF,vL,hR,hnn,hb0⟩ := hA
  by_cases hlt : k < l.length ∧ k < 20
  ·obtain ⟨hlt,hlt20⟩ := hlt
   have hk1 : (k : Int) < (l.length : Int) := by omega
   have hk2 : (k : Int) < 20 := by omega
   have ho : l[k]? = some l[k] := List.getElem?_eq_getElem hlt
   generalize l[k] = o at *
   obtain ⟨a',c',e',hcells⟩ := HS.out.below hb0
   cases e'
   obtain ⟨b,off,vO,rfl,hb,s0,s1,s2,s3,s4,s5,hLi,hFit⟩ := hcells k o ho
   obtain ⟨aO,cO,rfl,hOL⟩ := hLi
   have HOL : Hid (IntsAt wr (.slice aO o.L.length cO) o.L) := hideA ⟨aO,cO,rfl,hOL⟩
   have hn5 := hQ.n5
   have hn1 := hQ.n1
   have hrn1 : 1 ≤ r.n := by have := hQ.nn; omega
   have hrn5 : r.n ≤ 5 := by have := hQ.nn; omega
   have hwl := hF.wl
   have htl := hF.tl
   have hpl : p < wr.heap.size := hR.ownLt (.inl rfl)
   have hp1 : ¬ p = wr.heap.size := by omega
   have hp2 : ¬ wr.heap.size = p := by omega
   obtain ⟨X,hX,hbX,hM⟩ := box_more1 wr #[.int .i64 o.kind, .int .i64 o.N, .int .i64 o.I, .int .i64 0, .int .i64 o.B, .slice aO o.L.length cO] 31
   have hRX := hR.below hbX
   have hsX := hbX.size
   have hb0X := hb0.trans (hbX.mono hb0.size)
   have HK : Hid (∀ W,Below X.heap.size X W → RunIn W p x FX FR r vW vF vL ∧ W.heap[wr.heap.size]? = some (.cells #[.int .i64 o.kind, .int .i64 o.N, .int .i64 o.I, .int .i64 0, .int .i64 o.B, .slice aO o.L.length cO] 31) ∧ Below w.heap.size w W) := hideA fun W hb => ⟨hRX.below hb,(hb.block _ (Array.getElem?_eq_some_iff.1 hM).1).trans hM,hb0X.trans (hb.mono hb0X.size)⟩
   have HN := hideA hnn
   have c1 : X.cell? ⟨p,1,none⟩ = some (.int .i64 (r.n : Int)) := cell_of_heap hRX.blk 1
   have g0 := cell_of_heap hM 0
   have g1 := cell_of_heap hM 1
   have g2 := cell_of_heap hM 2
   have g3 := cell_of_heap hM 3
   have g4 := cell_of_heap hM 4
   have g5 := cell_of_heap hM 5
   have hbd := (Below.refl X.heap.size X).drew
   obtain ⟨E,g,hd,he,hm,hgood,hfine⟩ := quick_fine hQ hF o (by omega)
   obtain ⟨en1,hQ2,hq1,hq2,hq3⟩ := hQ.step o (by omega)
   have hqe : r.quick o = Run.drain 5000 (r.ask (pickI o.N r.n) (r.entry { o with A := 0 })) := rfl
   have hsq : ∀ y ∈ r.wishes, -1 ≤ y.e.seq ∧ y.e.seq ≤ 1000 := fun y hy => by
    have := hm.wok y hy
    unfold Ent.ok at this
    simp only [Bool.and_eq_true,decide_eq_true_eq] at this
    omega
   have HP : Hid (∀ W,Calls Tryz.prog 14 #[.int .i64 o.N, .int .i64 (r.n : Int)] W fun e w' => e = .returned (.int .i64 (pickI o.N r.n)) ∧ w' = W) := hideA fun W => pick_any o.N r.n W (by omega) (by omega) hFit.n.1 hFit.n.2
   have HE : Hid (∀ W,Below X.heap.size X W → Calls Tryz.prog 15 #[.pointer (some ⟨p,0,none⟩), .agg #[.int .i64 o.kind, .int .i64 o.N, .int .i64 o.I, .int .i64 0, .int .i64 o.B, .slice aO o.L.length cO]] W fun e w' => e = .returned (.agg #[.int .i64 (r.entry { o with A := 0 }).client, .int .i64 (r.entry { o with A := 0 }).seq, .int .i64 (r.entry { o with A := 0 }).kind, .int .i64 (r.entry { o with A := 0 }).key, .int .i64 (r.entry { o with A := 0 }).value]) ∧ Below X.heap.size X w') := hideA fun W hb => by
    obtain ⟨q1,q2,q3⟩ := HK.out W hb
    obtain ⟨aW,cW,hvW,hWat⟩ := wishAt_of q1.hW
    have k2 : W.cell? ⟨p,2,none⟩ = some (.slice aW r.wishes.length cW) := by have := cell_of_heap q1.blk 2; rw [hvW] at this; exact this
    have := entry_any p r aW cW { o with A := 0 } (.slice aO o.L.length cO) W k2 hWat (by omega) ((HOL.out.below hbX).below hb) ⟨hFit.k,hFit.n,hFit.i,⟨by show (-9223372036854775808 : Int) ≤ 0; omega,by show (0 : Int) ≤ 9223372036854775807; omega⟩,hFit.b,hFit.l⟩ hsq
    refine this.mono ?_
    rintro e w' ⟨rfl,hb'⟩
    exact ⟨rfl,hb.trans (hb'.mono hb.size)⟩
   have HAs : Hid (∀ W,Below X.heap.size X W → Calls Tryz.prog 13 #[.pointer (some ⟨p,0,none⟩), .int .i64 (pickI o.N r.n), .agg #[.int .i64 (r.entry { o with A := 0 }).client, .int .i64 (r.entry { o with A := 0 }).seq, .int .i64 (r.entry { o with A := 0 }).kind, .int .i64 (r.entry { o with A := 0 }).key, .int .i64 (r.entry { o with A := 0 }).value]] W fun e w' => (∃ v,e = .returned v) ∧ RunAt w w' p x (r.ask (pickI o.N r.n) (r.entry { o with A := 0 })) ∧ w'.heap[wr.heap.size]? = some (.cells #[.int .i64 o.kind, .int .i64 o.N, .int .i64 o.I, .int .i64 0, .int .i64 o.B, .slice aO o.L.length cO] 31)) := hideA fun W hb => by
    obtain ⟨q1,q2,q3⟩ := HK.out W hb
    refine (kask_in (w0 := w) (pickI o.N r.n) (r.entry { o with A := 0 }) q1 HN.out q3 hm hd he (by omega) (by omega)).mono ?_
    rintro e w' ⟨⟨v,rfl⟩,hA,hKp⟩
    refine ⟨⟨v,rfl⟩,hA,(hKp wr.heap.size (Array.getElem?_eq_some_iff.1 q2).1 ?_).trans q2⟩
    exact fun e => e.elim (fun e => Nat.lt_irrefl _ (cApi.lt hR.clu e)) (fun e => Nat.lt_irrefl _ (hR.ownLt e))
   have HQ2 := hideA (And.intro hQ2 (And.intro hq1 (And.intro hq2 hq3)))
   have HFi := hideA hfine
   rw [hqe] at HQ2
   clear hqe hQ2 hq1 hq2 hq3 hfine
   generalize r.entry { o with A := 0 } = en at *
   generalize pickI o.N r.n = dn at *
   clear hR hRX hnn hOL hM hcells hF hQ hgood hm he
   go_wp2_with fail
   go_region_held3 (fun w' => w'.cell? ⟨p,1,none⟩ = some (.int .i64 (r.n : Int)) ∧ w'.cell? ⟨wr.heap.size,0,none⟩ = some (.int .i64 o.kind) ∧ w'.cell? ⟨wr.heap.size,1,none⟩ = some (.int .i64 o.N) ∧ w'.cell? ⟨wr.heap.size,2,none⟩ = some (.int .i64 o.I) ∧ w'.cell? ⟨wr.heap.size,3,none⟩ = some (.int .i64 0) ∧ w'.cell? ⟨wr.heap.size,4,none⟩ = some (.int .i64 o.B) ∧ w'.cell? ⟨wr.heap.size,5,none⟩ = some (.slice aO o.L.length cO)) (first | (refine ⟨?_, ?_, ?_, ?_, ?_, ?_, ?_⟩ <;> first | assumption | (simp [go_sem, *]; done)) | (simp [go_sem]; done) | go_keep)
    (first
     | (go_at_call 14; refine (HP.out _).mono ?_; rintro e W9 ⟨rfl,rfl⟩)
     | (go_at_call 15; refine (HE.out _ hbd).mono ?_; rintro e V ⟨rfl,hbV⟩; have HbV := hideA hbV; have v1 : V.cell? ⟨p,1,none⟩ = some (.int .i64 (r.n : Int)) := cell_of_heap (HK.out V hbV).1.blk 1; have y0 := cell_of_heap (HK.out V hbV).2.1 0; have y1 := cell_of_heap (HK.out V hbV).2.1 1; have y2 := cell_of_heap (HK.out V hbV).2.1 2; have y3 := cell_of_heap (HK.out V hbV).2.1 3; have y4 := cell_of_heap (HK.out V hbV).2.1 4; have y5 := cell_of_heap (HK.out V hbV).2.1 5; clear hbV)
     | (go_at_call 13; refine (HAs.out _ HbV.out).mono ?_; rintro e W ⟨⟨v9,rfl⟩,hSt,hbox⟩; have HSt := hideA hSt; obtain ⟨_,_,_,_,_,hRz,_,_⟩ := hSt; have x1 : W.cell? ⟨p,1,none⟩ = some (.int .i64 (r.n : Int)) := cell_of_heap hRz.blk 1; have z0 := cell_of_heap hbox 0; have z1 := cell_of_heap hbox 1; have z2 := cell_of_heap hbox 2; have z3 := cell_of_heap hbox 3; have z4 := cell_of_heap hbox 4; have z5 := cell_of_heap hbox 5; clear hbox hRz))
   all_goals (
    clear c1 g0 g1 g2 g3 g4 g5 v1 y0 y1 y2 y3 y4 y5 z0 z1 z2 z3 z4 z5 x1 HP HE HAs s0 s1 s2 s3 s4 s5
    go_wp2_with fail
    refine (kdrain_any HSt.out HFi.out (by omega)).mono ?_
    rintro e T ⟨⟨v9,rfl⟩,hAT,hFT⟩
    generalize Run.drain 5000 (r.ask dn en) = r2 at *
    have HT := hideA (And.intro hAT hFT)
    clear hAT hFT
    go_wp2_with fail
    go_roundw
    case rel => exact ⟨k + 1,by omega,by omega,by go_num,r2,_,HT.out.1,by have := HT.out.2; rwa [show 5000 + 5000 * (k + 1) = 5000 + 5000 * k + 5000 by omega],HQ2.out.1,by rw [List.length_append,List.length_singleton]; omega⟩
    case measure => simp [intOf]; omega)
  ·-- the members change
   have hb9 := hb0
   have hk20 : k = l.length ∨ k = 20 := by omega
   have hn5 := hQ.n5
   have hn1 := hQ.n1
   have hrn := hQ.nn
   have hwl := hF.wl
   have hfl := hF.fl
   have htl := hF.tl
   have hmm := pickI_lt mm 2 (by omega)
   obtain ⟨mi,hmi⟩ : ∃ mi : Nat,pickI mm 2 = (mi : Int) := ⟨(pickI mm 2).toNat,by omega⟩
   have hmi2 : mi < 2 := by omega
   have hml : memsOk (membersOf n ma mb) n = true := members_ok n hn1 _ _
   obtain ⟨h0,R1,hR1e,hR1ri,hR1n,hR1l,hR1f,hR1m,hR1a,hR1b,hlok,hR1r,hR2ri,hR2a⟩ := hQ.moves (by omega) mi hmi2 (membersOf n ma mb) hml
   have hll := memsOk_length hml
   have hne := ((memsOk_iff _ _).1 hml).2.2
   obtain ⟨E,g,hri⟩ := hF.ri
   have hri1 := hri.begins (200 + (mi : Int)) (membersOf n ma mb)
   have hpok : POK r.x := ⟨⟨_,_,hri.mid.good⟩,by omega⟩
   have hfine1 : Fine { r with x := (r.x.change (200 + (mi : Int)) (membersOf n ma mb)).1 } (5000 + 5000 * k) := ⟨hri1,hwl,hfl,by show (r.x.change _ _).1.told.length ≤ _; rw [change_told]; exact htl⟩
   have hw1 : R1.wishes.length ≤ 21 := by
    obtain ⟨Eb,gb,hrb⟩ := hri1
    have hwl2 := congrArg List.length hQ.wish
    rw [List.length_map] at hwl2
    rw [← hR1e,drain_wishes 5000 hrb]
    show r.wishes.length ≤ 21
    omega
   have HMm := hideA (members_any p n ma mb wr (by have := cell_of_heap hR.blk 1; rw [show (runCells r x vW vF vL)[1]? = some (.int .i64 (r.n : Int)) from rfl,hrn] at this; exact this) hn1 hn5 a0 a1 b0 b1)
   have HP : Hid (∀ W,Calls Tryz.prog 14 #[.int .i64 mm, .int .i64 2] W fun e w' => e = .returned (.int .i64 (mi : Int)) ∧ w' = W) := hideA fun W => by
    have := pick_any mm 2 W (by omega) (by omega) m0 m1
    rw [hmi] at this
    exact this
   have hw200 : IntKind.i64.wrap (200 + (mi : Int)) = 200 + (mi : Int) := by rw [IntKind.wrap_i64]; omega
   generalize membersOf n ma mb = ml at *
   have HRi := hideA (And.intro hR (And.intro hnn hb0))
   have HM1 := hideA (And.intro hR1m hR1b)
   have HR2 := hideA (And.intro hR1ri (And.intro hR2ri hR2a))
   have HFi := hideA hfine1
   clear hR hnn hb0 hF hQ hR1m hR1b hR1ri hR2ri hR2a hfine1 hri1
   have hcase : (¬ (k : Int) < (l.length : Int)) ∨ ((k : Int) < (l.length : Int) ∧ ¬ (k : Int) < 20) := by omega
   rcases hcase with hk1 | ⟨hk1,hk2⟩
   all_goals (
    go_wp2_with fail
    refine HMm.out.mono ?_
    rintro e V ⟨vv,rfl,hov,hbV⟩
    have hml0 : 0 < ml.length := List.length_pos_iff.2 hne
    obtain ⟨gv,cv,rfl,hgw, -⟩ := hov.form (by omega)
    have hRV := HRi.out.1.below hbV
    have hb0V := HRi.out.2.2.trans (hbV.mono HRi.out.2.2.size)
    have hgl : gv < V.heap.size := (Array.getElem?_eq_some_iff.1 (ownBlock_cells hov rfl).choose_spec.1).1
    have hgw2 : wr.heap.size ≤ gv := (ownBlock_cells hov rfl).choose_spec.2
    have hGo : ¬ (FX gv ∨ OwnR p vW vF vL FR gv) := fun e => by
     rcases e with e | e
     ·have := cApi.lt HRi.out.1.clu e; omega
     ·have := HRi.out.1.ownLt e; omega
    have HCh : Hid (∀ W,Below V.heap.size V W → Calls Tryz.prog 18 #[.pointer (some ⟨x,0,none⟩), .int .i64 (200 + (mi : Int)), .slice (some ⟨gv,0,none⟩) ml.length cv] W fun e w' => e = .returned (.int .i64 0) ∧ RunOff (fun k => k = gv) w w' p x { r with x := (r.x.change (200 + (mi : Int)) ml).1 } ∧ w'.heap[gv]? = V.heap[gv]?) := hideA fun W hb => by
     have hRW := hRV.below hb
     refine (cApi.change (200 + (mi : Int)) _ ml hRW.clu hpok (listIn_own (owns_kept hov fun k _ hk => hb.block k hk)) (by omega) (fun k hk hF => hGo (.inl ((own_one hk) ▸ hF)))).mono ?_
     rintro e w' ⟨rfl,ha⟩
     rw [h0]
     have hsz := hb.size
     have q := RunOff.after (G := fun k => k = gv) hRW HRi.out.2.1 (hb0V.trans (hb.mono hb0V.size)) (fun k hk => by subst hk; exact ⟨by omega,hGo⟩) _ ha
     exact ⟨rfl,q.1,(q.2 gv rfl).trans (hb.block gv hgl)⟩
    have HOv := hideA hov
    have c0 : V.cell? ⟨p,0,none⟩ = some (.pointer (some ⟨x,0,none⟩)) := cell_of_heap hRV.blk 0
    have hbd := (Below.refl V.heap.size V).drew
    clear hRV hb0V hov
    go_wp2_with fail
    go_region_held3 (fun w' => w'.cell? ⟨p,0,none⟩ = some (.pointer (some ⟨x,0,none⟩))) (first | assumption | (simp [go_sem, *]; done) | go_keep)
     (first
      | (go_at_call 14; refine (HP.out _).mono ?_; rintro e W9 ⟨rfl,rfl⟩)
      | (go_at_call 18; refine (HCh.out _ hbd).mono ?_; rintro e U ⟨rfl,hU,hUg⟩; have HU := hideA (And.intro hU hUg); obtain ⟨_,_,_,_,_,hRz,_,_,_⟩ := hU; have z0 : U.cell? ⟨p,0,none⟩ = some (.pointer (some ⟨x,0,none⟩)) := cell_of_heap hRz.blk 0; clear hRz hUg))
    all_goals (
     clear c0 z0 HCh HP
     go_wp2_with fail
     refine (kdrain_off HU.out.1 HFi.out (by omega)).mono ?_
     rintro e T ⟨⟨v9,rfl⟩,hAT,hFT,hKT⟩
     rw [hR1e] at hAT hFT
     have hovT : T.ownsRow wr.heap.size 3 1 (.slice (some ⟨gv,0,none⟩) ml.length cv) ml.length (ints ml) := owns_only HOv.out fun k hk => by
      have e : k = gv := by simpa [Value.ownBlock] using hk.symm
      subst e
      exact (hKT k rfl).trans HU.out.2
     have HT := hideA (And.intro hAT hFT)
     have HOT := hideA (IntsAt.of_owns hovT)
     have HOr := hideA hovT
     obtain ⟨FX2,FR2,vW2,vF2,vL2,hR2,hn2,hb2, -⟩ := hAT
     obtain ⟨aF,cF,hvF⟩ := owns_shape hR2.hF
     subst hvF
     obtain ⟨aL,cL,hvL⟩ := hR2.hL.shape
     subst hvL
     have HR2c := hideA (And.intro hR2 (And.intro hn2 hb2))
     obtain ⟨E1,g1,hri1⟩ := HR2.out.1
     have t0 : T.cell? ⟨p,0,none⟩ = some (.pointer (some ⟨x,0,none⟩)) := cell_of_heap hR2.blk 0
     have t1 : T.cell? ⟨p,1,none⟩ = some (.int .i64 (R1.n : Int)) := cell_of_heap hR2.blk 1
     have t3 : T.cell? ⟨p,3,none⟩ = some (.slice aF R1.fixed.length cF) := cell_of_heap hR2.blk 3
     have t4 : T.cell? ⟨p,4,none⟩ = some (.slice aL R1.last.length cL) := cell_of_heap hR2.blk 4
     have t7 : T.cell? ⟨p,7,none⟩ = some (.int .i64 (R1.answers : Int)) := cell_of_heap hR2.blk 7
     have t9 : T.cell? ⟨p,9,none⟩ = some (.bool R1.ok) := cell_of_heap hR2.blk 9
     rw [hR1n] at t1
     rw [hR1f] at t3
     rw [hR1l] at t4
     rw [hri1.mid.flags.1] at t9
     have Hri1 := hideA hri1
     clear hR2 hn2 hri1 hFT hovT hKT
     go_wp2_with fail
     go_loopw [16] (fun i wr => ∃ j q : Nat,j ≤ n ∧ i = .int .i64 j ∧ wr = T.drewN q) (fun i _ => n - (intOf i).toNat)
     case atStart => exact ⟨0,0,Nat.zero_le _,rfl,rfl⟩
     case round =>
      obtain ⟨j,q,hj,rfl,rfl⟩ := hrel
      by_cases hlt2 : j < n
      ·have hj1 : (j : Int) < (n : Int) := by omega
       have hak : R1.last[j]? = some (R1.last[j]'(by omega)) := List.getElem?_eq_getElem (by omega)
       have hgd : R1.last.getD j (Rep.first 0) = R1.last[j]'(by omega) := by rw [List.getD,hak]; rfl
       have hall := HM1.out.1 j hlt2
       rw [hgd] at hall
       generalize R1.last[j]'(by omega) = s at *
       obtain ⟨gL,capL,am,cm,al,cl,hv,j1,j2,hcl,hcells⟩ := HR2c.out.1.hL.at j s hak
       rw [hR1l] at hv
       cases hv
       have z1 : T.cell? ⟨gL,j * 6 + 1,none⟩ = some (.int .i64 s.epoch) := hcells 1 (by omega)
       have z3 : T.cell? ⟨gL,j * 6 + 3,none⟩ = some (.int .i64 (s.commit : Int)) := hcells 3 (by omega)
       have z4 : T.cell? ⟨gL,j * 6 + 4,none⟩ = some (.slice am s.mems.length cm) := hcells 4 (by omega)
       have J1 := hideA (IntsAt.of_owns j1)
       have hsml : s.mems.length ≤ 100 := by
        have hl9 := Hri1.out.last
        have hnn9 := Hri1.out.mid.n
        rw [hl9] at hak
        have hj9 : j < R1.x.reps.length := (List.getElem?_eq_some_iff.1 hak).1
        have hw9 := (Hri1.out.mid.good.nodes.R (j : Int) (isRep_nat hj9)).mems
        rw [rep_nat hj9,(List.getElem?_eq_some_iff.1 hak).2] at hw9
        have := memsOk_length hw9
        omega
       clear hcells j1 j2 hgd hak
       go_wp2_with fail
       go_loopw [17,18] (fun b kk wr => ∃ m : Nat,m ≤ ml.length ∧ kk = .int .i64 m ∧ b = .bool (decide ((j : Int) ∈ ml.take m)) ∧ wr = T.drewN q) (fun _ kk _ => ml.length - (intOf kk).toNat)
       case atStart => exact ⟨0,Nat.zero_le _,rfl,by simp,rfl⟩
       case round =>
        obtain ⟨m,hm,rfl,rfl,rfl⟩ := hrel
        by_cases hltm : m < ml.length
        ·have hm1 : (m : Int) < (ml.length : Int) := by omega
         obtain ⟨a9,c9,e9,hc9⟩ := HOT.out
         cases e9
         obtain ⟨b9,o9,e9,xm⟩ := hc9 m hltm
         cases e9
         rw [Nat.zero_add,List.getD,List.getElem?_eq_getElem hltm,Option.getD_some] at xm
         have htk : Hid (ml.take (m + 1) = ml.take m ++ [ml[m]]) := hideA (List.take_succ_eq_append_getElem hltm)
         clear hc9
         generalize ml[m] = u at *
         by_cases hin : (j : Int) ∈ ml.take m
         ·have HD : Hid (decide ((j : Int) ∈ ml.take (m + 1)) = true) := hideA (decide_eq_true (by rw [htk.out]; exact List.mem_append_left _ hin))
          rw [decide_eq_true hin]
          clear hin
          go_wp2_with fail
          go_roundw
          case rel => exact ⟨m + 1,by omega,by go_num,by rw [HD.out],by trivial⟩
          case measure => simp [intOf]; omega
         ·rw [decide_eq_false hin]
          by_cases huj : u = (j : Int)
          ·have HD : Hid (decide ((j : Int) ∈ ml.take (m + 1)) = true) := hideA (decide_eq_true (by rw [htk.out, ← huj]; exact List.mem_append_right _ List.mem_cons_self))
           subst huj
           clear hin
           go_wp2_with fail
           go_roundw
           case rel => exact ⟨m + 1,by omega,by go_num,by rw [HD.out],by trivial⟩
           case measure => simp [intOf]; omega
          ·have HD : Hid (decide ((j : Int) ∈ ml.take (m + 1)) = false) := hideA (decide_eq_false (by
            rw [htk.out]
            intro e
            rcases List.mem_append.1 e with e | e
            ·exact hin e
            ·rw [List.mem_singleton] at e
             exact huj e.symm))
           have hd9 : (u == (j : Int)) = false := by simpa using huj
           clear hin
           go_wp2_with fail
           go_roundw
           case rel => exact ⟨m + 1,by omega,by go_num,by rw [HD.out],by trivial⟩
           case measure => simp [intOf]; omega
        ·obtain rfl : m = ml.length := by omega
         rw [List.take_length]
         have HSm := hideA (cordonkeep_sameInts_gen (.slice am s.mems.length cm) (.slice (some ⟨gv,0,none⟩) ml.length cv) s.mems ml (T.drewN q) (J1.out.below (below_drewN (Below.refl _ _) q)) (HOT.out.below (below_drewN (Below.refl _ _) q)) (by omega) (by omega))
         by_cases hin : (j : Int) ∈ ml
         ·obtain ⟨y1,y2,y3⟩ := hall.1 hin
          rw [decide_eq_true hin]
          rw [y1] at z1
          rw [y3] at z3
          have Hy2 := hideA y2
          clear hall hin y1 y3 y2
          go_wp2_with fail
          refine HSm.out.mono ?_
          rintro e U ⟨⟨t,rfl,ht⟩,q2,rfl⟩
          obtain rfl : t = true := ht Hy2.out
          clear ht HSm
          go_wp2_with fail
          go_quiet (fail)
          go_wp2_with fail
          go_roundw
          case rel => exact ⟨j + 1,q + q2 + nq,by omega,by go_num,by simp [Nat.add_assoc]⟩
          case measure => simp [intOf]; omega
         ·have y1 := hall.2 hin
          rw [decide_eq_false hin]
          rw [y1] at z1
          clear hall hin y1
          go_wp2_with fail
          refine HSm.out.mono ?_
          rintro e U ⟨⟨t,rfl,ht⟩,q2,rfl⟩
          clear ht HSm
          go_wp2_with fail
          go_quiet (fail)
          go_wp2_with fail
          go_roundw
          case rel => exact ⟨j + 1,q + q2 + nq,by omega,by go_num,by simp [Nat.add_assoc]⟩
          case measure => simp [intOf]; omega
      ·obtain rfl : j = n := by omega
       have hlo : (R1.x.told.length) ≤ 2999999999999 := by have := HT.out.2.tl; omega
       have hpok1 : POK R1.x := ⟨⟨_,_,Hri1.out.mid.good⟩,hlo⟩
       go_wp2_with fail
       go_loopw [20,21] (fun hv i wr => ∃ m : Nat,m ≤ 3 ∧ hv = .int .i64 m ∧ i = .int .i64 (100 + (m : Int)) ∧ Below T.heap.size T wr) (fun _ i _ => 103 - (intOf i).toNat)
       case atStart => exact ⟨0,Nat.zero_le _,rfl,rfl,below_drewN (Below.refl _ _) q⟩
       case round =>
        obtain ⟨m,hm,rfl,rfl,hbw⟩ := hrel
        have hRw := HR2c.out.1.below hbw
        have w0_ : wr.cell? ⟨p,0,none⟩ = some (.pointer (some ⟨x,0,none⟩)) := cell_of_heap hRw.blk 0
        by_cases hltm : m < 3
        ·have hm1 : 100 + (m : Int) < 103 := by omega
         have hacc : R1.x.acc (100 + (m : Int)) ∈ R1.x.accs := by
          unfold Clu.acc
          rw [show (100 + (m : Int) - 100).toNat = m by omega,List.getD,List.getElem?_eq_getElem (by omega),Option.getD_some]
          exact List.getElem_mem _
         obtain ⟨y1,y2⟩ := HM1.out.2 _ hacc
         have HBl := hideA (cluBallots_any (100 + (m : Int)) hRw.clu Hri1.out.mid.good (by unfold isAcc; omega))
         rw [y1,y2] at HBl
         have Hbw := hideA hbw
         clear hRw y1 y2 hacc hbw
         go_wp2_with fail
         refine HBl.out.mono ?_
         rintro e U ⟨vm,rfl,hvm,hbU⟩
         obtain ⟨a8,c8,rfl⟩ := owns_shape hvm
         have Hvm := hideA (IntsAt.of_owns hvm)
         have hbU2 := Hbw.out.trans (hbU.mono Hbw.out.size)
         obtain ⟨X,hX,hbX,hM⟩ := box_more1 U #[.bool (R1.x.acc (100 + (m : Int))).up, .int .i64 1, .slice a8 ml.length c8] 53
         have x1 := cell_of_heap hM 1
         have x2 := cell_of_heap hM 2
         have hbX2 := hbU2.trans (hbX.mono hbU2.size)
         have HSm := hideA (cordonkeep_sameInts_gen (.slice a8 ml.length c8) (.slice (some ⟨gv,0,none⟩) ml.length cv) ml ml X (Hvm.out.below hbX) (HOT.out.below hbX2) (by omega) (by omega))
         clear hvm hbU hbX hM HBl w0_
         go_wp2_with fail
         refine HSm.out.mono ?_
         rintro e Y ⟨⟨t,rfl,ht⟩,q2,rfl⟩
         obtain rfl : t = true := ht (by trivial)
         clear ht HSm
         go_wp2_with fail
         go_roundw
         case rel => exact ⟨m + 1,by omega,by go_num,by go_num,below_drewN hbX2 q2⟩
         case measure => simp [intOf]; omega
        ·obtain rfl : m = 3 := by omega
         have w7 : wr.cell? ⟨p,7,none⟩ = some (.int .i64 (R1.answers : Int)) := cell_of_heap hRw.blk 7
         obtain ⟨a9,c9,e9,hc9⟩ := HOT.out.below hbw
         cases e9
         obtain ⟨b9,o9,e9,xm⟩ := hc9 0 hml0
         cases e9
         have hhd : ml.getD 0 0 = ml.headD 0 := by cases ml <;> rfl
         rw [Nat.zero_add,hhd] at xm
         have hAw : RunAt w wr p x R1 := HT.out.1.at.below hbw
         have HAk : Hid (Calls Tryz.prog 13 #[.pointer (some ⟨p,0,none⟩), .int .i64 (ml.headD 0), .agg #[.int .i64 1, .int .i64 999, .int .i64 2, .int .i64 0, .int .i64 0]] wr fun z w' => (∃ v,z = .returned v) ∧ RunAt w w' p x (R1.ask (ml.headD 0) lastAsk)) := hideA (kask_any (ml.headD 0) lastAsk hAw Hri1.out.mid hR1r hlok HT.out.2.wl hlo)
         have hfine2 : Fine (R1.ask (ml.headD 0) lastAsk) (5000 + 5000 * 20 + 5000) := by
          refine ⟨⟨_,_,Hri1.out.ask' _ _ hR1r hlok⟩, ?_,HT.out.2.fl, ?_⟩
          ·unfold Run.ask
           simp only []
           split
           ·omega
           ·rw [List.length_append,List.length_singleton]; omega
          ·show (R1.x.ask _ _).1.told.length ≤ _
           rw [ask_told]
           have := HT.out.2.tl
           omega
         have hpos : (0 : Int) < (ml.length : Int) := by omega
         generalize ml.headD 0 = hd9 at *
         clear hRw hc9 hAw hhd
         go_wp2_with fail
         refine HAk.out.mono ?_
         rintro e U ⟨⟨v9,rfl⟩,hAU⟩
         have HDr := hideA (kdrain_any hAU hfine2 (by omega))
         clear hAU HAk xm w7 w0_
         go_wp2_with fail
         refine HDr.out.mono ?_
         rintro e Y ⟨⟨v9,rfl⟩,hAY,hFY⟩
         obtain ⟨E3,g3,hri3⟩ := HR2.out.2.1
         have hans := HR2.out.2.2
         generalize Run.drain 5000 (R1.ask hd9 lastAsk) = R2 at *
         obtain ⟨FX3,FR3,vW3,vF3,vL3,hR3,hn3,hb3⟩ := hAY
         have u7 : Y.cell? ⟨p,7,none⟩ = some (.int .i64 (R2.answers : Int)) := cell_of_heap hR3.blk 7
         have u9 : Y.cell? ⟨p,9,none⟩ = some (.bool R2.ok) := cell_of_heap hR3.blk 9
         have u10 : Y.cell? ⟨p,10,none⟩ = some (.bool R2.agreed) := cell_of_heap hR3.blk 10
         have u11 : Y.cell? ⟨p,11,none⟩ = some (.bool R2.lasts) := cell_of_heap hR3.blk 11
         have u12 : Y.cell? ⟨p,12,none⟩ = some (.bool R2.told) := cell_of_heap hR3.blk 12
         rw [hans] at u7
         rw [hri3.mid.flags.1] at u9
         rw [hri3.mid.flags.2.1] at u10
         rw [hri3.mid.flags.2.2.1] at u11
         rw [hri3.mid.flags.2.2.2.1] at u12
         clear hR3 hn3 hri3 HDr
         have hadd : IntKind.i64.wrap ((R1.answers : Int) + 1) = (R1.answers : Int) + 1 := by
          have := Hri1.out.ans
          rw [IntKind.wrap_i64]
          omega
         go_wp2_with fail
         go_ret
         exact ⟨rfl,hb3⟩))
end Go.Proofs.YtgieeeeeiggoeaaGreat
namespace Go.Proofs.YtgieeeeeiggoeaaGreat
open Go.ChangeShapes Go.WideShapes Go.ChangeAt Go.RowKit
set_option linter.unusedVariables false
theorem moved_own : ownKnob Tryz.prog.godebug = none := by kernel_rfl
theorem moved_laidOut : laidOutB Tryz.prog = true := by kernel_rfl
set_option maxRecDepth 100000 in
theorem moved_lifted (os : Os) (started : os.Started) (H : Type) (enc : TypeId × Value → H) :
  ReturnsInHanded {} Tryz.checked os 7 .any (Rows.movedSpec.pre6 enc Tryz.prog Tryz.f7 Rows.movedRow.domain false) (Rows.movedSpec.post enc Tryz.prog Tryz.f7 false true false false) := by
 refine returnsInHanded_of_change_sized (C := Tryz.checked) moved_own started (by kernel_rfl) Tryz.func7
  (ChangeSpec.witness6 (enc := enc) (C := Tryz.checked) false ⟨#[], #[.int .i64 0, .slice none 0 0, .int .i64 0, .int .i64 0, .int .i64 0], []⟩ 8 (by kernel_rfl) (by kernel_rfl) (by kernel_rfl) (by kernel_rfl)) ?_
 intro W base args ds gs before hval0 hW hcnd hsz0 _
 have hval : ∀ (j : Nat) t v,Tryz.f7.params[j]? = some t → args[j]? = some v → Value.okWide Tryz.prog W .any base t v := hval0
 have hsz : (DataW.weightsEach Tryz.prog (Tryz.f7.params.toList ++ Rows.movedSpec.plain.varTypes Tryz.prog) (ds ++ gs)).all (· ≤ reachBytes) = true := hsz0
 have hW' := hW
 obtain ⟨p,q,hA0,hV,rfl,hfz,hnd⟩ := hW
 have hA : DataW.TrodAll enc Tryz.prog W 0 (fun _ => true) true Tryz.f7.params.toList args.toList ds p := hA0
 rw [Tryz.params7] at hA hval hsz
 obtain ⟨v0,vs0,d0,ds0,p0,q0,hargs,rfl,rfl,h0,r0⟩ := trodAll_cons hA
 obtain ⟨v1,vs1,d1,ds1,p1,q1,rfl,rfl,rfl,h1,r1⟩ := trodAll_cons r0
 obtain ⟨v2,vs2,d2,ds2,p2,q2,rfl,rfl,rfl,h2,r2⟩ := trodAll_cons r1
 obtain ⟨v3,vs3,d3,ds3,p3,q3,rfl,rfl,rfl,h3,r3⟩ := trodAll_cons r2
 obtain ⟨v4,vs4,d4,ds4,p4,q4,rfl,rfl,rfl,h4,r4⟩ := trodAll_cons r3
 obtain ⟨rfl,rfl,rfl⟩ := trodAll_nil r4
 obtain rfl : args = #[v0,v1,v2,v3,v4] := by cases args; simp_all
 obtain ⟨rfl,rfl⟩ := trodVars_none hV
 obtain ⟨z,rfl,rfl,rfl,hz⟩ := open_int Tryz.underlying3 (hval 0 3 v0 rfl rfl) h0
 obtain ⟨z2,rfl,rfl,rfl,hz2⟩ := open_int Tryz.underlying3 (hval 2 3 v2 rfl rfl) h2
 obtain ⟨z3,rfl,rfl,rfl,hz3⟩ := open_int Tryz.underlying3 (hval 3 3 v3 rfl rfl) h3
 obtain ⟨z4,rfl,rfl,rfl,hz4⟩ := open_int Tryz.underlying3 (hval 4 3 v4 rfl rfl) h4
 have k1 := h1
 have lt1 : ∀ x ∈ p1,x.block < W.heap.size := by obtain ⟨m,hm⟩ := k1; exact DataW.trod_lt m _ _ _ hm
 obtain ⟨a1,len1,cap1,rfl⟩ := okWide_slice Tryz.underlying26 (hval 1 26 v1 rfl rfl)
 obtain ⟨fuel,hf1⟩ := h1
 obtain ⟨l,hl,hsize⟩ := open_script (v := .slice a1 len1 cap1) hf1
 have hlen : l.length ≤ 2299999999999 := by
  rcases hsize with rfl | ⟨el,sp,hp,hn⟩
  ·simp
  ·have hp' : d1 = .slice el sp := hp
   subst hp'
   have g1 : (el.length + sp.length) * Tryz.prog.bytesOf 31 ∈ DataW.weights Tryz.prog 26 (.slice el sp) := by simp [DataW.weights,Tryz.underlying26]
   have g2 := DataW.weights_mem_each (P := Tryz.prog) (ts := [3,26,3,3,3] ++ Rows.movedSpec.plain.varTypes Tryz.prog) (ds := [.lit (.int .i64 z), .slice el sp, .lit (.int .i64 z2), .lit (.int .i64 z3), .lit (.int .i64 z4)] ++ []) (j := 1) rfl rfl _ g1
   have g3 := List.all_eq_true.1 hsz _ g2
   have g4 : (el.length + sp.length) * 64 ≤ reachBytes := by rw [scr_bytes] at g3; exact of_decide_eq_true g3
   simp only [reachBytes] at g4
   omega
 clear hA0 hval0 hsz hsz0 hsize
 have b := bounds_i64 hz
 have b2 := bounds_i64 hz2
 have b3 := bounds_i64 hz3
 have b4 := bounds_i64 hz4
 refine (Moved_any z (.slice a1 len1 cap1) l z2 z3 z4 W b.1 b.2 hl hlen b2.1 b2.2 b3.1 b3.2 b4.1 b4.2).mono fun e W' ⟨he,bel⟩ => ?_
 subst he
 exact ⟨_,rfl,_,_,_, [],_, [],hW',trodAll_mk1 (shut_bool Tryz.underlying4 _),(trodAll_cons_mk (shut_int Tryz.underlying3 hz) (trodAll_cons_mk (Below.trod moved_laidOut (by kernel_rfl) (of_decide_eq_true (by kernel_rfl)) k1 bel lt1) (trodAll_cons_mk (shut_int Tryz.underlying3 hz2) (trodAll_cons_mk (shut_int Tryz.underlying3 hz3) (trodAll_cons_mk (shut_int Tryz.underlying3 hz4) trodAll_mk0))))),rfl,bel.frame _,fun h => by cases h⟩
theorem moved_over : Rows.movedRow.holds Tryz.pinned (OpenSpec.ofChange Rows.movedSpec) :=
 OpenClaim.holds_of_wide 7 Tryz.f7 rfl rfl rfl rfl rfl rfl rfl ⟨rfl,rfl,rfl,rfl,rfl⟩ rfl rfl rfl rfl rfl (by kernel_rfl) Tryz.func7 (by kernel_rfl)
  (of_decide_eq_true (by kernel_rfl)) (by unfold Func.isWrapper; first | (rw [if_pos (by decide +kernel)]; kernel_rfl) | (rw [if_neg (by decide +kernel)]; exact ⟨rfl,rfl⟩))
  (fun os started H enc _ => moved_lifted os started H enc)
theorem moved_proved : Rows.MovedSaid := moved_over
end Go.Proofs.YtgieeeeeiggoeaaGreat
