import Derived.Test.YtgieeeeeiggoeaaGreatQ53
import Derived.Test.YtgieeeeeiggoeaaGreatRows
import Derived.WalkKit
import Derived.ProofKit
import Derived.OpenShut
import Derived.ShutString
import Derived.ChangeOld
import Derived.Below
import Derived.SizedLaws
namespace Go.Proofs.YtgieeeeeiggoeaaGreat
open Go.RowKit Go.Shelf
set_option maxRecDepth 100000 in
set_option maxHeartbeats 4000000 in
theorem Quick_any (z : Int) (v : Value) (l : List KStep) (w : World) (i0 : -9223372036854775808 ≤ z) (i1 : z ≤ 9223372036854775807) (hS : ScrAt w v l) (_hll : l.length ≤ 2299999999999) :
  Calls Tryz.prog 6 #[.int .i64 z,v] w fun e w' => e = .returned (.bool true) ∧ Below w.heap.size w w' := by
 have hp := pickI_lt z 5 (by omega)
 obtain ⟨n,hn⟩ : ∃ n : Nat,1 + pickI z 5 = (n : Int) := ⟨(1 + pickI z 5).toNat,by omega⟩
 have HB := hideA (kbegin_any z w n hn i0 i1)
 have hQ0 := (begin_QI n (by omega) (by omega)).1
 have HS := hideA hS
 obtain ⟨a,c,rfl,hS⟩ := hS
 clear hS
 go_enter Tryz.func6,Tryz.ntmps6
 go_wp2_with fail
 refine HB.out.mono ?_
 rintro e W ⟨p,x,rfl,hA,hF⟩
 have HA := hideA (And.intro hA (And.intro hF hQ0))
 clear hA hF HB hQ0
 go_wp2_with fail
 go_loopw [6] (fun i wr => ∃ k : Nat,k ≤ l.length ∧ k ≤ 22 ∧ i = .int .i64 k ∧ ∃ r L,RunAt w wr p x r ∧ Fine r (5000 + 5000 * k) ∧ QI r n L ∧ L.length = k + 1) (fun i _ => l.length - (intOf i).toNat)
 case atStart => exact ⟨0,Nat.zero_le _,Nat.zero_le _,rfl,_, [firstEntry],HA.out.1,HA.out.2.1,HA.out.2.2,rfl⟩
 case round =>
  obtain ⟨k,hk,hk22,rfl,r,L,hA,hF,hQ,hLk⟩ := hrel
  have H := hideA (And.intro hA (And.intro hF hQ))
  obtain ⟨FX,FR,vW,vF,vL,hR,hnn,hb0⟩ := hA
  by_cases hlt : k < l.length ∧ k < 22
  ·obtain ⟨hlt,hlt22⟩ := hlt
   have hk1 : (k : Int) < (l.length : Int) := by omega
   have hk2 : (k : Int) < 22 := by omega
   have ho : l[k]? = some l[k] := List.getElem?_eq_getElem hlt
   generalize l[k] = o at *
   obtain ⟨a',c',e',hcells⟩ := HS.out.below hb0
   cases e'
   obtain ⟨b,off,vO,rfl,hb,s0,s1,s2,s3,s4,s5,hLi,hFit⟩ := hcells k o ho
   obtain ⟨aO,cO,rfl,hOL⟩ := hLi
   have HOL : Hid (IntsAt wr (.slice aO o.L.length cO) o.L) := hideA ⟨aO,cO,rfl,hOL⟩
   have hn5 := hQ.n5
   have hn1 := hQ.n1
   have hrn1 : 1 ≤ r.n := by have := hQ.nn; omega
   have hrn5 : r.n ≤ 5 := by have := hQ.nn; omega
   have hwl := hF.wl
   have htl := hF.tl
   have hpl : p < wr.heap.size := hR.ownLt (.inl rfl)
   have hp1 : ¬ p = wr.heap.size := by omega
   have hp2 : ¬ wr.heap.size = p := by omega
   obtain ⟨X,hX,hbX,hM⟩ := box_more1 wr #[.int .i64 o.kind, .int .i64 o.N, .int .i64 o.I, .int .i64 0, .int .i64 o.B, .slice aO o.L.length cO] 31
   have hRX := hR.below hbX
   have hsX := hbX.size
   have hb0X := hb0.trans (hbX.mono hb0.size)
   have HK : Hid (∀ W,Below X.heap.size X W → RunIn W p x FX FR r vW vF vL ∧ W.heap[wr.heap.size]? = some (.cells #[.int .i64 o.kind, .int .i64 o.N, .int .i64 o.I, .int .i64 0, .int .i64 o.B, .slice aO o.L.length cO] 31) ∧ Below w.heap.size w W) := hideA fun W hb => ⟨hRX.below hb,(hb.block _ (Array.getElem?_eq_some_iff.1 hM).1).trans hM,hb0X.trans (hb.mono hb0X.size)⟩
   have HN := hideA hnn
   have c1 : X.cell? ⟨p,1,none⟩ = some (.int .i64 (r.n : Int)) := cell_of_heap hRX.blk 1
   have g0 := cell_of_heap hM 0
   have g1 := cell_of_heap hM 1
   have g2 := cell_of_heap hM 2
   have g3 := cell_of_heap hM 3
   have g4 := cell_of_heap hM 4
   have g5 := cell_of_heap hM 5
   have hbd := (Below.refl X.heap.size X).drew
   obtain ⟨E,g,hd,he,hm,hgood,hfine⟩ := quick_fine hQ hF o (by omega)
   obtain ⟨en1,hQ2,hq1,hq2,hq3⟩ := hQ.step o (by omega)
   have hqe : r.quick o = Run.drain 5000 (r.ask (pickI o.N r.n) (r.entry { o with A := 0 })) := rfl
   have hsq : ∀ y ∈ r.wishes, -1 ≤ y.e.seq ∧ y.e.seq ≤ 1000 := fun y hy => by
    have := hm.wok y hy
    unfold Ent.ok at this
    simp only [Bool.and_eq_true,decide_eq_true_eq] at this
    omega
   have HP : Hid (∀ W,Calls Tryz.prog 14 #[.int .i64 o.N, .int .i64 (r.n : Int)] W fun e w' => e = .returned (.int .i64 (pickI o.N r.n)) ∧ w' = W) := hideA fun W => pick_any o.N r.n W (by omega) (by omega) hFit.n.1 hFit.n.2
   have HE : Hid (∀ W,Below X.heap.size X W → Calls Tryz.prog 15 #[.pointer (some ⟨p,0,none⟩), .agg #[.int .i64 o.kind, .int .i64 o.N, .int .i64 o.I, .int .i64 0, .int .i64 o.B, .slice aO o.L.length cO]] W fun e w' => e = .returned (.agg #[.int .i64 (r.entry { o with A := 0 }).client, .int .i64 (r.entry { o with A := 0 }).seq, .int .i64 (r.entry { o with A := 0 }).kind, .int .i64 (r.entry { o with A := 0 }).key, .int .i64 (r.entry { o with A := 0 }).value]) ∧ Below X.heap.size X w') := hideA fun W hb => by
    obtain ⟨q1,q2,q3⟩ := HK.out W hb
    obtain ⟨aW,cW,hvW,hWat⟩ := wishAt_of q1.hW
    have k2 : W.cell? ⟨p,2,none⟩ = some (.slice aW r.wishes.length cW) := by have := cell_of_heap q1.blk 2; rw [hvW] at this; exact this
    have := entry_any p r aW cW { o with A := 0 } (.slice aO o.L.length cO) W k2 hWat (by omega) ((HOL.out.below hbX).below hb) ⟨hFit.k,hFit.n,hFit.i,⟨by show (-9223372036854775808 : Int) ≤ 0; omega,by show (0 : Int) ≤ 9223372036854775807; omega⟩,hFit.b,hFit.l⟩ hsq
    refine this.mono ?_
    rintro e w' ⟨rfl,hb'⟩
    exact ⟨rfl,hb.trans (hb'.mono hb.size)⟩
   have HAs : Hid (∀ W,Below X.heap.size X W → Calls Tryz.prog 13 #[.pointer (some ⟨p,0,none⟩), .int .i64 (pickI o.N r.n), .agg #[.int .i64 (r.entry { o with A := 0 }).client, .int .i64 (r.entry { o with A := 0 }).seq, .int .i64 (r.entry { o with A := 0 }).kind, .int .i64 (r.entry { o with A := 0 }).key, .int .i64 (r.entry { o with A := 0 }).value]] W fun e w' => (∃ v,e = .returned v) ∧ RunAt w w' p x (r.ask (pickI o.N r.n) (r.entry { o with A := 0 })) ∧ w'.heap[wr.heap.size]? = some (.cells #[.int .i64 o.kind, .int .i64 o.N, .int .i64 o.I, .int .i64 0, .int .i64 o.B, .slice aO o.L.length cO] 31)) := hideA fun W hb => by
    obtain ⟨q1,q2,q3⟩ := HK.out W hb
    refine (kask_in (w0 := w) (pickI o.N r.n) (r.entry { o with A := 0 }) q1 HN.out q3 hm hd he (by omega) (by omega)).mono ?_
    rintro e w' ⟨⟨v,rfl⟩,hA,hKp⟩
    refine ⟨⟨v,rfl⟩,hA,(hKp wr.heap.size (Array.getElem?_eq_some_iff.1 q2).1 ?_).trans q2⟩
    exact fun e => e.elim (fun e => Nat.lt_irrefl _ (cApi.lt hR.clu e)) (fun e => Nat.lt_irrefl _ (hR.ownLt e))
   have HQ2 := hideA (And.intro hQ2 (And.intro hq1 (And.intro hq2 hq3)))
   have HFi := hideA hfine
   rw [hqe] at HQ2
   clear hqe hQ2 hq1 hq2 hq3 hfine
   generalize r.entry { o with A := 0 } = en at *
   generalize pickI o.N r.n = dn at *
   clear hR hRX hnn hOL hM hcells hF hQ hgood hm he
   go_wp2_with fail
   go_region_held3 (fun w' => w'.cell? ⟨p,1,none⟩ = some (.int .i64 (r.n : Int)) ∧ w'.cell? ⟨wr.heap.size,0,none⟩ = some (.int .i64 o.kind) ∧ w'.cell? ⟨wr.heap.size,1,none⟩ = some (.int .i64 o.N) ∧ w'.cell? ⟨wr.heap.size,2,none⟩ = some (.int .i64 o.I) ∧ w'.cell? ⟨wr.heap.size,3,none⟩ = some (.int .i64 0) ∧ w'.cell? ⟨wr.heap.size,4,none⟩ = some (.int .i64 o.B) ∧ w'.cell? ⟨wr.heap.size,5,none⟩ = some (.slice aO o.L.length cO)) (first | (refine ⟨?_, ?_, ?_, ?_, ?_, ?_, ?_⟩ <;> first | assumption | (simp [go_sem, *]; done)) | (simp [go_sem]; done) | go_keep)
    (first
     | (go_at_call 14; refine (HP.out _).mono ?_; rintro e W9 ⟨rfl,rfl⟩)
     | (go_at_call 15; refine (HE.out _ hbd).mono ?_; rintro e V ⟨rfl,hbV⟩; have HbV := hideA hbV; have v1 : V.cell? ⟨p,1,none⟩ = some (.int .i64 (r.n : Int)) := cell_of_heap (HK.out V hbV).1.blk 1; have y0 := cell_of_heap (HK.out V hbV).2.1 0; have y1 := cell_of_heap (HK.out V hbV).2.1 1; have y2 := cell_of_heap (HK.out V hbV).2.1 2; have y3 := cell_of_heap (HK.out V hbV).2.1 3; have y4 := cell_of_heap (HK.out V hbV).2.1 4; have y5 := cell_of_heap (HK.out V hbV).2.1 5; clear hbV)
     | (go_at_call 13; refine (HAs.out _ HbV.out).mono ?_; rintro e W ⟨⟨v9,rfl⟩,hSt,hbox⟩; have HSt := hideA hSt; obtain ⟨_,_,_,_,_,hRz,_,_⟩ := hSt; have x1 : W.cell? ⟨p,1,none⟩ = some (.int .i64 (r.n : Int)) := cell_of_heap hRz.blk 1; have z0 := cell_of_heap hbox 0; have z1 := cell_of_heap hbox 1; have z2 := cell_of_heap hbox 2; have z3 := cell_of_heap hbox 3; have z4 := cell_of_heap hbox 4; have z5 := cell_of_heap hbox 5; clear hbox hRz))
   all_goals (
    clear c1 g0 g1 g2 g3 g4 g5 v1 y0 y1 y2 y3 y4 y5 z0 z1 z2 z3 z4 z5 x1 HP HE HAs s0 s1 s2 s3 s4 s5
    go_wp2_with fail
    refine (kdrain_any HSt.out HFi.out (by omega)).mono ?_
    rintro e T ⟨⟨v9,rfl⟩,hAT,hFT⟩
    generalize Run.drain 5000 (r.ask dn en) = r2 at *
    have HT := hideA (And.intro hAT hFT)
    obtain ⟨FX2,FR2,vW2,vF2,vL2,hR2,hn2,hb2⟩ := hAT
    obtain ⟨E2,g2,hri2⟩ := hFT.ri
    have hfix := HQ2.out.1.fixed
    rw [List.length_append,List.length_singleton,hLk] at hfix
    have hans := HQ2.out.2.2.2
    rw [hLk] at hans
    have hll2 := HQ2.out.2.1
    have hrn2 := HQ2.out.1.nn
    obtain ⟨aF,cF,hvF⟩ := owns_shape hR2.hF
    subst hvF
    obtain ⟨aL,cL,hvL⟩ := hR2.hL.shape
    subst hvL
    have HR2 := hideA hR2
    have t1 : T.cell? ⟨p,1,none⟩ = some (.int .i64 (r2.n : Int)) := cell_of_heap hR2.blk 1
    have t3 : T.cell? ⟨p,3,none⟩ = some (.slice aF r2.fixed.length cF) := cell_of_heap hR2.blk 3
    have t4 : T.cell? ⟨p,4,none⟩ = some (.slice aL r2.last.length cL) := cell_of_heap hR2.blk 4
    have t7 : T.cell? ⟨p,7,none⟩ = some (.int .i64 (r2.answers : Int)) := cell_of_heap hR2.blk 7
    have t9 : T.cell? ⟨p,9,none⟩ = some (.bool r2.ok) := cell_of_heap hR2.blk 9
    have t10 : T.cell? ⟨p,10,none⟩ = some (.bool r2.agreed) := cell_of_heap hR2.blk 10
    have t12 : T.cell? ⟨p,12,none⟩ = some (.bool r2.told) := cell_of_heap hR2.blk 12
    rw [hrn2] at t1
    rw [hfix] at t3
    rw [hll2] at t4
    rw [hans] at t7
    rw [hri2.mid.flags.1] at t9
    rw [hri2.mid.flags.2.1] at t10
    rw [hri2.mid.flags.2.2.2.1] at t12
    clear hR2 hri2 hFT
    go_wp2_with fail
    go_loopw [8] (fun i wr => ∃ j : Nat,j ≤ n ∧ i = .int .i64 j ∧ wr = T) (fun i _ => n - (intOf i).toNat)
    case atStart => exact ⟨0,Nat.zero_le _,rfl,rfl⟩
    case round =>
     obtain ⟨j,hj,rfl,rfl⟩ := hrel
     by_cases hlt2 : j < n
     ·have hj1 : (j : Int) < (n : Int) := by omega
      have hak : r2.last[j]? = some (r2.last[j]'(by omega)) := List.getElem?_eq_getElem (by omega)
      have hall := HQ2.out.2.2.1 _ (List.mem_of_getElem? hak)
      generalize r2.last[j]'(by omega) = s at *
      rw [hLk] at hall
      obtain ⟨gL,capL,am,cm,al,cl,hv,j1,j2,hcl,hcells⟩ := HR2.out.hL.at j s hak
      rw [hll2] at hv
      cases hv
      have z3 : wr.cell? ⟨gL,j * 6 + 3,none⟩ = some (.int .i64 (s.commit : Int)) := hcells 3 (by omega)
      have z5 : wr.cell? ⟨gL,j * 6 + 5,none⟩ = some (.slice al s.log.length cl) := hcells 5 (by omega)
      rw [hall.1] at z3
      rw [hall.2] at z5
      clear hcells j1 j2 hall
      go_wp2_with fail
      go_roundw
      case rel => exact ⟨j + 1,by omega,by go_num,by trivial⟩
      case measure => simp [intOf]; omega
     ·obtain rfl : j = n := by omega
      go_wp2_with fail
      go_roundw
      case rel => exact ⟨k + 1,by omega,by omega,by go_num,r2,_,HT.out.1,by have := HT.out.2; rwa [show 5000 + 5000 * (k + 1) = 5000 + 5000 * k + 5000 by omega],HQ2.out.1,by rw [List.length_append,List.length_singleton]; omega⟩
      case measure => simp [intOf]; omega)
  ·have hb9 := hb0
   clear hR hnn hb0 hF hQ
   by_cases hl1 : k < l.length
   ·have hk1 : (k : Int) < (l.length : Int) := by omega
    obtain rfl : k = 22 := by omega
    go_wp2_with fail
    go_ret
    exact ⟨rfl,hb9⟩
   ·obtain rfl : k = l.length := by omega
    go_wp2_with fail
    go_ret
    exact ⟨rfl,hb9⟩
end Go.Proofs.YtgieeeeeiggoeaaGreat
namespace Go.Proofs.YtgieeeeeiggoeaaGreat
open Go.ChangeShapes Go.WideShapes Go.ChangeAt Go.RowKit
set_option linter.unusedVariables false
theorem quick_own : ownKnob Tryz.prog.godebug = none := by kernel_rfl
theorem quick_laidOut : laidOutB Tryz.prog = true := by kernel_rfl
set_option maxRecDepth 100000 in
theorem quick_lifted (os : Os) (started : os.Started) (H : Type) (enc : TypeId × Value → H) :
  ReturnsInHanded {} Tryz.checked os 6 .any (Rows.quickSpec.pre6 enc Tryz.prog Tryz.f6 Rows.quickRow.domain false) (Rows.quickSpec.post enc Tryz.prog Tryz.f6 false true false false) := by
 refine returnsInHanded_of_change_sized (C := Tryz.checked) quick_own started (by kernel_rfl) Tryz.func6
  (ChangeSpec.witness6 (enc := enc) (C := Tryz.checked) false ⟨#[], #[.int .i64 0, .slice none 0 0], []⟩ 8 (by kernel_rfl) (by kernel_rfl) (by kernel_rfl) (by kernel_rfl)) ?_
 intro W base args ds gs before hval0 hW hcnd hsz0 _
 have hval : ∀ (j : Nat) t v,Tryz.f6.params[j]? = some t → args[j]? = some v → Value.okWide Tryz.prog W .any base t v := hval0
 have hsz : (DataW.weightsEach Tryz.prog (Tryz.f6.params.toList ++ Rows.quickSpec.plain.varTypes Tryz.prog) (ds ++ gs)).all (· ≤ reachBytes) = true := hsz0
 have hW' := hW
 obtain ⟨p,q,hA0,hV,rfl,hfz,hnd⟩ := hW
 have hA : DataW.TrodAll enc Tryz.prog W 0 (fun _ => true) true Tryz.f6.params.toList args.toList ds p := hA0
 rw [Tryz.params6] at hA hval hsz
 obtain ⟨v0,vs0,d0,ds0,p0,q0,hargs,rfl,rfl,h0,r0⟩ := trodAll_cons hA
 obtain ⟨v1,vs1,d1,ds1,p1,q1,rfl,rfl,rfl,h1,r1⟩ := trodAll_cons r0
 obtain ⟨rfl,rfl,rfl⟩ := trodAll_nil r1
 obtain rfl : args = #[v0,v1] := by cases args; simp_all
 obtain ⟨rfl,rfl⟩ := trodVars_none hV
 obtain ⟨z,rfl,rfl,rfl,hz⟩ := open_int Tryz.underlying3 (hval 0 3 v0 rfl rfl) h0
 have k1 := h1
 have lt1 : ∀ x ∈ p1,x.block < W.heap.size := by obtain ⟨m,hm⟩ := k1; exact DataW.trod_lt m _ _ _ hm
 obtain ⟨a1,len1,cap1,rfl⟩ := okWide_slice Tryz.underlying26 (hval 1 26 v1 rfl rfl)
 obtain ⟨fuel,hf1⟩ := h1
 obtain ⟨l,hl,hsize⟩ := open_script (v := .slice a1 len1 cap1) hf1
 have hlen : l.length ≤ 2299999999999 := by
  rcases hsize with rfl | ⟨el,sp,hp,hn⟩
  ·simp
  ·have hp' : d1 = .slice el sp := hp
   subst hp'
   have g1 : (el.length + sp.length) * Tryz.prog.bytesOf 31 ∈ DataW.weights Tryz.prog 26 (.slice el sp) := by simp [DataW.weights,Tryz.underlying26]
   have g2 := DataW.weights_mem_each (P := Tryz.prog) (ts := [3,26] ++ Rows.quickSpec.plain.varTypes Tryz.prog) (ds := [.lit (.int .i64 z), .slice el sp] ++ []) (j := 1) rfl rfl _ g1
   have g3 := List.all_eq_true.1 hsz _ g2
   have g4 : (el.length + sp.length) * 64 ≤ reachBytes := by rw [scr_bytes] at g3; exact of_decide_eq_true g3
   simp only [reachBytes] at g4
   omega
 clear hA0 hval0 hsz hsz0 hsize
 have b := bounds_i64 hz
 refine (Quick_any z (.slice a1 len1 cap1) l W b.1 b.2 hl hlen).mono fun e W' ⟨he,bel⟩ => ?_
 subst he
 exact ⟨_,rfl,_,_,_, [],_, [],hW',trodAll_mk1 (shut_bool Tryz.underlying4 _),(trodAll_cons_mk (shut_int Tryz.underlying3 hz) (trodAll_cons_mk (Below.trod quick_laidOut (by kernel_rfl) (of_decide_eq_true (by kernel_rfl)) k1 bel lt1) trodAll_mk0)),rfl,bel.frame _,fun h => by cases h⟩
theorem quick_over : Rows.quickRow.holds Tryz.pinned (OpenSpec.ofChange Rows.quickSpec) :=
 OpenClaim.holds_of_wide 6 Tryz.f6 rfl rfl rfl rfl rfl rfl rfl ⟨rfl,rfl,rfl,rfl,rfl⟩ rfl rfl rfl rfl rfl (by kernel_rfl) Tryz.func6 (by kernel_rfl)
  (of_decide_eq_true (by kernel_rfl)) (by unfold Func.isWrapper; first | (rw [if_pos (by decide +kernel)]; kernel_rfl) | (rw [if_neg (by decide +kernel)]; exact ⟨rfl,rfl⟩))
  (fun os started H enc _ => quick_lifted os started H enc)
theorem quick_proved : Rows.QuickSaid := quick_over
end Go.Proofs.YtgieeeeeiggoeaaGreat
