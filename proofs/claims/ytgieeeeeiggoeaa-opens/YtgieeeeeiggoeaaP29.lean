import Derived.Test.YtgieeeeeiggoeaaP28
import Derived.Test.YtgieeeeeiggoeaaP20
import Derived.Test.YtgieeeeeiggoeaaP26
namespace Go.Proofs.Ytgieeeeeiggoeaa
open Go.RowKit Go.Shelf
theorem sta_flat (n : Nat) (b : Nat → Nat) : ∀ (m j t : Nat), j < m → t < 3 → ((List.range m).flatMap (staOf n b))[j * 3 + t]? = (staOf n b j)[t]? := by
 intro m
 induction m with
 | zero => intro j t hj; omega
 | succ m ih =>
  intro j t hj ht
  have hl : ((List.range m).flatMap (staOf n b)).length = m * 3 := by
   rw [List.length_flatMap]
   have : (List.range m).map (fun a => (staOf n b a).length) = (List.range m).map (fun _ => 3) := List.map_congr_left fun a _ => rfl
   rw [this]
   simp [List.map_const']
  rw [sta_snoc]
  by_cases e : j = m
  ·subst e
   rw [List.getElem?_append_right (by omega), hl, show j * 3 + t - j * 3 = t by omega]
  ·rw [List.getElem?_append_left (by omega)]
   exact ih j t (by omega) ht
theorem Built.done {w0 w : World} {x n : Nat} {b : Nat → Nat} {Fn : Nat → Nat → Prop} {vs vr va vm : Value} (h : Built w0 w x n (n + 5) b Fn vs vr va vm) (h1 : 1 ≤ n) (h5 : n ≤ 5) :
  ∃ F, CAt w F x (Clu.first n) ∧ ∀ k, F k → w0.heap.size ≤ k := by
 have hn : (Clu.first n).reps.length = n := by simp [Clu.first]
 obtain ⟨gs, cap, hv, -, -⟩ := h.rs.form (by omega)
 subst hv
 obtain ⟨cs, hcs, -⟩ := ownBlock_cells h.rs (k := gs) rfl
 obtain ⟨_, _, hcapv, hcap⟩ := own_cap h.rs
 cases hcapv
 have hO : ∀ z, OwnS x gs vr va vm (.slice none 0 0) (.slice none 0 0) z → OwnB x (.slice (some ⟨gs, 0, none⟩) (n + 5) cap) vr va vm z := by
  rintro z (e | e | e | e | e | e | e)
  ·exact .inl e
  ·exact .inr (.inl (by rw [e]; rfl))
  ·exact .inr (.inr (.inl e))
  ·exact .inr (.inr (.inr (.inl e)))
  ·exact .inr (.inr (.inr (.inr e)))
  ·exact absurd e no_row
  ·exact absurd e no_row
 have hlt : ∀ z, OwnB x (.slice (some ⟨gs, 0, none⟩) (n + 5) cap) vr va vm z → z < w.heap.size := by
  intro z hz
  have key : ∀ {base size n : Nat} {e : TypeId} {v : Value} {xs : List Value}, w.ownsRow base e size v n xs → v.ownBlock = some z → z < w.heap.size := fun hr e => (Array.getElem?_eq_some_iff.1 (ownBlock_cells hr e).choose_spec.1).1
  rcases hz with e | e | e | e | e
  ·rw [e]; exact (Array.getElem?_eq_some_iff.1 h.blk).1
  ·exact key h.rs e
  ·exact key h.rr e
  ·exact key h.ra e
  ·exact key h.rm e
 have hnodj : ∀ j, j < n + 5 → (Clu.first n).nod j = firstNod n j := fun j hj => nod_first n j hj
 refine ⟨fun z => OwnB x (.slice (some ⟨gs, 0, none⟩) (n + 5) cap) vr va vm z ∨ ∃ j, j < n + 5 ∧ Fn j z, ⟨gs, cap, b, Fn, vr, va, vm, .slice none 0 0, .slice none 0 0, ?_⟩, ?_⟩
 ·refine ⟨?_, ?_, ?_, ?_, ?_, ?_, ?_, ?_, ?_, ?_, ?_, ?_, ?_, ?_, ?_, rfl, rfl⟩
  ·rw [hn]
   exact ⟨h.blk, World.ownsRow_nil _ _ _ _⟩
  ·rw [hn]
   refine ⟨cs, hcs, fun j hj => ?_⟩
   have key : ∀ t, t < 3 → cs[j * 3 + t]? = (staOf n b j)[t]? := fun t ht => by
    rw [← cell_of_heap hcs (j * 3 + t), World.ownsRow.cellAt h.rs (j * 3 + t) (by omega)]
    exact sta_flat n b (n + 5) j t hj ht
   have hup : (firstNod n j).up = true := by
    unfold firstNod
    split
    ·rfl
    ·split <;> rfl
   unfold Clu.sta
   rw [hn, hnodj j hj, hup]
   exact ⟨key 0 (by omega), key 1 (by omega), key 2 (by omega)⟩
  ·rw [hn]; exact hcap
  ·rw [hn]
   have := h.rr
   rwa [show min (n + 5) n = n by omega] at this
  ·rw [hn]
   have := h.ra
   rwa [show min (n + 5 - n) 3 = 3 by omega] at this
  ·rw [hn]
   have := h.rm
   rwa [show n + 5 - n - 3 = 2 by omega] at this
  ·exact World.ownsRow_nil _ _ _ _
  ·intro j hj
   rw [hn] at hj ⊢
   rw [hnodj j hj]
   exact h.nod j hj
  ·intro i j hi hj
   rw [hn] at hi hj
   exact h.sep i j hi hj
  ·intro j hj z hz hz2
   rw [hn] at hj
   exact h.off j hj z hz (hO z hz2)
  ·exact fun z hz => .inl (hO z hz)
  ·intro j hj z hz
   rw [hn] at hj
   exact .inr ⟨j, hj, hz⟩
  ·rintro z (hz | ⟨j, hj, hz⟩)
   ·exact hlt z hz
   ·exact (h.nod j hj).lt hz
  ·rw [hn]; exact h1
  ·rw [hn]; exact h5
 ·rintro z (hz | ⟨j, hj, hz⟩)
  ·exact h.newO z hz
  ·exact h.newN j hj z hz
set_option maxRecDepth 100000 in
theorem cluNew_any (n : Nat) (w : World) (h1 : 1 ≤ n) (h5 : n ≤ 5) :
  Calls Try.prog 43 #[.agg #[.int .i64 (n : Int)]] w fun e w' => ∃ x F, e = .returned (.tuple #[.pointer (some ⟨x, 0, none⟩), .int .i64 0]) ∧ CAt w' F x (Clu.first n) ∧ (∀ k, F k → w.heap.size ≤ k) ∧ Below w.heap.size w w' := by
 have HC := fun W => hideA (newCluster_any n W h1 h5)
 have l1 : ¬ (n : Int) < 1 := by omega
 have l2 : ¬ (5 : Int) < (n : Int) := by omega
 go_enter Try.func43, Try.ntmps43
 go_upto_region 1 with fail
 obtain ⟨X, hX, hbX, hM⟩ := box_more1 w #[.int .i64 (n : Int)] 80
 rw [hX]
 clear hX
 have c0 := cell_of_heap hM 0
 clear hM
 go_wp2_with fail
 refine (HC X).out.mono ?_
 rintro e W ⟨b, Fn, vs, vr, va, vm, rfl, hB⟩
 have HB := hideA hB
 clear hB c0
 go_wp2_with fail
 go_ret2
 obtain ⟨F, q1, q2⟩ := HB.out.done h1 h5
 have hs := hbX.size
 exact ⟨_, F, rfl, q1, fun k hk => by have := q2 k hk; omega, hbX.trans (HB.out.bel.mono hs)⟩
set_option maxRecDepth 100000 in
set_option maxHeartbeats 1000000 in
theorem refNew_no (n : Int) (w : World) (hn : ¬ (1 ≤ n ∧ n ≤ 5)) : Calls Try.prog 44 #[.agg #[.int .i64 n]] w fun e w' => e = .returned (.tuple #[.pointer none, .int .i64 3]) ∧ Below w.heap.size w w' := by
 obtain ⟨C, hC, hbC, hMC⟩ := box_more1 w #[.int .i64 n] 80
 have cC : C.cell? ⟨w.heap.size, 0, none⟩ = some (.int .i64 n) := cell_of_heap hMC 0
 clear hMC
 by_cases h1 : n < 1
 ·go_enter Try.func44, Try.ntmps44
  go_wp2_with fail
  go_ret2
  exact ⟨rfl, hbC⟩
 ·have h5 : 5 < n := by omega
  go_enter Try.func44, Try.ntmps44
  go_wp2_with fail
  go_ret2
  exact ⟨rfl, hbC⟩
set_option maxRecDepth 100000 in
set_option maxHeartbeats 1000000 in
theorem cluNew_no (n : Int) (w : World) (hn : ¬ (1 ≤ n ∧ n ≤ 5)) : Calls Try.prog 43 #[.agg #[.int .i64 n]] w fun e w' => e = .returned (.tuple #[.pointer none, .int .i64 3]) ∧ Below w.heap.size w w' := by
 obtain ⟨C, hC, hbC, hMC⟩ := box_more1 w #[.int .i64 n] 80
 have cC : C.cell? ⟨w.heap.size, 0, none⟩ = some (.int .i64 n) := cell_of_heap hMC 0
 clear hMC
 by_cases h1 : n < 1
 ·go_enter Try.func43, Try.ntmps43
  go_wp2_with fail
  go_ret2
  exact ⟨rfl, hbC⟩
 ·have h5 : 5 < n := by omega
  go_enter Try.func43, Try.ntmps43
  go_wp2_with fail
  go_ret2
  exact ⟨rfl, hbC⟩
theorem infoPPair : (Try.prog.info? 87).map (fun i => (i.zero, i.size, i.bytes)) = some (some (.pointer none), 1, 8) := by kernel_rfl
theorem CAt.lt' {w : World} {F : Nat → Prop} {x : Nat} {c : Clu} (h : CAt w F x c) {k : Nat} (hk : F k) : k < w.heap.size := by
 obtain ⟨_, _, _, _, _, _, _, _, _, h⟩ := h
 exact h.lt k hk
theorem RefAt.lt' {w : World} {F : Nat → Prop} {y : Nat} {c : Clu} (h : RefAt w F y c) {k : Nat} (hk : F k) : k < w.heap.size := by
 obtain ⟨_, _, _, _, _, _, _, h⟩ := h
 exact h.lt k hk
theorem LawIn.ltP {w0 w : World} {B : Nat} {x5 : Value} {M : Nat} {b : Bk} {ps : List Pr} {vC vI vL vT vA : Value} (h : LawIn w0 w B x5 M b ps vC vI vL vT vA) (p : Pr) (hp : p ∈ ps) (k : Nat) (hk : p.F k) : k < w.heap.size := by
 obtain ⟨_, _, _, _, _, _, _, h6⟩ := h.prs p hp
 exact h6 k hk
theorem LawIn.pair {w0 w W2 : World} {B : Nat} {x5 : Value} {M : Nat} {b : Bk} {ps : List Pr} {vC vI vL vT vA : Value} {x y : Nat} {c : Clu} {FX FY : Nat → Prop} (h : LawIn w0 w B x5 M b ps vC vI vL vT vA) (hb : Below w.heap.size w W2) (hX : CAt W2 FX x c) (hY : RefAt W2 FY y c) (hFX : ∀ k, FX k → w.heap.size ≤ k) (hFY : ∀ k, FY k → w.heap.size ≤ k) (hXY : ∀ k, FX k → ¬ FY k) (hn : ps.length ≤ 1000000000) :
  ∃ g' cap' W3, (∀ ty, (Builtin.append_ #[49, 49] ty #[vC, .slice (some ⟨W2.heap.size + 1, 0, none⟩) 1 1]).run Try.prog ((W2.alloc (.cells #[.pointer (some ⟨x, 0, none⟩), .pointer (some ⟨y, 0, none⟩)] 89)).alloc (.cells #[.pointer (some ⟨W2.heap.size, 0, none⟩)] 87)) = .ok (.slice (some ⟨g', 0, none⟩) (ps.length + 1) cap') W3) ∧
   W3.cell? ⟨B, 0, none⟩ = some vC ∧ W3.frozen? ⟨B, 0, none⟩ = false ∧ LawAt w0 (W3.setCell ⟨B, 0, none⟩ (.slice (some ⟨g', 0, none⟩) (ps.length + 1) cap')) B x5 M (ps ++ [⟨W2.heap.size, x, y, c, fun k => k = W2.heap.size ∨ FX k ∨ FY k⟩]) := by
 obtain ⟨X, hXe⟩ : ∃ X, X = W2.alloc (.cells #[.pointer (some ⟨x, 0, none⟩), .pointer (some ⟨y, 0, none⟩)] 89) := ⟨_, rfl⟩
 have hsX : X.heap.size = W2.heap.size + 1 := by rw [hXe]; simp
 have hbX : Below W2.heap.size W2 X := by rw [hXe]; exact (Below.refl _ W2).alloc (Nat.le_refl _) _
 have hMq : X.heap[W2.heap.size]? = some (.cells #[.pointer (some ⟨x, 0, none⟩), .pointer (some ⟨y, 0, none⟩)] 89) := by rw [hXe]; exact heap_new _ _
 have hbZ : Below X.heap.size X (X.alloc (.cells #[.pointer (some ⟨W2.heap.size, 0, none⟩)] 87)) := (Below.refl _ X).alloc (Nat.le_refl _) _
 have hnew : (X.alloc (.cells #[.pointer (some ⟨W2.heap.size, 0, none⟩)] 87)).heap[W2.heap.size + 1]? = some (.cells [Value.pointer (some ⟨W2.heap.size, 0, none⟩)].toArray 87) := by
  have := heap_new X (.cells #[.pointer (some ⟨W2.heap.size, 0, none⟩)] 87)
  rw [hsX] at this
  exact this
 have hsZ : (X.alloc (.cells #[.pointer (some ⟨W2.heap.size, 0, none⟩)] 87)).heap.size = W2.heap.size + 2 := by rw [World.size_alloc, hsX]
 generalize hZ : X.alloc (.cells #[.pointer (some ⟨W2.heap.size, 0, none⟩)] 87) = Z at *
 have hbWZ : Below w.heap.size w Z := hb.trans ((hbX.trans (hbZ.mono hbX.size)).mono hb.size)
 have hb2Z : Below W2.heap.size W2 Z := hbX.trans (hbZ.mono hbX.size)
 have IZ := h.below hbWZ
 have hBl := h.book.bs
 obtain ⟨g', cap', W3, hrun, ho1, hg1, hwh⟩ := append_row (t := 49) infoPPair Try.underlying49 rfl (by decide) Z (B + 1) vC ps.length (ps.map fun p => Value.pointer (some ⟨p.q, 0, none⟩)) [.pointer (some ⟨W2.heap.size, 0, none⟩)] (W2.heap.size + 1) IZ.row hnew rfl (by intro u hu; rw [List.mem_singleton] at hu; subst hu; rfl) (by omega) (by decide) (by have := hbWZ.size; omega)
 have hw2 := hb.size
 have hBZ : B < Z.heap.size := by omega
 have nb : vC.ownBlock ≠ some B := fun e => by have := (IZ.row.lt B e).1; omega
 have hBW : W3.heap[B]? = some (.cells #[vC, vI, vL, vT, vA, x5] 51) := (hg1.block B hBZ (fun e => nb e.symm)).trans IZ.book.blk
 obtain ⟨U, hU⟩ : ∃ U, U = W3.setCell ⟨B, 0, none⟩ (.slice (some ⟨g', 0, none⟩) (ps.length + 1) cap') := ⟨_, rfl⟩
 have hMv : Moved Z U (fun z => z = B ∨ vC.ownBlock = some z) := by
  rw [hU]
  exact ((Moved.refl Z _).grown hg1 (fun z _ e => .inr e)).setCell ⟨B, 0, none⟩ (.inl rfl) _
 have hsU := hMv.size
 have hblU : U.heap[B]? = some (.cells #[.slice (some ⟨g', 0, none⟩) (ps.length + 1) cap', vI, vL, vT, vA, x5] 51) := by
  rw [hU]
  exact heap_setCell_same _ _ _ _ _ _ hBW
 have hkeep : ∀ {base size n : Nat} {e : TypeId} {v : Value} {xs : List Value}, Z.ownsRow base e size v n xs → e ≠ 51 → e ≠ 87 → U.ownsRow base e size v n xs := fun ho h1 h2 => hMv.owns ho fun z hz hS => by
  rcases hS with e | e
  ·exact blk_type IZ.book.blk ho h1 (e ▸ hz)
  ·exact owns_two ho IZ.row h2 z hz e
 have hg'n : vC.ownBlock = some g' ∨ W2.heap.size + 2 ≤ g' := hwh.imp id (fun e => by omega)
 have hCn : ∀ z, (Value.slice (some ⟨g', 0, none⟩) (ps.length + 1) cap').ownBlock = some z → vC.ownBlock = some z ∨ W2.heap.size + 2 ≤ z := fun z e => by
  have hg : g' = z := by simpa [Value.ownBlock] using e
  subst hg
  exact hg'n
 have hold : ∀ z, vC.ownBlock = some z → z < w.heap.size := fun z e => (Array.getElem?_eq_some_iff.1 (ownBlock_cells h.row e).choose_spec.1).1
 have hFlt : ∀ k, k = W2.heap.size ∨ FX k ∨ FY k → w.heap.size ≤ k ∧ k < W2.heap.size + 1 := fun k hk => by
  rcases hk with e | e | e
  ·omega
  ·have := hFX k e
   have := hX.lt' e
   omega
  ·have := hFY k e
   have := hY.lt' e
   omega
 have hFU : ∀ k, k = W2.heap.size ∨ FX k ∨ FY k → U.heap[k]? = Z.heap[k]? := fun k hk => hMv.block k (by have := (hFlt k hk).2; omega) (fun hS => by
  have h1 := (hFlt k hk).1
  rcases hS with e | e
  ·omega
  ·have := hold k e
   omega)
 refine ⟨g', cap', W3, fun ty => by rw [← hXe, hZ]; exact hrun ty, cell_of_heap hBW 0, frozen_of_heap hBW 0, b, .slice (some ⟨g', 0, none⟩) (ps.length + 1) cap', vI, vL, vT, vA, ?_⟩
 rw [← hU]
 have hbook : BookIn U B (B + 1) (.slice (some ⟨g', 0, none⟩) (ps.length + 1) cap') x5 b vI vL vT vA :=
  {blk := hblU
   rI := hkeep IZ.book.rI (by decide) (by decide)
   rL := hkeep IZ.book.rL (by decide) (by decide)
   rT := hkeep IZ.book.rT (by decide) (by decide)
   rA := hkeep IZ.book.rA (by decide) (by decide)
   eI := fun i p hp => ⟨(IZ.book.eI i p hp).1, hkeep (IZ.book.eI i p hp).2 (by decide) (by decide)⟩
   eL := fun i p hp => ⟨(IZ.book.eL i p hp).1, hkeep (IZ.book.eL i p hp).2 (by decide) (by decide)⟩
   eT := fun i p hp => ⟨(IZ.book.eT i p hp).1, hkeep (IZ.book.eT i p hp).2 (by decide) (by decide)⟩
   eA := fun i p hp => ⟨(IZ.book.eA i p hp).1, hkeep (IZ.book.eA i p hp).2 (by decide) (by decide)⟩
   bb := IZ.book.bb
   bs := Nat.le_trans IZ.book.bs hsU
   fours := IZ.book.fours }
 refine ⟨hbook, ?_, fun p hp => ?_, fun p hp k hk => ?_, h.small, ?_, h.new⟩
 ·have hr := ownsRow_setCell_other (a := ⟨B, 0, none⟩) ho1 (fun e => by have := (ho1.lt B e).1; omega) (.slice (some ⟨g', 0, none⟩) (ps.length + 1) cap')
  rw [← hU] at hr
  rw [List.length_append, List.map_append]
  exact hr
 ·rcases List.mem_append.1 hp with hp | hp
  ·refine (IZ.prs p hp).keep fun k hk => hMv.block k (IZ.ltP p hp k hk) (fun hS => ?_)
   have ho := h.off p hp k hk
   rcases hS with e | e
   ·omega
   ·exact ho.2.2 e
  ·rw [List.mem_singleton] at hp
   subst hp
   have hX' : CAt U FX x c := by
    obtain ⟨gs, cap, b, Fn, vr, va, vm, vb, vt, h2⟩ := hX
    exact ⟨gs, cap, b, Fn, vr, va, vm, vb, vt, h2.keep fun k e => (hFU k (.inr (.inl e))).trans (hb2Z.block k (h2.lt k e))⟩
   exact ⟨FX, FY, (hFU _ (.inl rfl)).trans ((hbZ.block _ (by omega)).trans hMq), hX', hY.keep fun k e => (hFU k (.inr (.inr e))).trans (hb2Z.block k (hY.lt' e)), fun k e => e, hXY, fun k e => by have := (hFlt k e).2; omega⟩
 ·rcases List.mem_append.1 hp with hp | hp
  ·obtain ⟨o1, o2, o3⟩ := h.off p hp k hk
   refine ⟨o1, o2, fun e => ?_⟩
   rcases hCn k e with q | q
   ·exact o3 q
   ·have := h.ltP p hp k hk
    omega
  ·rw [List.mem_singleton] at hp
   subst hp
   have hk' := hFlt k hk
   refine ⟨by omega, fun e => ?_, fun e => ?_⟩
   ·have := Bk.lt h.book e
    omega
   ·rcases hCn k e with q | q
    ·have := hold k q
     omega
    ·omega
 ·have hnw := h.new
  refine IZ.be.trans (hMv.to_below (fun z q => ?_) IZ.be.size)
  rcases q with q | q
  ·omega
  ·have := (h.row.lt z q).1
   omega
set_option maxRecDepth 100000 in
set_option maxHeartbeats 2000000 in
theorem lawOpened_any {w0 w : World} {B : Nat} {x5 : Value} {M : Nat} {ps : List Pr} (n : Int) (h : LawAt w0 w B x5 M ps) (hn : ps.length ≤ 1000000000) :
  Calls Try.prog 20 #[.pointer (some ⟨B, 0, none⟩), .int .i64 n] w fun e w' => e = .returned (.bool true) ∧ ∃ ps', LawAt w0 w' B x5 M ps' ∧ ((1 ≤ n ∧ n ≤ 5 ∧ ∃ p, p.c = Clu.first n.toNat ∧ ps' = ps ++ [p]) ∨ (¬ (1 ≤ n ∧ n ≤ 5) ∧ ps' = ps)) := by
 obtain ⟨b, vC, vI, vL, vT, vA, h⟩ := h
 obtain ⟨C, hC, hbC, hMC⟩ := box_more1 w #[.int .i64 n] 80
 have cC : C.cell? ⟨w.heap.size, 0, none⟩ = some (.int .i64 n) := cell_of_heap hMC 0
 have HMC := hideA hMC
 have hCs := (Array.getElem?_eq_some_iff.1 hMC).1
 have HL := hideA h
 clear h hMC
 by_cases hin : 1 ≤ n ∧ n ≤ 5
 ·obtain ⟨m, rfl⟩ : ∃ m : Nat, n = (m : Int) := ⟨n.toNat, by omega⟩
  have HN := hideA (cluNew_any m C (by omega) (by omega))
  go_enter Try.func20, Try.ntmps20
  go_wp2_with fail
  refine HN.out.mono ?_
  rintro e W1 ⟨x, FX, rfl, hX, hFX, hb1⟩
  have c1 := cell_later hb1 cC
  have HX := hideA (And.intro hX hFX)
  have HR := hideA (refNew_any m W1 (by omega) (by omega))
  clear hX hFX cC
  go_wp2_with fail
  refine HR.out.mono ?_
  rintro e W2 ⟨y, FY, rfl, hY, hFY, hb2⟩
  have hs1 := hb1.size
  have hbC2 := hbC.size
  have hb12 := (hbC.trans (hb1.mono hbC.size)).trans (hb2.mono (Nat.le_trans hbC.size hb1.size))
  have hX2 : CAt W2 FX x (Clu.first m) := by
   obtain ⟨gs, cap, b, Fn, vr, va, vm, vb, vt, h2⟩ := HX.out.1
   exact ⟨gs, cap, b, Fn, vr, va, vm, vb, vt, h2.keep fun k e => hb2.block k (h2.lt k e)⟩
  obtain ⟨aC, cCc, hvC⟩ := owns_shape HL.out.row
  subst hvC
  obtain ⟨g', cap', W3, hrun, r1, r2, hfin⟩ := HL.out.pair hb12 hX2 hY (fun k e => by have := HX.out.2 k e; omega) (fun k e => by have := hFY k e; omega) (fun k e1 e2 => by have := HX.out.1.lt' e1; have := hFY k e2; omega) hn
  have cB : W2.cell? ⟨B, 0, none⟩ = some (.slice aC ps.length cCc) := cell_of_heap (HL.out.below hb12).book.blk 0
  have cB1 : ∀ o, (W2.alloc o).cell? ⟨B, 0, none⟩ = some (.slice aC ps.length cCc) := fun o => cell_later ((Below.refl _ W2).alloc (Nat.le_refl _) o) cB
  have HRun := hideA hrun
  have HF := hideA hfin
  clear hY hFY hX2 hrun hfin c1
  go_wp2_with (at_builtin; refine wpList_append_run rfl (.tmp 38) (.tmp 43) 49 rfl _ _ _ _ (by simp [Act.eval]) (by simp [Act.eval]) HRun.out ?_)
  go_wp2_with fail
  go_ret
  exact ⟨rfl, _, HF.out, .inl ⟨hin.1, hin.2, _, by simp, rfl⟩⟩
 ·have HN := hideA (cluNew_no n C hin)
  go_enter Try.func20, Try.ntmps20
  go_wp2_with fail
  refine HN.out.mono ?_
  rintro e W1 ⟨rfl, hb1⟩
  have c1 := cell_later hb1 cC
  have HR := hideA (refNew_no n W1 hin)
  clear cC
  go_wp2_with fail
  refine HR.out.mono ?_
  rintro e W2 ⟨rfl, hb2⟩
  have hb12 := (hbC.trans (hb1.mono hbC.size)).trans (hb2.mono (Nat.le_trans hbC.size hb1.size))
  clear c1
  go_wp2_with fail
  go_ret
  exact ⟨rfl, ps, ⟨b, vC, vI, vL, vT, vA, HL.out.below hb12⟩, .inr ⟨hin, rfl⟩⟩
end Go.Proofs.Ytgieeeeeiggoeaa
