import Derived.Test.YtlminmokpmdgoabGreatK18
import Derived.Test.YtlminmokpmdgoabGreatK38
import Derived.Test.YtlminmokpmdgoabGreatK29
import Derived.Test.YtlminmokpmdgoabGreatK31
namespace Go.Proofs.YtlminmokpmdgoabGreat
open Go.RowKit Go.Shelf
set_option maxRecDepth 100000 in
set_option maxHeartbeats 1000000 in
theorem hasBytes_short (k f t ep ba vo po va : Int) (am al : Option Addr) (lm cm ll cl : Nat) (w : World) (hno : ¬ (1 ≤ k ∧ k ≤ 16 ∧ lm ≤ 5 ∧ ll ≤ 24)) :
  Calls Tryz.prog 74 #[.agg #[.int .i64 k, .int .i64 f, .int .i64 t, .int .i64 ep, .int .i64 ba, .int .i64 vo, .int .i64 po, .int .i64 va, .slice am lm cm, .slice al ll cl]] w fun e w' => e = .returned (.bool false) ∧ Below w.heap.size w w' := by
 have hb : ∀ o o', Below w.heap.size w ((w.alloc o).alloc o') := fun o o' => ((Below.refl _ _).alloc (Nat.le_refl _) _).alloc (by simp) _
 by_cases hk : 1 ≤ k ∧ k ≤ 16
 ·have hk' : Hid (kindOk k = true) := hideA (by unfold kindOk; simp [hk.1, hk.2])
  by_cases h3 : 5 < lm
  ·clear hno hk
   go_enter Tryz.func74, Tryz.ntmps74
   go_wp2_with fail
   refine (isKind_any _ _).mono ?_
   rintro e W' ⟨rfl, rfl⟩
   rw [hk'.out]
   go_wp2_with fail
   exact bodyPost_ret (v := .bool false) (by simp [results, Tryz.results74, go_sem]) rfl ⟨rfl, hb _ _⟩
  ·have h4 : 24 < ll := by omega
   clear hno hk
   go_enter Tryz.func74, Tryz.ntmps74
   go_wp2_with fail
   refine (isKind_any _ _).mono ?_
   rintro e W' ⟨rfl, rfl⟩
   rw [hk'.out]
   go_wp2_with fail
   exact bodyPost_ret (v := .bool false) (by simp [results, Tryz.results74, go_sem]) rfl ⟨rfl, hb _ _⟩
 ·have hk' : Hid (kindOk k = false) := hideA (by
   unfold kindOk
   by_cases h1 : 1 ≤ k <;> by_cases h2 : k ≤ 16 <;> simp_all)
  clear hno hk
  go_enter Tryz.func74, Tryz.ntmps74
  go_wp2_with fail
  refine (isKind_any _ _).mono ?_
  rintro e W' ⟨rfl, rfl⟩
  rw [hk'.out]
  go_wp2_with fail
  exact bodyPost_ret (v := .bool false) (by simp [results, Tryz.results74, go_sem]) rfl ⟨rfl, hb _ _⟩
set_option maxRecDepth 100000 in
set_option maxHeartbeats 1000000 in
theorem wireEncode_slices (k f t ep ba vo po va : Int) (am al : Option Addr) (cm cl : Nat) (ms : List Int) (es : List Ent) (base : Nat) (w : World) (hmem : IntsAt w (.slice am ms.length cm) ms)
  (hlog : w.ownsRow base 46 5 (.slice al es.length cl) es.length (ints (entsNums es))) :
  Calls Tryz.prog 60 #[.agg #[.int .i64 k, .int .i64 f, .int .i64 t, .int .i64 ep, .int .i64 ba, .int .i64 vo, .int .i64 po, .int .i64 va, .slice am ms.length cm, .slice al es.length cl]] w fun e w' => Below w.heap.size w w' ∧ e = .returned (.tuple #[.string (bs (encOf k [f, t, ep, ba, vo, po, va] ms es).1), .int .i64 (encOf k [f, t, ep, ba, vo, po, va] ms es).2]) := by
 obtain ⟨W, hW, hbW, hsW, q, -⟩ := boxed w #[.int .i64 k, .int .i64 f, .int .i64 t, .int .i64 ep, .int .i64 ba, .int .i64 vo, .int .i64 po, .int .i64 va, .slice am ms.length cm, .slice al es.length cl] 110
 have hmemW := hmem.below hbW
 have hlogW := owns_kept hlog fun k _ hk => hbW.block k hk
 have q0 := q 0
 have q1 := q 1
 have q2 := q 2
 have q3 := q 3
 have q4 := q 4
 have q5 := q 5
 have q6 := q 6
 have q7 := q 7
 have q8 := q 8
 have q9 := q 9
 have hws : w.heap.size < W.heap.size := by omega
 clear q hsW
 by_cases hlong : 1 ≤ k ∧ k ≤ 16 ∧ ms.length ≤ 5 ∧ es.length ≤ 24
 ·obtain ⟨h1, h2, h3, h4⟩ := hlong
  go_enter Tryz.func60, Tryz.ntmps60
  go_wp2_with fail
  clear hW
  refine (callsIn_wide.1 (hasBytes_in 3 (hideA (by omega)) k f t ep ba vo po va _ _ ms es base W hmemW hlogW h1 h2 h3 h4)).mono ?_
  rintro e W2 ⟨rfl, hb2⟩
  have hbw2 := hbW.trans (hb2.mono hbW.size)
  cases hok : msgOk k [f, t, ep, ba, vo, po, va] ms es with
  | false =>
   have hE : Hid (encOf k [f, t, ep, ba, vo, po, va] ms es = ([], 1)) := encOf_no hok
   clear hok q0 q1 q2 q3 q4 q5 q6 q7 q8 q9
   go_wp2_with fail
   go_ret2
   exact ⟨hbw2, ret_no hE rfl⟩
  | true =>
   have hE : Hid (encOf k [f, t, ep, ba, vo, po, va] ms es = (body k [f, t, ep, ba, vo, po, va] ms es ++ sumOf (body k [f, t, ep, ba, vo, po, va] ms es), 0)) := encOf_yes hok
   have r0 := cell_later hb2 q0
   have r1 := cell_later hb2 q1
   have r2 := cell_later hb2 q2
   have r3 := cell_later hb2 q3
   have r4 := cell_later hb2 q4
   have r5 := cell_later hb2 q5
   have r6 := cell_later hb2 q6
   have r7 := cell_later hb2 q7
   have r8 := cell_later hb2 q8
   have r9 := cell_later hb2 q9
   have Hok := hideA hok
   clear hok q0 q1 q2 q3 q4 q5 q6 q7 q8 q9
   go_wp2_with fail
   refine (callsIn_wide.1 (writeBody_in 3 (hideA (by omega)) k f t ep ba vo po va am al cm cl ms es base _ (hmemW.below hb2) (owns_kept hlogW fun k _ hk => hb2.block k hk) Hok)).mono ?_
   rintro e W3 ⟨rfl, hb3⟩
   have hbd := body_length k [f, t, ep, ba, vo, po, va] ms es
   have hl1 : (body k [f, t, ep, ba, vo, po, va] ms es).length ≤ 1000 := by rw [hbd]; simp only [List.length_cons, List.length_nil]; omega
   clear hbd r0 r1 r2 r3 r4 r5 r6 r7 r8 r9
   have hadd := add_bs (body k [f, t, ep, ba, vo, po, va] ms es) (sumOf (body k [f, t, ep, ba, vo, po, va] ms es)) (by rw [sumOf_length]; omega)
   generalize body k [f, t, ep, ba, vo, po, va] ms es = BD at *
   go_wp2_with fail
   refine (sumBytes_any (bs BD) _ (by rw [bs_size]; unfold maxLen; omega)).mono ?_
   rintro e W4 ⟨rfl, hb4⟩
   rw [bs_list]
   go_wp2_with fail
   go_ret2
   refine ⟨hbw2.trans ((hb3.trans (hb4.mono hb3.size)).mono hbw2.size), ?_⟩
   rw [hE.out]
   rfl
 ·have hE : Hid (encOf k [f, t, ep, ba, vo, po, va] ms es = ([], 1)) := encOf_no (msgOk_false fun h => hlong h.1)
  go_enter Tryz.func60, Tryz.ntmps60
  go_wp2_with fail
  clear hW
  refine (hasBytes_short k f t ep ba vo po va am al ms.length cm es.length cl W hlong).mono ?_
  rintro e W2 ⟨rfl, hb2⟩
  clear q0 q1 q2 q3 q4 q5 q6 q7 q8 q9
  go_wp2_with fail
  go_ret2
  exact ⟨hbW.trans (hb2.mono hbW.size), ret_no hE rfl⟩
theorem wireEncode_any (k f t ep ba vo po va : Int) (mem log : Value) (ms : List Int) (es : List Ent) (base : Nat) (w : World) (hmem : IntsAt w mem ms) (hlog : w.ownsRow base 46 5 log es.length (ints (entsNums es))) :
  Calls Tryz.prog 60 #[.agg #[.int .i64 k, .int .i64 f, .int .i64 t, .int .i64 ep, .int .i64 ba, .int .i64 vo, .int .i64 po, .int .i64 va, mem, log]] w fun e w' => Below w.heap.size w w' ∧ e = .returned (.tuple #[.string (bs (encOf k [f, t, ep, ba, vo, po, va] ms es).1), .int .i64 (encOf k [f, t, ep, ba, vo, po, va] ms es).2]) := by
 have hmem1 := hmem
 obtain ⟨am, cm, rfl, -⟩ := hmem1
 obtain ⟨al, cl, rfl⟩ := owns_shape hlog
 exact wireEncode_slices k f t ep ba vo po va am al cm cl ms es base w hmem hlog
theorem append_rowG {t e : TypeId} {z : Value} {size bytes : Nat} (hinfo : (Tryz.prog.info? e).map (fun i => (i.zero, i.size, i.bytes)) = some (some z, size, bytes)) (hu : Tryz.prog.underlying t = some (.slice e)) (hzs : z.cells.size = size) (hsz : 0 < size)
  (W : World) (base : Nat) (v : Value) (n : Nat) (xs news : List Value) (g : Nat) (hown : W.ownsRow base e size v n xs) (hg : W.heap[g]? = some (.cells news.toArray e)) (hnl : news.length = size) (h1 : ∀ u ∈ news, u.oneCell' = true) (hl : n ≤ 3000000000000) (hbb : (n + 1) * bytes ≤ 140737488355328) (hb : base ≤ W.heap.size) :
  ∃ g' cap W', (∀ ty, (Builtin.append_ #[t, t] ty #[v, .slice (some ⟨g, 0, none⟩) 1 1]).run Tryz.prog W = .ok (.slice (some ⟨g', 0, none⟩) (n + 1) cap) W') ∧
   W'.ownsRow base e size (.slice (some ⟨g', 0, none⟩) (n + 1) cap) (n + 1) (xs ++ news) ∧ W.grownBy W' v.ownBlock ∧ (v.ownBlock = some g' ∨ g' = W.heap.size) := by
 obtain ⟨i0, hi, hz0, hz1, hz2⟩ := info_parts hinfo
 have hA : ∀ ty, ∃ g' cap W', (Builtin.append_ #[t, t] ty #[v, .slice (some ⟨g, 0, none⟩) 1 1]).run Tryz.prog W = .ok (.slice (some ⟨g', 0, none⟩) (n + 1) cap) W' ∧
   W'.ownsRow base e size (.slice (some ⟨g', 0, none⟩) (n + 1) cap) (n + 1) (xs ++ news) ∧ W.grownBy W' v.ownBlock ∧ (v.ownBlock = some g' ∨ g' = W.heap.size) := fun ty => by
  obtain ⟨g', cap, W', hr, h2, h3, h4, -⟩ := run_append_lies (P := Tryz.prog) W t ty base e i0 _ size bytes hu hi hz0 hz1 hz2 hzs hsz v n xs hown ⟨g, 0, none⟩ 1 1 news (by rw [hnl, Nat.one_mul])
   (fun j u hj => World.news_of_block hg j u (by simpa using hj)) h1 (by omega) (by unfold maxLen; omega) hbb hb _ rfl
  exact ⟨g', cap, W', hr, h2, h3, h4⟩
 obtain ⟨g', cap, W', hr, h2, h3⟩ := hA 0
 refine ⟨g', cap, W', fun ty => ?_, h2, h3⟩
 rw [← hr]
 rfl
theorem append_row {t e : TypeId} {z : Value} {size bytes : Nat} (hinfo : (Tryz.prog.info? e).map (fun i => (i.zero, i.size, i.bytes)) = some (some z, size, bytes)) (hu : Tryz.prog.underlying t = some (.slice e)) (hzs : z.cells.size = size) (hsz : 0 < size)
  (W : World) (base : Nat) (v : Value) (n : Nat) (xs news : List Value) (g : Nat) (hown : W.ownsRow base e size v n xs) (hg : W.heap[g]? = some (.cells news.toArray e)) (hnl : news.length = size) (h1 : ∀ u ∈ news, u.oneCell' = true) (hl : n ≤ 1000000000000) (hby : bytes ≤ 100) (hb : base ≤ W.heap.size) :
  ∃ g' cap W', (∀ ty, (Builtin.append_ #[t, t] ty #[v, .slice (some ⟨g, 0, none⟩) 1 1]).run Tryz.prog W = .ok (.slice (some ⟨g', 0, none⟩) (n + 1) cap) W') ∧
   W'.ownsRow base e size (.slice (some ⟨g', 0, none⟩) (n + 1) cap) (n + 1) (xs ++ news) ∧ W.grownBy W' v.ownBlock ∧ (v.ownBlock = some g' ∨ g' = W.heap.size) :=
 append_rowG hinfo hu hzs hsz W base v n xs news g hown hg hnl h1 (by omega) (Nat.le_trans (Nat.mul_le_mul (by omega : n + 1 ≤ 1000000000001) hby) (by decide)) hb
theorem append_row3 {t e : TypeId} {z : Value} {size bytes : Nat} (hinfo : (Tryz.prog.info? e).map (fun i => (i.zero, i.size, i.bytes)) = some (some z, size, bytes)) (hu : Tryz.prog.underlying t = some (.slice e)) (hzs : z.cells.size = size) (hsz : 0 < size)
  (W : World) (base : Nat) (v : Value) (n : Nat) (xs news : List Value) (g : Nat) (hown : W.ownsRow base e size v n xs) (hg : W.heap[g]? = some (.cells news.toArray e)) (hnl : news.length = size) (h1 : ∀ u ∈ news, u.oneCell' = true) (hl : n ≤ 3000000000000) (hby : bytes ≤ 40) (hb : base ≤ W.heap.size) :
  ∃ g' cap W', (∀ ty, (Builtin.append_ #[t, t] ty #[v, .slice (some ⟨g, 0, none⟩) 1 1]).run Tryz.prog W = .ok (.slice (some ⟨g', 0, none⟩) (n + 1) cap) W') ∧
   W'.ownsRow base e size (.slice (some ⟨g', 0, none⟩) (n + 1) cap) (n + 1) (xs ++ news) ∧ W.grownBy W' v.ownBlock ∧ (v.ownBlock = some g' ∨ g' = W.heap.size) :=
 append_rowG hinfo hu hzs hsz W base v n xs news g hown hg hnl h1 hl (Nat.le_trans (Nat.mul_le_mul (by omega : n + 1 ≤ 3000000000001) hby) (by decide)) hb
def bagV (l : List (List UInt8 × Bool)) : List Value := l.map (fun f => Value.string (bs f.1))
theorem bagV_one (l : List (List UInt8 × Bool)) : ∀ u ∈ bagV l, u.oneCell' = true := by
 intro u hu
 unfold bagV at hu
 rw [List.mem_map] at hu
 obtain ⟨f, _, rfl⟩ := hu
 rfl
structure BagIn (w : World) (x : Nat) (vs vr va vm vb vt : Value) (l : List (List UInt8 × Bool)) : Prop where
 blk : w.heap[x]? = some (.cells #[vs, vr, va, vm, vb, vt] 78)
 row : w.ownsRow 0 9 1 vb l.length (bagV l)
def BagS (x : Nat) (vb : Value) (k : Nat) : Prop := k = x ∨ vb.ownBlock = some k
def BagTo (w w' : World) (x : Nat) (vs vr va vm vb vt : Value) (l' : List (List UInt8 × Bool)) : Prop := ∃ vb', BagIn w' x vs vr va vm vb' vt l' ∧ Moved w w' (BagS x vb) ∧ Grows w vb vb'
theorem BagIn.below {w w' : World} {x : Nat} {vs vr va vm vb vt : Value} {l : List (List UInt8 × Bool)} (h : BagIn w x vs vr va vm vb vt l) (hb : Below w.heap.size w w') : BagIn w' x vs vr va vm vb vt l :=
 ⟨(hb.block x (Array.getElem?_eq_some_iff.1 h.blk).1).trans h.blk, owns_kept h.row fun k _ hk => hb.block k hk⟩
theorem BagTo.still {w w' : World} {x : Nat} {vs vr va vm vb vt : Value} {l : List (List UInt8 × Bool)} (h : BagIn w x vs vr va vm vb vt l) (hb : Below w.heap.size w w') : BagTo w w' x vs vr va vm vb vt l :=
 ⟨vb, h.below hb, (Moved.refl w _).below hb, Grows.refl _ _⟩
theorem BagTo.trans {w w1 w2 : World} {x : Nat} {vs vr va vm vb vb1 vt : Value} {l' : List (List UInt8 × Bool)} (hm : Moved w w1 (BagS x vb)) (hg : Grows w vb vb1) (h' : BagTo w1 w2 x vs vr va vm vb1 vt l') : BagTo w w2 x vs vr va vm vb vt l' := by
 obtain ⟨vb2, h1, h2, h3⟩ := h'
 refine ⟨vb2, h1, hm.trans h2 (fun k hk hS => ?_), hg.trans h3 hm.size⟩
 rcases hS with e | e
 ·exact .inl e
 ·rcases hg k e with h4 | h4
  ·exact .inr h4
  ·omega
theorem set6_4 {W : World} {g : Nat} {T : TypeId} {a0 a1 a2 a3 a4 a5 : Value} (v : Value) (h : W.heap[g]? = some (.cells #[a0, a1, a2, a3, a4, a5] T)) : (W.setCell ⟨g, 4, none⟩ v).heap[g]? = some (.cells #[a0, a1, a2, a3, v, a5] T) := heap_setCell_same _ _ _ _ _ _ h
theorem set6_5 {W : World} {g : Nat} {T : TypeId} {a0 a1 a2 a3 a4 a5 : Value} (v : Value) (h : W.heap[g]? = some (.cells #[a0, a1, a2, a3, a4, a5] T)) : (W.setCell ⟨g, 5, none⟩ v).heap[g]? = some (.cells #[a0, a1, a2, a3, a4, v] T) := heap_setCell_same _ _ _ _ _ _ h
theorem set6_0 {W : World} {g : Nat} {T : TypeId} {a0 a1 a2 a3 a4 a5 : Value} (v : Value) (h : W.heap[g]? = some (.cells #[a0, a1, a2, a3, a4, a5] T)) : (W.setCell ⟨g, 0, none⟩ v).heap[g]? = some (.cells #[v, a1, a2, a3, a4, a5] T) := heap_setCell_same _ _ _ _ _ _ h
theorem set6_1 {W : World} {g : Nat} {T : TypeId} {a0 a1 a2 a3 a4 a5 : Value} (v : Value) (h : W.heap[g]? = some (.cells #[a0, a1, a2, a3, a4, a5] T)) : (W.setCell ⟨g, 1, none⟩ v).heap[g]? = some (.cells #[a0, v, a2, a3, a4, a5] T) := heap_setCell_same _ _ _ _ _ _ h
theorem set6_2 {W : World} {g : Nat} {T : TypeId} {a0 a1 a2 a3 a4 a5 : Value} (v : Value) (h : W.heap[g]? = some (.cells #[a0, a1, a2, a3, a4, a5] T)) : (W.setCell ⟨g, 2, none⟩ v).heap[g]? = some (.cells #[a0, a1, v, a3, a4, a5] T) := heap_setCell_same _ _ _ _ _ _ h
theorem set6_3 {W : World} {g : Nat} {T : TypeId} {a0 a1 a2 a3 a4 a5 : Value} (v : Value) (h : W.heap[g]? = some (.cells #[a0, a1, a2, a3, a4, a5] T)) : (W.setCell ⟨g, 3, none⟩ v).heap[g]? = some (.cells #[a0, a1, a2, v, a4, a5] T) := heap_setCell_same _ _ _ _ _ _ h
def putOne (l : List (List UInt8 × Bool)) (f : List UInt8 × Bool) : List (List UInt8 × Bool) := if l.length < 200 then l ++ [f] else l
set_option maxRecDepth 100000 in
set_option maxHeartbeats 1000000 in
theorem bagPut_any (x : Nat) (vs vr va vm vb vt : Value) (l : List (List UInt8 × Bool)) (f : List UInt8 × Bool) (w : World) (h : BagIn w x vs vr va vm vb vt l) (hl : l.length ≤ 200) :
  Calls Tryz.prog 61 #[.pointer (some ⟨x, 4, none⟩), .string (bs f.1)] w fun e w' => (∃ v, e = .returned v) ∧ BagTo w w' x vs vr va vm vb vt (putOne l f) := by
 have HI := hideA h
 obtain ⟨ab, cb, rfl⟩ := owns_shape h.row
 have c4 := cell_of_heap h.blk 4
 have f4 := frozen_of_heap h.blk 4
 have hxl : x < w.heap.size := (Array.getElem?_eq_some_iff.1 h.blk).1
 have HP : Hid (putOne l f = if l.length < 200 then l ++ [f] else l) := hideA rfl
 clear h
 by_cases hlt : l.length < 200
 ·have HV : Hid (putOne l f = l ++ [f]) := hideA (by rw [HP.out, if_pos hlt])
  have hlt' : (l.length : Int) < 200 := by omega
  obtain ⟨X, hX⟩ : ∃ X, X = w.alloc (.cells #[.string (bs f.1)] 9) := ⟨_, rfl⟩
  have hbX : Below w.heap.size w X := by rw [hX]; exact (Below.refl _ w).alloc (Nat.le_refl _) _
  have hIX := HI.out.below hbX
  have hsX : X.heap.size = w.heap.size + 1 := by rw [hX]; simp
  obtain ⟨g', cap', W1, hrun, ho1, hg1, hwh⟩ := append_row (t := 73) infoStr Tryz.underlying73 rfl (by decide) X 0 (.slice ab l.length cb) l.length (bagV l) [.string (bs f.1)] w.heap.size hIX.row (by rw [hX]; exact heap_new _ _) rfl (by intro u hu; rw [List.mem_singleton] at hu; subst hu; rfl) (by omega) (by decide) (Nat.zero_le _)
  have nb : (Value.slice ab l.length cb).ownBlock ≠ some x := blk_type HI.out.blk HI.out.row (by decide)
  have hxW : W1.heap[x]? = some (.cells #[vs, vr, va, vm, .slice ab l.length cb, vt] 78) := (hg1.block x (by omega) (fun e => nb e.symm)).trans hIX.blk
  have d4 := cell_of_heap hxW 4
  have e4 := frozen_of_heap hxW 4
  have M1 : Moved w W1 (BagS x (.slice ab l.length cb)) := ((Moved.refl w _).below hbX).grown hg1 (fun k _ e => .inr e)
  have HR := hideA hrun
  rw [hX] at HR
  have HF : Hid (BagTo w (W1.setCell ⟨x, 4, none⟩ (.slice (some ⟨g', 0, none⟩) (l.length + 1) cap')) x vs vr va vm (.slice ab l.length cb) vt (l ++ [f])) := hideA (by
   refine ⟨_, ⟨set6_4 _ hxW, ?_⟩, M1.setCell ⟨x, 4, none⟩ (.inl rfl) _, ?_⟩
   ·have hr := ownsRow_setCell_other (a := ⟨x, 4, none⟩) ho1 (blk_type hxW ho1 (by decide)) (.slice (some ⟨g', 0, none⟩) (l.length + 1) cap')
    rw [List.length_append]
    unfold bagV
    rw [List.map_append]
    exact hr
   ·intro k hk
    have : g' = k := by simpa [Value.ownBlock] using hk
    subst this
    rcases hwh with h5 | h5
    ·exact .inl h5
    ·exact .inr (by omega))
  clear hrun ho1 hg1 hwh hIX M1
  go_enter Tryz.func61, Tryz.ntmps61
  go_wp2_with (at_builtin; refine wpList_append_run rfl (.tmp 14) (.tmp 16) 73 rfl _ _ _ _ (by simp [Act.eval]) (by simp [Act.eval]) HR.out ?_)
  go_wp2_with fail
  go_end0
  refine ⟨⟨_, rfl⟩, ?_⟩
  rw [HV.out]
  exact HF.out
 ·have HV : Hid (putOne l f = l) := hideA (by rw [HP.out, if_neg hlt])
  have hlt' : ¬ (l.length : Int) < 200 := by omega
  go_enter Tryz.func61, Tryz.ntmps61
  go_wp2_with fail
  go_end0
  refine ⟨⟨_, rfl⟩, ?_⟩
  rw [HV.out]
  exact BagTo.still HI.out (Below.refl _ _)
theorem MsgsOwn.beside {w wr : World} {base x : Nat} {v : Value} {ms : List Msg} {vs vr va vm vb vt : Value} {l : List (List UInt8 × Bool)} (h : MsgsOwn w base v ms) (hB : BagIn w x vs vr va vm vb vt l) (hM : Moved w wr (BagS x vb)) : MsgsOwn wr base v ms := by
 have hrow : ∀ {base size n : Nat} {e : TypeId} {v : Value} {xs : List Value}, w.ownsRow base e size v n xs → e ≠ 9 → e ≠ 78 → wr.ownsRow base e size v n xs := by
  intro base size n e v xs hv h1 h2
  refine hM.owns hv fun k hk hS => ?_
  rcases hS with e1 | e1
  ·exact blk_type hB.blk hv h2 (e1 ▸ hk)
  ·exact owns_two hv hB.row h1 k hk e1
 obtain ⟨ws, h1, h2, h3⟩ := h
 exact ⟨ws, h1, hrow h2 (by decide) (by decide), fun t ht => ⟨hrow (h3 t ht).1 (by decide) (by decide), hrow (h3 t ht).2 (by decide) (by decide)⟩⟩
theorem MsgsOwn.at {w : World} {base : Nat} {v : Value} {ms : List Msg} (h : MsgsOwn w base v ms) (k : Nat) (hk : k < ms.length) :
  ∃ g cap m a1 d1 a2 d2, v = .slice (some ⟨g, 0, none⟩) ms.length cap ∧ ms[k]? = some m ∧ IntOwn w (.slice a1 m.mems.length d1) m.mems ∧ LogOwn w (.slice a2 m.log.length d2) m.log ∧ ∀ t, t < 10 → w.cell? ⟨g, k * 10 + t, none⟩ = (mcells (m, .slice a1 m.mems.length d1, .slice a2 m.log.length d2))[t]? := by
 obtain ⟨ws, h1, h2, h3⟩ := h
 have hwl : ws.length = ms.length := by rw [← h1, List.length_map]
 obtain ⟨g, cap, hv, -, -⟩ := h2.form (by omega)
 obtain ⟨t, ht⟩ : ∃ t, ws[k]? = some t := ⟨_, List.getElem?_eq_getElem (by omega)⟩
 have hmem : t ∈ ws := List.mem_of_getElem? ht
 obtain ⟨m, xm, xl⟩ := t
 obtain ⟨i1, i2⟩ := h3 _ hmem
 obtain ⟨a1, d1, e1⟩ := owns_shape i1
 obtain ⟨a2, d2, e2⟩ := owns_shape i2
 simp only at e1 e2 i1 i2
 subst e1
 subst e2
 have hml : ms[k]? = some m := by rw [← h1, List.getElem?_map, ht]; rfl
 have flat : ∀ (ws : List MsgV) (k : Nat) (u : MsgV), ws[k]? = some u → ∀ t, t < 10 → (ws.flatMap mcells)[k * 10 + t]? = (mcells u)[t]? := by
  intro ws
  induction ws with
  | nil => intro k u hu; simp at hu
  | cons a r ih =>
   intro k u hu t ht
   have hl : (mcells a).length = 10 := rfl
   rw [List.flatMap_cons]
   cases k with
   | zero =>
    simp at hu
    subst hu
    rw [Nat.zero_mul, Nat.zero_add, List.getElem?_append_left (by omega)]
   | succ k =>
    rw [List.getElem?_append_right (by omega), hl, show (k + 1) * 10 + t - 10 = k * 10 + t by omega]
    exact ih k u (by simpa using hu) t ht
 subst hv
 refine ⟨g, cap, m, a1, d1, a2, d2, rfl, hml, i1, i2, fun t ht2 => ?_⟩
 rw [World.ownsRow.cellAt h2 (k * 10 + t) (by omega)]
 exact flat ws k _ ht t ht2
def puts (l : List (List UInt8 × Bool)) (ms : List Msg) : List (List UInt8 × Bool) := (l ++ ms.map (fun m => (m.frame, false))).take 200
theorem puts_len (l : List (List UInt8 × Bool)) (ms : List Msg) : (puts l ms).length ≤ 200 := by unfold puts; rw [List.length_take]; omega
theorem puts_snoc (l : List (List UInt8 × Bool)) (ms : List Msg) (m : Msg) : putOne (puts l ms) (m.frame, false) = puts l (ms ++ [m]) := by
 unfold putOne puts
 rw [List.map_append, ← List.append_assoc, List.length_take]
 generalize l ++ ms.map (fun m => (m.frame, false)) = A
 split
 ·rw [List.take_of_length_le (by omega : A.length ≤ 200), List.take_of_length_le (by simp; omega)]
  rfl
 ·rw [List.take_append_of_le_length (by omega)]
theorem puts_nil (l : List (List UInt8 × Bool)) (h : l.length ≤ 200) : puts l [] = l := by
 unfold puts
 rw [List.map_nil, List.append_nil, List.take_of_length_le h]
theorem msgs_snoc (ms : List Msg) (k : Nat) (m : Msg) (h : ms[k]? = some m) : ms.take (k + 1) = ms.take k ++ [m] := by
 have hk := (List.getElem?_eq_some_iff.1 h).1
 rw [List.take_succ_eq_append_getElem hk]
 congr 2
 exact (List.getElem?_eq_some_iff.1 h).2
set_option maxRecDepth 100000 in
set_option maxHeartbeats 1000000 in
theorem bagSend_any (x : Nat) (vs vr va vm vb vt : Value) (l : List (List UInt8 × Bool)) (base : Nat) (v : Value) (ms : List Msg) (w : World) (h : BagIn w x vs vr va vm vb vt l) (hl : l.length ≤ 200) (hv : MsgsOwn w base v ms) (hok : ∀ m ∈ ms, m.ok = true) (hmn : ms.length ≤ 100000) :
  Calls Tryz.prog 36 #[.pointer (some ⟨x, 4, none⟩), v] w fun e w' => (∃ v, e = .returned v) ∧ BagTo w w' x vs vr va vm vb vt (puts l ms) := by
 obtain ⟨am, cm, rfl⟩ := hv.shape
 have HI := hideA h
 have HM := hideA hv
 have HP : Hid (∀ W vb1 l1 f, BagIn W x vs vr va vm vb1 vt l1 → l1.length ≤ 200 → Calls Tryz.prog 61 #[.pointer (some ⟨x, 4, none⟩), .string (bs f)] W fun e w' => (∃ v, e = .returned v) ∧ BagTo W w' x vs vr va vm vb1 vt (putOne l1 (f, false))) := hideA fun W vb1 l1 f h1 h2 => bagPut_any x vs vr va vm vb1 vt l1 (f, false) W h1 h2
 have HOk := hideA hok
 clear h hv hok
 go_enter Tryz.func36, Tryz.ntmps36
 go_wp2_with fail
 go_loopw [10] (fun i wr => ∃ k : Nat, k ≤ ms.length ∧ i = .int .i64 k ∧ ∃ vb1, BagIn wr x vs vr va vm vb1 vt (puts l (ms.take k)) ∧ Moved w wr (BagS x vb) ∧ Grows w vb vb1) (fun i _ => ms.length - (intOf i).toNat)
 case atStart => exact ⟨0, Nat.zero_le _, rfl, vb, by rw [List.take_zero, puts_nil l hl]; exact HI.out, Moved.refl _ _, Grows.refl _ _⟩
 case round =>
  obtain ⟨k, hk, rfl, vb1, hB, hMv, hGr⟩ := hrel
  have HB := hideA (And.intro hB (And.intro hMv hGr))
  clear hB hMv hGr
  by_cases hlt : k < ms.length
  ·have hk1 : (k : Int) < (ms.length : Int) := by omega
   obtain ⟨g, cap, m, a1, d1, a2, d2, hsl, hmk, i1, i2, hcell⟩ := (HM.out.beside HI.out HB.out.2.1).at k hlt
   cases hsl
   have HT := hideA (And.intro (msgs_snoc ms k m hmk) (HOk.out m (List.mem_of_getElem? hmk)))
   have HEn : Hid (∀ W, Below wr.heap.size wr W → Calls Tryz.prog 60 #[.agg #[.int .i64 m.kind, .int .i64 m.src, .int .i64 m.dst, .int .i64 m.epoch, .int .i64 m.ballot, .int .i64 m.vote, .int .i64 m.pos, .int .i64 m.value, .slice a1 m.mems.length d1, .slice a2 m.log.length d2]] W fun e w' => Below W.heap.size W w' ∧ e = .returned (.tuple #[.string (bs m.frame), .int .i64 0])) := hideA fun W hb => by
    have := wireEncode_any m.kind m.src m.dst m.epoch m.ballot m.vote m.pos m.value (.slice a1 m.mems.length d1) (.slice a2 m.log.length d2) m.mems m.log 0 W (IntsAt.of_owns (owns_kept i1 fun k _ hk => hb.block k hk)) (owns_kept i2 fun k _ hk => hb.block k hk)
    rw [show encOf m.kind [m.src, m.dst, m.epoch, m.ballot, m.vote, m.pos, m.value] m.mems m.log = (m.frame, 0) from encOf_yes HT.out.2] at this
    exact this
   have q0 := hcell 0 (by omega)
   have q1 := hcell 1 (by omega)
   have q2 := hcell 2 (by omega)
   have q3 := hcell 3 (by omega)
   have q4 := hcell 4 (by omega)
   have q5 := hcell 5 (by omega)
   have q6 := hcell 6 (by omega)
   have q7 := hcell 7 (by omega)
   have q8 := hcell 8 (by omega)
   have q9 := hcell 9 (by omega)
   simp only [mcells, List.getElem?_cons_zero, List.getElem?_cons_succ, Nat.add_zero] at q0 q1 q2 q3 q4 q5 q6 q7 q8 q9
   clear hcell i1 i2 hmk
   go_upto_region 3 with fail
   obtain ⟨X, hX, hbX, hM⟩ := msg_box wr m (.slice a1 m.mems.length d1) (.slice a2 m.log.length d2)
   rw [hX]
   clear hX q0 q1 q2 q3 q4 q5 q6 q7 q8 q9
   have gM := fun j => cell_of_heap hM j
   clear hM
   go_wp2_with fail
   refine (HEn.out X hbX).mono ?_
   rintro e Y ⟨hbY, rfl⟩
   have hbW := hbX.trans (hbY.mono hbX.size)
   clear gM
   go_wp2_with fail
   refine (HP.out Y vb1 _ m.frame (HB.out.1.below hbW) (puts_len _ _)).mono ?_
   rintro e Z ⟨⟨v9, rfl⟩, hto⟩
   have HTo := hideA hto
   clear hto
   go_wp2_with fail
   go_roundw
   case rel =>
    refine ⟨k + 1, by omega, by go_num, ?_⟩
    rw [HT.out.1, ← puts_snoc]
    exact BagTo.trans (HB.out.2.1.below hbW) HB.out.2.2 HTo.out
   case measure => simp [intOf]; omega
  ·obtain rfl : k = ms.length := by omega
   go_wp2_with fail
   go_end0
   refine ⟨⟨_, rfl⟩, vb1, ?_, HB.out.2.1, HB.out.2.2⟩
   have := HB.out.1
   rw [List.take_length] at this
   exact this
set_option maxRecDepth 100000 in
theorem bagHas_any (x : Nat) (vs vr va vm vb vt : Value) (l : List (List UInt8 × Bool)) (i : Int) (w : World) (h : BagIn w x vs vr va vm vb vt l) :
  Calls Tryz.prog 38 #[.pointer (some ⟨x, 4, none⟩), .int .i64 i] w fun e w' => e = .returned (.bool (decide (0 ≤ i ∧ i < (l.length : Int)))) ∧ w' = w := by
 obtain ⟨ab, cb, rfl⟩ := owns_shape h.row
 have c4 := cell_of_heap h.blk 4
 clear h
 by_cases h0 : 0 ≤ i
 ·have H : Hid (decide (0 ≤ i ∧ i < (l.length : Int)) = decide (i < (l.length : Int))) := hideA (by simp [h0])
  generalize decide (0 ≤ i ∧ i < (l.length : Int)) = dd at *
  go_enter Tryz.func38, Tryz.ntmps38
  go_wp2_with fail
  go_ret
  exact ⟨by rw [H.out]; first | rfl | simp, rfl⟩
 ·have H : Hid (decide (0 ≤ i ∧ i < (l.length : Int)) = false) := hideA (by simp [h0])
  generalize decide (0 ≤ i ∧ i < (l.length : Int)) = dd at *
  go_enter Tryz.func38, Tryz.ntmps38
  go_wp2_with fail
  go_ret
  exact ⟨by rw [H.out]; first | rfl | simp, rfl⟩
theorem bagV_at (l : List (List UInt8 × Bool)) (k : Nat) (hk : k < l.length) : (bagV l)[k]? = some (.string (bs (l.getD k ([], false)).1)) := by
 unfold bagV
 rw [List.getElem?_map, List.getElem?_eq_getElem hk, List.getD_eq_getElem?_getD, List.getElem?_eq_getElem hk]
 rfl
theorem bagV_erase (l : List (List UInt8 × Bool)) (i : Nat) : (bagV l).eraseIdx i = bagV (l.eraseIdx i) := by
 rw [eraseIdx_parts, eraseIdx_parts]
 unfold bagV
 simp [List.map_take, List.map_drop]
set_option maxRecDepth 100000 in
set_option maxHeartbeats 1000000 in
theorem bagTake_any (x : Nat) (vs vr va vm vb vt : Value) (l : List (List UInt8 × Bool)) (k : Nat) (w : World) (h : BagIn w x vs vr va vm vb vt l) (hk : k < l.length) (hl : l.length ≤ 200) :
  Calls Tryz.prog 40 #[.pointer (some ⟨x, 4, none⟩), .int .i64 (k : Int)] w fun e w' => e = .returned (.string (bs (l.getD k ([], false)).1)) ∧ BagTo w w' x vs vr va vm vb vt (l.eraseIdx k) := by
 have HI := hideA h
 obtain ⟨g, cb, hv, -, -⟩ := h.row.form (by omega)
 subst hv
 have c4 := cell_of_heap h.blk 4
 have ck : w.cell? ⟨g, k, none⟩ = some (.string (bs (l.getD k ([], false)).1)) := by
  rw [World.ownsRow.cellAt h.row k (by omega)]
  exact bagV_at l k hk
 have HD : Hid (Calls Tryz.prog 65 #[.slice (some ⟨g, 0, none⟩) l.length cb, .int .i64 (k : Int), .int .i64 ((k : Int) + 1)] w fun e w' => e = .returned (.slice (some ⟨g, 0, none⟩) (l.length - 1) cb) ∧ w'.ownsRow 0 9 1 (.slice (some ⟨g, 0, none⟩) (l.length - 1) cb) (l.length - 1) ((bagV l).eraseIdx k) ∧ OneTurned w w' g) := hideA (delete_strs 0 g l.length cb k (bagV l) w h.row (bagV_one l) hk)
 have hwr : IntKind.i64.wrap ((k : Int) + 1) = (k : Int) + 1 := by rw [IntKind.wrap_i64]; omega
 have hgx : x ≠ g := fun e => blk_type h.blk h.row (by decide) (by rw [e]; rfl)
 have hk0 : (0 : Int) ≤ (k : Int) := by omega
 have hk1 : (k : Int) < (l.length : Int) := by omega
 have HE : Hid (l.length - 1 = (l.eraseIdx k).length) := hideA (by rw [List.length_eraseIdx, if_pos hk])
 clear h
 generalize (l.getD k ([], false)).1 = fr at *
 go_enter Tryz.func40, Tryz.ntmps40
 go_wp2_with fail
 refine HD.out.mono ?_
 rintro e Y ⟨rfl, hrow, hT⟩
 have hYx := (hT.block x hgx).trans HI.out.blk
 have d4 := cell_of_heap hYx 4
 have e4 := frozen_of_heap hYx 4
 have HY := hideA (And.intro hYx (And.intro hrow hT))
 clear hYx hrow hT c4 ck
 go_wp2_with fail
 go_ret
 refine ⟨rfl, _, ⟨set6_4 _ HY.out.1, ?_⟩, ?_, ?_⟩
 ·have := HY.out.2.1
  rw [bagV_erase, HE.out] at this
  rw [HE.out]
  exact ownsRow_setCell_other this (blk_type HY.out.1 this (by decide)) _
 ·have hM : Moved w Y (BagS x (.slice (some ⟨g, 0, none⟩) l.length cb)) := ⟨HY.out.2.2.os, HY.out.2.2.tape, HY.out.2.2.output, by rw [HY.out.2.2.size]; exact Nat.le_refl _, fun k _ hS => HY.out.2.2.block k (fun e => hS (.inr (by rw [e]; rfl)))⟩
  exact hM.setCell ⟨x, 4, none⟩ (.inl rfl) _
 ·intro k e
  exact .inl e
set_option maxRecDepth 100000 in
set_option maxHeartbeats 1000000 in
theorem bagDouble_any (x : Nat) (vs vr va vm vb vt : Value) (l : List (List UInt8 × Bool)) (k : Nat) (w : World) (h : BagIn w x vs vr va vm vb vt l) (hk : k < l.length) (hl : l.length ≤ 200) :
  Calls Tryz.prog 41 #[.pointer (some ⟨x, 4, none⟩), .int .i64 (k : Int)] w fun e w' => (∃ v, e = .returned v) ∧ BagTo w w' x vs vr va vm vb vt (putOne l (l.getD k ([], false))) := by
 have HP := hideA (bagPut_any x vs vr va vm vb vt l (l.getD k ([], false)) w h hl)
 obtain ⟨g, cb, hv, -, -⟩ := h.row.form (by omega)
 subst hv
 have c4 := cell_of_heap h.blk 4
 have ck : w.cell? ⟨g, k, none⟩ = some (.string (bs (l.getD k ([], false)).1)) := by
  rw [World.ownsRow.cellAt h.row k (by omega)]
  exact bagV_at l k hk
 have hk0 : (0 : Int) ≤ (k : Int) := by omega
 have hk1 : (k : Int) < (l.length : Int) := by omega
 clear h
 generalize l.getD k ([], false) = fr at *
 go_enter Tryz.func41, Tryz.ntmps41
 go_wp2_with fail
 refine HP.out.mono ?_
 rintro e Y ⟨⟨v, rfl⟩, hto⟩
 have HTo := hideA hto
 clear hto c4 ck
 go_wp2_with fail
 go_end0
 exact ⟨⟨_, rfl⟩, HTo.out⟩
set_option maxRecDepth 100000 in
theorem bagList_any (x : Nat) (vs vr va vm vb vt : Value) (l : List (List UInt8 × Bool)) (w : World) (h : BagIn w x vs vr va vm vb vt l) (hl : l.length ≤ 200) :
  Calls Tryz.prog 62 #[.pointer (some ⟨x, 4, none⟩)] w fun e w' => ∃ v, e = .returned v ∧ w'.ownsRow w.heap.size 9 1 v l.length (bagV l) ∧ Below w.heap.size w w' := by
 have HC := hideA (clone_strs vb l.length (bagV l) w (CellsAt.of_owns h.row) (by unfold bagV; simp) (bagV_one l) (by omega))
 obtain ⟨ab, cb, rfl⟩ := owns_shape h.row
 have c4 := cell_of_heap h.blk 4
 clear h
 go_enter Tryz.func62, Tryz.ntmps62
 go_wp2_with fail
 refine HC.out.mono ?_
 rintro e Y ⟨v, rfl, h1, h2⟩
 obtain ⟨a9, c9, rfl⟩ := owns_shape h1
 have H1 := hideA h1
 clear h1 c4
 go_wp2_with fail
 go_ret
 exact ⟨_, rfl, H1.out, h2⟩
end Go.Proofs.YtlminmokpmdgoabGreat
