import Derived.Test.YtlminmokpmdgoabGreatK19
import Derived.Test.YtlminmokpmdgoabGreatK16
import Derived.Deep.RegionHeld3
import Derived.BigRegion
import Derived.BigQuiet
import Derived.Test.YtlminmokpmdgoabGreatK02
namespace Go.Proofs.YtlminmokpmdgoabGreat
open Go.RowKit Go.Shelf
def IntOwn (w : World) (v : Value) (l : List Int) : Prop := w.ownsRow 0 3 1 v l.length (ints l)
def LogOwn (w : World) (v : Value) (es : List Ent) : Prop := w.ownsRow 0 46 5 v es.length (ints (entsNums es))
structure RepAt (w : World) (b : Nat) (own : Int) (r : Rep) (vm vl : Value) : Prop where
 blk : w.heap[b]? = some (.cells #[.int .i64 own, .int .i64 r.epoch, .int .i64 r.lock, vm, vl, .int .i64 (r.base : Int), .int .i64 (r.commit : Int)] 125)
 hm : IntOwn w vm r.mems
 hl : LogOwn w vl r.log
structure RepOK (r : Rep) : Prop where
 m : r.mems.length ≤ 5
 l : r.log.length ≤ 24
 c : r.commit ≤ r.log.length
theorem RepAt.below {w w' : World} {b : Nat} {own : Int} {r : Rep} {vm vl : Value} (h : RepAt w b own r vm vl) (hb : Below w.heap.size w w') : RepAt w' b own r vm vl :=
 ⟨(hb.block b (Array.getElem?_eq_some_iff.1 h.blk).1).trans h.blk, owns_kept h.hm fun k _ hk => hb.block k hk, owns_kept h.hl fun k _ hk => hb.block k hk⟩
theorem own_cap {w : World} {base size n : Nat} {e : TypeId} {v : Value} {xs : List Value} (h : w.ownsRow base e size v n xs) : ∃ a c, v = .slice a n c ∧ n ≤ c := by
 rcases h.2 with ⟨rfl, rfl⟩ | ⟨g, cap, cur, rfl, _, _, hn, _⟩
 ·exact ⟨_, _, rfl, Nat.le_refl _⟩
 ·exact ⟨_, _, rfl, hn⟩
set_option maxRecDepth 100000 in
set_option maxHeartbeats 2000000 in
theorem isLive_any (b : Nat) (own : Int) (r : Rep) (vm vl : Value) (w : World) (h : RepAt w b own r vm vl) (ok : RepOK r) :
  Calls Tryz.prog 116 #[.pointer (some ⟨b, 0, none⟩)] w fun e w' => e = .returned (.bool (r.live own)) ∧ ∃ q, w' = w.drewN q := by
 have c0 := cell_of_heap h.blk 0
 have c1 := cell_of_heap h.blk 1
 have c2 := cell_of_heap h.blk 2
 have c3 := cell_of_heap h.blk 3
 have HC : Hid (∀ W, Below w.heap.size w W → Calls Tryz.prog 81 #[vm, .int .i64 own] W fun e w' => e = .returned (.bool (decide (own ∈ r.mems))) ∧ w' = W) := hideA fun W hb => contains_ints vm r.mems own W ((IntsAt.of_owns h.hm).below hb) (by have := ok.m; omega)
 obtain ⟨am, cm, rfl⟩ := owns_shape h.hm
 have HL : Hid (r.live own = (decide (own ∈ r.mems) && decide (r.lock ≤ r.epoch))) := hideA rfl
 clear h ok
 generalize decide (own ∈ r.mems) = inn at *
 generalize r.live own = lv at *
 go_enter Tryz.func116, Tryz.ntmps116
 go_wp2_with fail
 cases inn with
 | false =>
  have : lv = false := by rw [HL.out]; rfl
  subst this
  go_quiet ((go_at_call 81; refine (HC.out _ (below_drewN (Below.refl _ _) _)).mono ?_; rintro e w9 ⟨rfl, rfl⟩; exact ⟨rfl, _, rfl⟩))
  go_wp2
  go_ret
  exact ⟨rfl, _, rfl⟩
 | true =>
  have : lv = decide (r.lock ≤ r.epoch) := by rw [HL.out]; rfl
  subst this
  go_quiet ((go_at_call 81; refine (HC.out _ (below_drewN (Below.refl _ _) _)).mono ?_; rintro e w9 ⟨rfl, rfl⟩; exact ⟨rfl, _, rfl⟩))
  go_wp2
  go_ret
  exact ⟨rfl, _, rfl⟩
set_option maxRecDepth 100000 in
set_option maxHeartbeats 2000000 in
theorem behind_any (b : Nat) (own : Int) (r : Rep) (vm vl : Value) (w : World) (h : RepAt w b own r vm vl) (ok : RepOK r) :
  Calls Tryz.prog 123 #[.pointer (some ⟨b, 0, none⟩)] w fun e w' => e = .returned (.tuple #[.int .i64 ((nextOf r.mems own).getD 0), .bool (nextOf r.mems own).isSome]) ∧ Below w.heap.size w w' := by
 have c0 := cell_of_heap h.blk 0
 have c3 := cell_of_heap h.blk 3
 obtain ⟨am, cm, rfl, hcap⟩ := own_cap h.hm
 have HC : Hid (∀ W, Below w.heap.size w W → Calls Tryz.prog 133 #[.slice am r.mems.length cm, .int .i64 own] W fun e w' => e = .returned (.tuple #[.int .i64 ((nextOf r.mems own).getD 0), .bool (nextOf r.mems own).isSome]) ∧ Below w.heap.size w w' ∧ w'.cell? ⟨b, 0, none⟩ = some (.int .i64 own) ∧ w'.cell? ⟨b, 3, none⟩ = some (.slice am r.mems.length cm)) := hideA fun W hb => (next_any am cm r.mems own W (by have := ok.m; omega) hcap ((IntsAt.of_owns h.hm).below hb)).mono (by
  rintro e w' ⟨rfl, hb'⟩
  have hbb := hb.trans (hb'.mono hb.size)
  exact ⟨rfl, hbb, cell_later hbb c0, cell_later hbb c3⟩)
 clear h ok
 generalize (nextOf r.mems own).getD 0 = x at *
 generalize (nextOf r.mems own).isSome = y at *
 go_enter Tryz.func123, Tryz.ntmps123
 go_wp2_with fail
 go_region_held3 (fun w' => w'.cell? ⟨b, 0, none⟩ = some (.int .i64 own) ∧ w'.cell? ⟨b, 3, none⟩ = some (.slice am r.mems.length cm)) (first | (simp [go_sem]; done) | (simp [go_sem, *]; done) | go_keep) (first | (go_at_call 133; refine (HC.out _ (by first | exact Below.refl _ _ | exact (Below.refl _ _).drew)).mono ?_; rintro e w9 ⟨rfl, hb9, g0, g3⟩))
 all_goals
  go_wp2_with fail
  go_ret2
  exact ⟨rfl, hb9⟩
set_option maxRecDepth 100000 in
set_option maxHeartbeats 2000000 in
theorem ahead_any (b : Nat) (own : Int) (r : Rep) (vm vl : Value) (w : World) (h : RepAt w b own r vm vl) (ok : RepOK r) :
  Calls Tryz.prog 128 #[.pointer (some ⟨b, 0, none⟩)] w fun e w' => e = .returned (.tuple #[.int .i64 ((prevOf r.mems own).getD 0), .bool (prevOf r.mems own).isSome]) ∧ Below w.heap.size w w' := by
 have c0 := cell_of_heap h.blk 0
 have c3 := cell_of_heap h.blk 3
 obtain ⟨am, cm, rfl, -⟩ := own_cap h.hm
 have HC : Hid (∀ W, Below w.heap.size w W → Calls Tryz.prog 138 #[.slice am r.mems.length cm, .int .i64 own] W fun e w' => e = .returned (.tuple #[.int .i64 ((prevOf r.mems own).getD 0), .bool (prevOf r.mems own).isSome]) ∧ Below w.heap.size w w' ∧ w'.cell? ⟨b, 0, none⟩ = some (.int .i64 own) ∧ w'.cell? ⟨b, 3, none⟩ = some (.slice am r.mems.length cm)) := hideA fun W hb => (previous_any am cm r.mems own W (by have := ok.m; omega) ((IntsAt.of_owns h.hm).below hb)).mono (by
  rintro e w' ⟨rfl, hb'⟩
  have hbb := hb.trans (hb'.mono hb.size)
  exact ⟨rfl, hbb, cell_later hbb c0, cell_later hbb c3⟩)
 clear h ok
 generalize (prevOf r.mems own).getD 0 = x at *
 generalize (prevOf r.mems own).isSome = y at *
 go_enter Tryz.func128, Tryz.ntmps128
 go_wp2_with fail
 go_region_held3 (fun w' => w'.cell? ⟨b, 0, none⟩ = some (.int .i64 own) ∧ w'.cell? ⟨b, 3, none⟩ = some (.slice am r.mems.length cm)) (first | (simp [go_sem]; done) | (simp [go_sem, *]; done) | go_keep) (first | (go_at_call 138; refine (HC.out _ (by first | exact Below.refl _ _ | exact (Below.refl _ _).drew)).mono ?_; rintro e w9 ⟨rfl, hb9, g0, g3⟩))
 all_goals
  go_wp2_with fail
  go_ret2
  exact ⟨rfl, hb9⟩
set_option maxRecDepth 100000 in
set_option maxHeartbeats 1000000 in
theorem isTail_any (b : Nat) (own : Int) (r : Rep) (vm vl : Value) (w : World) (h : RepAt w b own r vm vl) (ok : RepOK r) :
  Calls Tryz.prog 117 #[.pointer (some ⟨b, 0, none⟩)] w fun e w' => e = .returned (.bool (!(nextOf r.mems own).isSome)) ∧ Below w.heap.size w w' := by
 have hb := behind_any b own r vm vl w h ok
 clear h ok
 generalize (nextOf r.mems own).getD 0 = x at *
 generalize (nextOf r.mems own).isSome = y at *
 go_enter Tryz.func117, Tryz.ntmps117
 go_wp2_with fail
 refine hb.mono ?_
 rintro e w1 ⟨rfl, hb1⟩
 go_wp2_with fail
 go_ret
 exact ⟨rfl, hb1⟩
set_option maxRecDepth 100000 in
set_option maxHeartbeats 1000000 in
theorem isFull_any (b : Nat) (own : Int) (r : Rep) (vm vl : Value) (w : World) (h : RepAt w b own r vm vl) :
  Calls Tryz.prog 130 #[.pointer (some ⟨b, 0, none⟩)] w fun e w' => e = .returned (.bool (decide ((24 : Int) ≤ (r.log.length : Int)))) ∧ w' = w := by
 have c4 := cell_of_heap h.blk 4
 obtain ⟨al, cl, rfl⟩ := owns_shape h.hl
 clear h
 go_enter Tryz.func130, Tryz.ntmps130
 go_wp2_with fail
 go_ret
 exact ⟨rfl, rfl⟩
def mval (m : Msg) (vm vl : Value) : Value := .agg #[.int .i64 m.kind, .int .i64 m.src, .int .i64 m.dst, .int .i64 m.epoch, .int .i64 m.ballot, .int .i64 m.vote, .int .i64 m.pos, .int .i64 m.value, vm, vl]
set_option maxRecDepth 100000 in
set_option maxHeartbeats 1000000 in
theorem isOfNow_any (b : Nat) (own : Int) (r : Rep) (vm vl : Value) (m : Msg) (mm ml : Value) (w : World) (h : RepAt w b own r vm vl) (ok : RepOK r) :
  Calls Tryz.prog 129 #[.pointer (some ⟨b, 0, none⟩), mval m mm ml] w fun e w' => e = .returned (.bool (r.live own && decide (m.epoch = r.epoch))) ∧ Below w.heap.size w w' := by
 have HC : Hid (∀ W, Below w.heap.size w W → Calls Tryz.prog 116 #[.pointer (some ⟨b, 0, none⟩)] W fun e w' => e = .returned (.bool (r.live own)) ∧ ∃ q, w' = W.drewN q) := hideA fun W hb => isLive_any b own r vm vl W (h.below hb) ok
 have c1 : ∀ o, (w.alloc o).cell? ⟨b, 1, none⟩ = some (.int .i64 r.epoch) := fun o => cell_later ((Below.refl _ w).alloc (Nat.le_refl _) o) (cell_of_heap h.blk 1)
 clear h ok
 unfold mval
 have HD : Hid ((r.live own && decide (m.epoch = r.epoch)) = (r.live own && (m.epoch == r.epoch))) := hideA rfl
 rw [HD.out]
 generalize r.live own = lv at *
 go_enter Tryz.func129, Tryz.ntmps129
 go_wp2_with fail
 cases lv with
 | false =>
  go_quiet ((go_at_call 116; refine (HC.out _ (below_drewN ((Below.refl _ _).alloc (Nat.le_refl _) _) _)).mono ?_; rintro e w9 ⟨rfl, q9, rfl⟩; exact ⟨rfl, _, World.drewN_drewN _ _ _⟩))
  go_wp2
  go_ret
  exact ⟨rfl, below_drewN ((Below.refl _ _).alloc (Nat.le_refl _) _) _⟩
 | true =>
  go_quiet ((go_at_call 116; refine (HC.out _ (below_drewN ((Below.refl _ _).alloc (Nat.le_refl _) _) _)).mono ?_; rintro e w9 ⟨rfl, q9, rfl⟩; exact ⟨rfl, _, World.drewN_drewN _ _ _⟩))
  go_wp2
  go_ret
  exact ⟨rfl, below_drewN ((Below.refl _ _).alloc (Nat.le_refl _) _) _⟩
attribute [local go_sem] Oper.semAt_some
def entV (e : Ent) : Value := .agg #[.int .i64 e.client, .int .i64 e.seq, .int .i64 e.kind, .int .i64 e.key, .int .i64 e.value]
def LogB (w : World) (v : Value) (es : List Ent) : Prop := (es = [] ∧ ∃ a c, v = .slice a 0 c) ∨ (∃ g c, v = .slice (some ⟨g, 0, none⟩) es.length c ∧ RowIs w g es)
def entT : TypeId → Bool := fun T => T == 46
theorem RowIs.keepS {A B : World} {g : Nat} {es : List Ent} (h : RowIs A g es) (k : KeepS entT A B) : RowIs B g es := by
 obtain ⟨cur, fz, h1, h2⟩ := h
 have h3 := k g cur 46 fz rfl h1
 have e : B.heap[g]? = A.heap[g]? := h3.trans h1.symm
 refine ⟨cur, fz, h3, fun i hi => ?_⟩
 rw [cell_same e, cell_same e, cell_same e, cell_same e, cell_same e]
 exact h2 i hi
theorem LogB.keepS {A B : World} {v : Value} {es : List Ent} (h : LogB A v es) (k : KeepS entT A B) : LogB B v es := by
 rcases h with h | ⟨g, c, rfl, h⟩
 ·exact .inl h
 ·exact .inr ⟨g, c, rfl, h.keepS k⟩
theorem LogB.below {A B : World} {v : Value} {es : List Ent} (h : LogB A v es) (k : Below A.heap.size A B) : LogB B v es := h.keepS (KeepS.below k)
theorem LogB.of_owns {w : World} {base : Nat} {v : Value} {es : List Ent} (h : w.ownsRow base 46 5 v es.length (ints (entsNums es))) : LogB w v es := by
 rcases h.2 with ⟨rfl, h0⟩ | ⟨g, cap, cur, rfl, _⟩
 ·exact .inl ⟨List.eq_nil_of_length_eq_zero h0, _, _, rfl⟩
 ·exact .inr ⟨g, cap, rfl, RowIs.of_owns h⟩
theorem LogB.shape {w : World} {v : Value} {es : List Ent} (h : LogB w v es) : ∃ a c, v = .slice a es.length c := by
 rcases h with ⟨rfl, a, c, rfl⟩ | ⟨g, c, rfl, _⟩
 ·exact ⟨a, c, rfl⟩
 ·exact ⟨_, c, rfl⟩
theorem RowIs.take {w : World} {g : Nat} {es : List Ent} (h : RowIs w g es) (k : Nat) : RowIs w g (es.take k) := by
 obtain ⟨cur, fz, h1, h2⟩ := h
 refine ⟨cur, fz, h1, fun i hi => ?_⟩
 rw [List.length_take] at hi
 have e : (es.take k).getD i Ent.zero = es.getD i Ent.zero := by simp [List.getD, List.getElem?_take_of_lt (show i < k by omega)]
 rw [e]
 exact h2 i (by omega)
def fitAt (P : Ent → Bool) (es : List Ent) (i : Nat) : Option (Nat × Ent) := if P (es.getD i Ent.zero) then some (i, es.getD i Ent.zero) else none
def fitTo (P : Ent → Bool) (es : List Ent) (k : Nat) : List (Nat × Ent) := (List.range k).filterMap (fitAt P es)
def fitList (P : Ent → Bool) (es : List Ent) : List (Nat × Ent) := fitTo P es es.length
theorem fitTo_succ (P : Ent → Bool) (es : List Ent) (k : Nat) : fitTo P es (k + 1) = fitTo P es k ++ (if P (es.getD k Ent.zero) then [(k, es.getD k Ent.zero)] else []) := by
 unfold fitTo
 rw [List.range_succ, List.filterMap_append]
 congr 1
 rw [List.filterMap_cons, List.filterMap_nil]
 unfold fitAt
 split <;> rename_i h <;> split at h <;> simp_all
theorem fitTo_prefix (P : Ent → Bool) (es : List Ent) (k : Nat) (hk : k ≤ es.length) : fitTo P es k <+: fitList P es := by
 unfold fitList fitTo
 obtain ⟨d, hd⟩ : ∃ d, es.length = k + d := ⟨es.length - k, by omega⟩
 rw [hd, List.range_add, List.filterMap_append]
 exact List.prefix_append _ _
def CellsOK (ps : List (Addr × Value)) (W : World) : Prop := ∀ q ∈ ps, W.cell? q.1 = some q.2
theorem CellsOK.below {ps : List (Addr × Value)} {A B : World} (h : CellsOK ps A) (hb : Below A.heap.size A B) : CellsOK ps B := fun q hq => cell_later hb (h q hq)
def KeepF (ps : List (Addr × Value)) (A B : World) : Prop := KeepS entT A B ∧ (CellsOK ps A → CellsOK ps B)
theorem KeepF.trans {ps : List (Addr × Value)} {A B C : World} (h : KeepF ps A B) (k : KeepF ps B C) : KeepF ps A C := ⟨h.1.trans k.1, fun x => k.2 (h.2 x)⟩
theorem KeepF.below {ps : List (Addr × Value)} {A B : World} (h : Below A.heap.size A B) : KeepF ps A B := ⟨KeepS.below h, fun x => x.below h⟩
theorem keepF_put (ps : List (Addr × Value)) (W : World) (l : Nat) (o o' : Obj) (hl : W.heap[l]? = some o) (hc : o.isCells = false) : KeepF ps W (W.putObj l o') :=
 ⟨keepS_put entT W l o o' hl hc, fun h q hq => (keepS_put allT W l o o' hl hc).cell (h q hq)⟩
set_option maxRecDepth 100000 in
set_option maxHeartbeats 4000000 in
theorem fitting1_in (n l B0 B1 : Nat) (v : Value) (es : List Ent) (gf : Nat) (gb : Array Value) (P : Ent → Bool) (ps : List (Addr × Value)) (hl : es.length ≤ 1000)
  (J Jx : List (Nat × Ent) → World → Prop) (W : World) (hJ : AbidesFrom W.heap.size J)
  (eg : ∀ args w, (callFunc gf args).run Tryz.prog w = .ok (.enter gf args) w)
  (hF : ∀ W1 e, CellsOK ps W1 → CallsIn Fence.wide (n - 1) Tryz.prog gf (#[entV e] ++ gb) W1 fun r W' => r = .returned (.bool (P e)) ∧ Below W1.heap.size W1 W')
  (hY : ∀ pre (y : Nat × Ent) W1, J pre W1 → pre.length < (fitList P es).length → YieldAt Fence.wide (n - 1) Tryz.prog l #[.int .i64 y.1, entV y.2] W1 fun e W' =>
   (e = .returned (.bool true) ∧ J (pre ++ [y]) W' ∧ KeepF ((⟨B1, 0, none⟩, .func (.func gf) #[] gb) :: ps) W1 W') ∨ (e = .returned (.bool false) ∧ Jx (pre ++ [y]) W'))
  (h0 : W.cell? ⟨B0, 0, none⟩ = some v) (hps : CellsOK ((⟨B1, 0, none⟩, .func (.func gf) #[] gb) :: ps) W) (hv : LogB W v es) (hJ0 : J [] W) :
  CallsIn Fence.wide n Tryz.prog 148 #[.func (.yield l) #[] #[], .pointer (some ⟨B0, 0, none⟩), .pointer (some ⟨B1, 0, none⟩)] W fun e W' => (∃ v, e = .returned v) ∧
   ((∃ ys, ys = fitList P es ∧ J ys W') ∨ (∃ pre, pre <+: fitList P es ∧ Jx pre W')) := by
 rcases hv with ⟨rfl, a, c, rfl⟩ | ⟨g, c, rfl, hv⟩
 ·refine callsIn_of_wp Tryz.func148 rfl trivial ?_ rfl
  simp only [Tryz.ntmps148, List.size_toArray, List.length_cons, List.length_nil, Nat.reduceAdd, Nat.reduceSub, Array.replicate_succ, Array.replicate_zero, List.push_toArray, List.append_toArray, List.nil_append, List.cons_append]
  gi_wp2_with fail
  gi_loopw [8] (fun i wr => i = .int .i64 0 ∧ J [] wr) (fun _ _ => 0)
  case atStart => exact ⟨rfl, hJ0⟩
  case round =>
   obtain ⟨rfl, hJs⟩ := hrel
   gi_wp2
   go_end0
   exact ⟨⟨_, rfl⟩, .inl ⟨_, rfl, hJs⟩⟩
 ·have HV := hideA hv
  have HP := hideA hps
  have HF := hideA hF
  have HY := hideA hY
  clear hv hF hY hps
  refine callsIn_of_wp Tryz.func148 rfl trivial ?_ rfl
  simp only [Tryz.ntmps148, List.size_toArray, List.length_cons, List.length_nil, Nat.reduceAdd, Nat.reduceSub, Array.replicate_succ, Array.replicate_zero, List.push_toArray, List.append_toArray, List.nil_append, List.cons_append]
  gi_wp2_with fail
  gi_loopw [8] (fun i wr => ∃ k : Nat, k ≤ es.length ∧ i = .int .i64 k ∧ J (fitTo P es k) wr ∧ Hid (RowIs wr g es) ∧ Hid (CellsOK ((⟨B1, 0, none⟩, .func (.func gf) #[] gb) :: ps) wr)) (fun i _ => es.length - (intOf i).toNat)
  case atStart => exact ⟨0, Nat.zero_le _, rfl, hJ0, HV, HP⟩
  case round =>
   obtain ⟨k, hk, rfl, hJk, hR, hP⟩ := hrel
   by_cases hlt : k < es.length
   ·obtain ⟨cur, fz, hg, hc⟩ := hR.out
    obtain ⟨c0, c1, c2, c3, c4⟩ := hc k hlt
    have hfn : wr.cell? ⟨B1, 0, none⟩ = some (.func (.func gf) #[] gb) := hP.out _ List.mem_cons_self
    have hlB : B1 < wr.heap.size := by
     rcases Nat.lt_or_ge B1 wr.heap.size with h | h
     ·exact h
     ·simp [World.cell?, Array.getElem?_eq_none h] at hfn
    have hs := hideA (fitTo_succ P es k)
    have Hpre := hideA (fitTo_prefix P es (k + 1) (by omega))
    generalize es.getD k Ent.zero = x at *
    clear hc hg
    gi_wp2_with fail
    obtain ⟨A, hA, hbA, hszA, qA, -⟩ := boxed wr #[.int .i64 x.client, .int .i64 x.seq, .int .i64 x.kind, .int .i64 x.key, .int .i64 x.value] 46
    rw [hA]
    clear hA
    have hPA := hP.out.below hbA
    refine ⟨trivial, by simp [Fence.wide], (HF.out A x (fun q hq => hPA q (List.mem_cons_of_mem _ hq))).mono ?_⟩
    rintro e A2 ⟨rfl, hbA2⟩
    have hb2 : Below wr.heap.size wr A2 := hbA.trans (hbA2.mono hbA.size)
    have hJ2 := hJ _ _ _ none hJk (grown_of_below hb2) (fun r e => by cases e)
    have hR2 := hideA (hR.out.keepS (KeepS.below hb2))
    have hP2 := hideA (hP.out.below hb2)
    cases hpx : P x with
    | false =>
     have ht : Hid (fitTo P es (k + 1) = fitTo P es k) := hideA (by rw [hs.out, hpx]; simp)
     gi_wp2
     refine ⟨fun f h => (by cases h), ?_⟩
     gi_wp2
     go_roundw
     case rel => exact ⟨k + 1, by omega, by go_num, by rw [ht.out]; exact hJ2, hR2, hP2⟩
     case measure => simp [intOf]; omega
    | true =>
     have ht : Hid (fitTo P es (k + 1) = fitTo P es k ++ [(k, x)]) := hideA (by rw [hs.out, hpx]; simp)
     have d0 := cell_later hbA2 (qA 0)
     have d1 := cell_later hbA2 (qA 1)
     have d2 := cell_later hbA2 (qA 2)
     have d3 := cell_later hbA2 (qA 3)
     have d4 := cell_later hbA2 (qA 4)
     obtain ⟨fn, tmps, assign, body, hy, hRd⟩ := HY.out (fitTo P es k) (k, x) _ hJ2 (by
      have := Hpre.out.length_le
      rw [ht.out, List.length_append] at this
      simp at this
      omega)
     clear qA
     dsimp only [entV] at hy
     gi_wp2
     refine ⟨by simp [Fence.wide], hRd.mono ?_⟩
     rintro e W3 (⟨rfl, hJ3, hk3⟩ | ⟨rfl, hJx3⟩)
     ·gi_wp2
      go_roundw
      case rel => exact ⟨k + 1, by omega, by go_num, by rw [ht.out]; exact hJ3, hideA (hR2.out.keepS hk3.1), hideA (hk3.2 hP2.out)⟩
      case measure => simp [intOf]; omega
     ·gi_wp2
      refine bodyPost_ret (results_none rfl _ _ _) rfl ?_
      exact ⟨⟨_, rfl⟩, .inr ⟨_, by rw [← ht.out]; exact Hpre.out, hJx3⟩⟩
   ·obtain rfl : k = es.length := by omega
    gi_wp2
    go_end0
    exact ⟨⟨_, rfl⟩, .inl ⟨_, rfl, hJk⟩⟩
theorem fitting_stops (n B0 B1 : Nat) (v : Value) (es : List Ent) (gf : Nat) (gb : Array Value) (P : Ent → Bool) (ps : List (Addr × Value)) (w : World) (hl : es.length ≤ 1000)
  (eg : ∀ args w, (callFunc gf args).run Tryz.prog w = .ok (.enter gf args) w)
  (hF : ∀ W1 e, CellsOK ps W1 → CallsIn Fence.wide (n - 1) Tryz.prog gf (#[entV e] ++ gb) W1 fun r W' => r = .returned (.bool (P e)) ∧ Below W1.heap.size W1 W')
  (h0 : w.cell? ⟨B0, 0, none⟩ = some v) (hps : CellsOK ((⟨B1, 0, none⟩, .func (.func gf) #[] gb) :: ps) w) (hv : LogB w v es) :
  SeqStopsK Fence.wide n Tryz.prog 148 #[.pointer (some ⟨B0, 0, none⟩), .pointer (some ⟨B1, 0, none⟩)] (fun y : Nat × Ent => #[Value.int .i64 (y.1 : Int), entV y.2]) (KeepF ((⟨B1, 0, none⟩, .func (.func gf) #[] gb) :: ps)) (fun ys => ys = fitList P es) (fun pre => pre <+: fitList P es) (fitList P es).length w :=
 fun l J Jx W hW hJ _ hY hJ0 => fitting1_in n l B0 B1 v es gf gb P ps hl J Jx W hJ eg hF hY (cell_later hW h0) (hps.below hW) (hv.below hW) hJ0
end Go.Proofs.YtlminmokpmdgoabGreat
