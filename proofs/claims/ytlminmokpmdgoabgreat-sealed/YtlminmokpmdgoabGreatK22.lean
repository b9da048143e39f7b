import Derived.Test.YtlminmokpmdgoabGreatK20
import Derived.Test.YtlminmokpmdgoabGreatK21
import Derived.Deep.Upon
namespace Go.Proofs.YtlminmokpmdgoabGreat
open Go.RowKit Go.Shelf
abbrev MsgV := Msg × Value × Value
def mcells (t : MsgV) : List Value := [.int .i64 t.1.kind, .int .i64 t.1.src, .int .i64 t.1.dst, .int .i64 t.1.epoch, .int .i64 t.1.ballot, .int .i64 t.1.vote, .int .i64 t.1.pos, .int .i64 t.1.value, t.2.1, t.2.2]
def ListsOwn (w : World) (ws : List MsgV) : Prop := ∀ t ∈ ws, IntOwn w t.2.1 t.1.mems ∧ LogOwn w t.2.2 t.1.log
def MsgsOwn (w : World) (base : Nat) (v : Value) (ms : List Msg) : Prop :=
 ∃ ws : List MsgV, ws.map Prod.fst = ms ∧ w.ownsRow base 110 10 v ms.length (ws.flatMap mcells) ∧ ListsOwn w ws
theorem MsgsOwn.nil (w : World) (base : Nat) : MsgsOwn w base (.slice none 0 0) [] := ⟨[], rfl, World.ownsRow_nil _ _ _ _, fun t h => by cases h⟩
theorem MsgsOwn.one {w : World} {base g : Nat} (m : Msg) (vm vl : Value) (hg : w.heap[g]? = some (.cells (mcells (m, vm, vl)).toArray 110)) (hb : base ≤ g) (h1 : IntOwn w vm m.mems) (h2 : LogOwn w vl m.log) : MsgsOwn w base (.slice (some ⟨g, 0, none⟩) 1 1) [m] := by
 refine ⟨[(m, vm, vl)], rfl, ⟨rfl, .inr ⟨g, 1, _, rfl, hb, hg, Nat.le_refl _, by unfold maxLen; omega, rfl, rfl⟩⟩, ?_⟩
 intro t ht
 simp only [List.mem_cons, List.not_mem_nil, or_false] at ht
 subst ht
 exact ⟨h1, h2⟩
theorem IntOwn.nil (w : World) : IntOwn w (.slice none 0 0) [] := World.ownsRow_nil _ _ _ _
theorem LogOwn.nil (w : World) : LogOwn w (.slice none 0 0) [] := World.ownsRow_nil _ _ _ _
set_option maxRecDepth 100000 in
set_option maxHeartbeats 2000000 in
theorem ackAhead_any (b : Nat) (own : Int) (r : Rep) (vm vl : Value) (w : World) (h : RepAt w b own r vm vl) (ok : RepOK r) :
  Calls Tryz.prog 124 #[.pointer (some ⟨b, 0, none⟩)] w fun e w' => ∃ v, e = .returned v ∧ MsgsOwn w' w.heap.size v (r.acks own) ∧ Below w.heap.size w w' := by
 have hb := ahead_any b own r vm vl w h ok
 have HB := hideA h.blk
 have HA : Hid (r.acks own = match prevOf r.mems own with
  | none => []
  | some a => [{ kind := 3, src := own, dst := a, epoch := r.epoch, pos := r.commit }]) := hideA rfl
 clear h ok
 cases hp : prevOf r.mems own with
 | none =>
  rw [hp] at hb HA
  go_enter Tryz.func124, Tryz.ntmps124
  go_wp2_with fail
  refine hb.mono ?_
  rintro e w1 ⟨rfl, hb1⟩
  go_wp2_with fail
  go_ret
  exact ⟨_, rfl, by rw [HA.out]; exact MsgsOwn.nil _ _, hb1⟩
 | some a =>
  rw [hp] at hb HA
  go_enter Tryz.func124, Tryz.ntmps124
  go_wp2_with fail
  refine hb.mono ?_
  rintro e w1 ⟨rfl, hb1⟩
  have c0 : w1.cell? ⟨b, 0, none⟩ = some (.int .i64 own) := cell_later hb1 (cell_of_heap HB.out 0)
  have c1 : w1.cell? ⟨b, 1, none⟩ = some (.int .i64 r.epoch) := cell_later hb1 (cell_of_heap HB.out 1)
  have c6 : w1.cell? ⟨b, 6, none⟩ = some (.int .i64 (r.commit : Int)) := cell_later hb1 (cell_of_heap HB.out 6)
  clear hb
  go_upto_region 4 with fail
  go_region_held3 (fun w' => w'.cell? ⟨b, 0, none⟩ = some (.int .i64 own) ∧ w'.cell? ⟨b, 1, none⟩ = some (.int .i64 r.epoch) ∧ w'.cell? ⟨b, 6, none⟩ = some (.int .i64 (r.commit : Int))) (first | (simp [go_sem]; done) | (simp [go_sem, *]; done) | go_keep) (fail)
  all_goals
   go_wp2_with fail
   go_ret
   exact ⟨_, rfl, by rw [HA.out]; exact MsgsOwn.one _ _ _ (heap_new _ _) hb1.size (IntOwn.nil _) (LogOwn.nil _), (hb1.alloc hb1.size _).drew⟩
theorem heap_new2 (w : World) (o o2 : Obj) : ((w.alloc o).alloc o2).heap[w.heap.size + 1]? = some o2 := by
 have := heap_new (w.alloc o) o2
 rwa [World.size_alloc] at this
theorem ent_row {w : World} {g : Nat} (e : Ent) (hg : w.heap[g]? = some (.cells #[.int .i64 e.client, .int .i64 e.seq, .int .i64 e.kind, .int .i64 e.key, .int .i64 e.value] 46)) : LogOwn w (.slice (some ⟨g, 0, none⟩) 1 1) [e] :=
 ⟨rfl, .inr ⟨g, 1, _, rfl, Nat.zero_le _, hg, Nat.le_refl _, by unfold maxLen; omega, rfl, rfl⟩⟩
set_option maxRecDepth 100000 in
set_option maxHeartbeats 2000000 in
theorem forward_any (b : Nat) (own : Int) (r : Rep) (vm vl : Value) (nx : Int) (P : Nat) (w : World) (h : RepAt w b own r vm vl) (ok : RepOK r) (hP : P < r.log.length) :
  Calls Tryz.prog 126 #[.pointer (some ⟨b, 0, none⟩), .int .i64 nx, .int .i64 (P : Int)] w fun e w' => ∃ vl', e = .returned (mval (r.forward own nx P) (.slice none 0 0) vl') ∧ LogOwn w' vl' (r.forward own nx P).log ∧ Below w.heap.size w w' := by
 obtain ⟨al, cl, rfl⟩ := owns_shape h.hl
 have hlog := LogAt.of_owns h.hl
 have HB := hideA h.blk
 have c0 : ∀ o, (w.alloc o).cell? ⟨b, 0, none⟩ = some (.int .i64 own) := fun o => cell_later ((Below.refl _ w).alloc (Nat.le_refl _) o) (cell_of_heap h.blk 0)
 have c1 : ∀ o, (w.alloc o).cell? ⟨b, 1, none⟩ = some (.int .i64 r.epoch) := fun o => cell_later ((Below.refl _ w).alloc (Nat.le_refl _) o) (cell_of_heap h.blk 1)
 have c4 : ∀ o, (w.alloc o).cell? ⟨b, 4, none⟩ = some (.slice al r.log.length cl) := fun o => cell_later ((Below.refl _ w).alloc (Nat.le_refl _) o) (cell_of_heap h.blk 4)
 obtain ⟨a', c', e', hc⟩ := hlog
 cases e'
 obtain ⟨g, off, rfl, e0, e1, e2, e3, e4⟩ := hc P hP
 have d0 := fun o => cell_later ((Below.refl _ w).alloc (Nat.le_refl _) o) e0
 have d1 := fun o => cell_later ((Below.refl _ w).alloc (Nat.le_refl _) o) e1
 have d2 := fun o => cell_later ((Below.refl _ w).alloc (Nat.le_refl _) o) e2
 have d3 := fun o => cell_later ((Below.refl _ w).alloc (Nat.le_refl _) o) e3
 have d4 := fun o => cell_later ((Below.refl _ w).alloc (Nat.le_refl _) o) e4
 have hb2 : ∀ o o2, Below w.heap.size w ((w.alloc o).alloc o2) := fun o o2 => ((Below.refl _ w).alloc (Nat.le_refl _) o).alloc (by simp) o2
 have f0 : ∀ o o2, ((w.alloc o).alloc o2).cell? ⟨b, 0, none⟩ = some (.int .i64 own) := fun o o2 => cell_later (hb2 o o2) (cell_of_heap HB.out 0)
 have f1 : ∀ o o2, ((w.alloc o).alloc o2).cell? ⟨b, 1, none⟩ = some (.int .i64 r.epoch) := fun o o2 => cell_later (hb2 o o2) (cell_of_heap HB.out 1)
 have f4 : ∀ o o2, ((w.alloc o).alloc o2).cell? ⟨b, 4, none⟩ = some (.slice (some ⟨g, off, none⟩) r.log.length cl) := fun o o2 => cell_later (hb2 o o2) (cell_of_heap HB.out 4)
 have g0 := fun o o2 => cell_later (hb2 o o2) e0
 have g1 := fun o o2 => cell_later (hb2 o o2) e1
 have g2 := fun o o2 => cell_later (hb2 o o2) e2
 have g3 := fun o o2 => cell_later (hb2 o o2) e3
 have g4 := fun o o2 => cell_later (hb2 o o2) e4
 have HF : Hid (r.forward own nx P = { kind := 2, src := own, dst := nx, epoch := r.epoch, pos := P, log := [r.log.getD P Ent.zero] }) := hideA rfl
 have hl24 := ok.l
 have hbl : b < w.heap.size := (Array.getElem?_eq_some_iff.1 HB.out).1
 clear h ok hc e0 e1 e2 e3 e4
 rw [HF.out]
 generalize r.log.getD P Ent.zero = x at *
 go_enter Tryz.func126, Tryz.ntmps126
 go_wp2_with fail
 go_region_held3 (fun w' => w'.cell? ⟨b, 0, none⟩ = some (.int .i64 own) ∧ w'.cell? ⟨b, 1, none⟩ = some (.int .i64 r.epoch) ∧ w'.cell? ⟨b, 4, none⟩ = some (.slice (some ⟨g, off, none⟩) r.log.length cl) ∧ w'.cell? ⟨g, off + P * 5, none⟩ = some (.int .i64 x.client) ∧ w'.cell? ⟨g, off + P * 5 + 1, none⟩ = some (.int .i64 x.seq) ∧ w'.cell? ⟨g, off + P * 5 + 2, none⟩ = some (.int .i64 x.kind) ∧ w'.cell? ⟨g, off + P * 5 + 3, none⟩ = some (.int .i64 x.key) ∧ w'.cell? ⟨g, off + P * 5 + 4, none⟩ = some (.int .i64 x.value)) (first | (simp [go_sem]; done) | (simp [go_sem, *]; done) | go_keep) (fail)
 all_goals
  go_wp2_with fail
  refine bodyPost_ret (v := mval { kind := 2, src := own, dst := nx, epoch := r.epoch, pos := P, log := [x] } (.slice none 0 0) (.slice (some ⟨w.heap.size + 1, 0, none⟩) 1 1)) (by simp [results, Tryz.results126, go_sem, mval]) rfl ?_
  exact ⟨_, rfl, ent_row x (heap_new2 _ _ _), (hb2 _ _).drew⟩
theorem infoMsg : (Tryz.prog.info? 110).map (fun i => (i.zero, i.size, i.bytes)) = some (some (.agg #[.int .i64 0, .int .i64 0, .int .i64 0, .int .i64 0, .int .i64 0, .int .i64 0, .int .i64 0, .int .i64 0, .slice none 0 0, .slice none 0 0]), 10, 112) := by kernel_rfl
theorem mcells_one (t : MsgV) (h1 : ∃ a n c, t.2.1 = .slice a n c) (h2 : ∃ a n c, t.2.2 = .slice a n c) : ∀ u ∈ mcells t, u.oneCell' = true := by
 obtain ⟨m, vm, vl⟩ := t
 obtain ⟨a, n, c, rfl⟩ := h1
 obtain ⟨a', n', c', rfl⟩ := h2
 intro u hu
 simp only [mcells, List.mem_cons, List.not_mem_nil, or_false] at hu
 rcases hu with rfl | rfl | rfl | rfl | rfl | rfl | rfl | rfl | rfl | rfl <;> rfl
theorem flat_len (ws : List MsgV) : (ws.flatMap mcells).length = ws.length * 10 := by
 induction ws with
 | nil => rfl
 | cons t l ih => rw [List.flatMap_cons, List.length_append, ih, List.length_cons, show (mcells t).length = 10 from rfl]; omega
theorem append_msg (W : World) (base : Nat) (v : Value) (n : Nat) (ws : List MsgV) (t : MsgV) (g : Nat) (hown : W.ownsRow base 110 10 v n (ws.flatMap mcells)) (hg : W.heap[g]? = some (.cells (mcells t).toArray 110))
  (hl : n ≤ 100000) (hb : base ≤ W.heap.size) (h1 : ∃ a n c, t.2.1 = .slice a n c) (h2 : ∃ a n c, t.2.2 = .slice a n c) :
  ∃ g' cap W', (∀ ty, (Builtin.append_ #[80, 80] ty #[v, .slice (some ⟨g, 0, none⟩) 1 1]).run Tryz.prog W = .ok (.slice (some ⟨g', 0, none⟩) (n + 1) cap) W') ∧
   W'.ownsRow base 110 10 (.slice (some ⟨g', 0, none⟩) (n + 1) cap) (n + 1) ((ws ++ [t]).flatMap mcells) ∧ W.grownBy W' v.ownBlock := by
 obtain ⟨i0, hi, hz0, hz1, hz2⟩ := info_parts infoMsg
 have hA : ∀ ty, ∃ g' cap W', (Builtin.append_ #[80, 80] ty #[v, .slice (some ⟨g, 0, none⟩) 1 1]).run Tryz.prog W = .ok (.slice (some ⟨g', 0, none⟩) (n + 1) cap) W' ∧
   W'.ownsRow base 110 10 (.slice (some ⟨g', 0, none⟩) (n + 1) cap) (n + 1) ((ws ++ [t]).flatMap mcells) ∧ W.grownBy W' v.ownBlock := fun ty => by
  obtain ⟨g', cap, W', hr, h2, h3, -, -⟩ := run_append_lies (P := Tryz.prog) W 80 ty base 110 i0 _ 10 112 Tryz.underlying80 hi hz0 hz1 hz2 rfl (by decide) v n (ws.flatMap mcells) hown ⟨g, 0, none⟩ 1 1 (mcells t) rfl
   (fun j u hj => World.news_of_block hg j u (by simpa using hj)) (mcells_one t h1 h2) (by omega) (by unfold maxLen; omega) (by omega) hb _ rfl
  exact ⟨g', cap, W', hr, by rw [List.flatMap_append]; simpa using h2, h3⟩
 obtain ⟨g', cap, W', hr, h2, h3⟩ := hA 0
 refine ⟨g', cap, W', fun ty => ?_, h2, h3⟩
 rw [← hr]
 rfl
theorem opIn_append {l n : Nat} {ops : Array Oper} {o : Oper} {a : Act} {W : World} {K : Act → World → Prop} {Q : Exit → Act → World → Prop} {E : Prop} (hg : o.guard = none) (s x : Operand) (t : TypeId)
  (hop : o.op = Op.call { callee := Callee.builtin Builtin.append, args := #[s, x], argTypes := #[t, t] }) (v u v' : Value) (W' : World) (hs : a.eval s = v) (hx : a.eval x = u)
  (hrun : ∀ ty, (Builtin.append_ #[t, t] ty #[v, u]).run Tryz.prog W = .ok v' W') (h : K (a.put o.dst v') W') :
  if Region.wanted o (yielded ops a.tmps) = true then Oper.wpIn (Fence.wide.inRound l) n Tryz.prog o a W K Q else E := by
 have hw : Region.wanted o (yielded ops a.tmps) = true := by simp [Region.wanted, hg]
 rw [if_pos hw]
 unfold Oper.wpIn
 refine ⟨?_, ?_⟩
 ·simp [Oper.about, hop, resolve, Target.leads, Sem.run_pure]
 ·rw [Oper.semAt_plain _ _ _ (by rw [hop]; intro c hc'; cases hc')]
  simp [execOp, hop, resolve, invoke, builtin, hs, hx, hrun, Result.andThen]
  exact h
theorem op_append {ops : Array Oper} {o : Oper} {a : Act} {W : World} {K : Act → World → Prop} {Q : Exit → Act → World → Prop} {E : Prop} (hg : o.guard = none) (s x : Operand) (t : TypeId)
  (hop : o.op = Op.call { callee := Callee.builtin Builtin.append, args := #[s, x], argTypes := #[t, t] }) (v u v' : Value) (W' : World) (hs : a.eval s = v) (hx : a.eval x = u)
  (hrun : ∀ ty, (Builtin.append_ #[t, t] ty #[v, u]).run Tryz.prog W = .ok v' W') (h : K (a.put o.dst v') W') :
  if Region.wanted o (yielded ops a.tmps) = true then Oper.wp Tryz.prog o a W K Q else E := by
 have hw : Region.wanted o (yielded ops a.tmps) = true := by simp [Region.wanted, hg]
 rw [if_pos hw]
 unfold Oper.wp execOp
 simp only [hop, resolve, invoke, builtin, Sem.run_bind, Sem.run_pure, Result.andThen_ok, List.map_toArray, List.map_cons, List.map_nil, hs, hx, hrun]
 exact h
theorem flat_one (ws : List MsgV) (h : ∀ t ∈ ws, (∃ a n c, t.2.1 = .slice a n c) ∧ ∃ a n c, t.2.2 = .slice a n c) : ∀ u ∈ ws.flatMap mcells, u.oneCell' = true := by
 intro u hu
 rw [List.mem_flatMap] at hu
 obtain ⟨t, ht, hu⟩ := hu
 exact mcells_one t (h t ht).1 (h t ht).2 u hu
theorem append_msgs (W : World) (base base2 : Nat) (v v2 : Value) (n n2 : Nat) (ws ws2 : List MsgV) (hown : W.ownsRow base 110 10 v n (ws.flatMap mcells)) (hown2 : W.ownsRow base2 110 10 v2 n2 (ws2.flatMap mcells)) (hls : ListsOwn W ws2)
  (hl : n + n2 ≤ 100000) (hb : base ≤ W.heap.size) :
  ∃ v3 W3, (∀ ty, (Builtin.append_ #[80, 80] ty #[v, v2]).run Tryz.prog W = .ok v3 W3) ∧ W3.ownsRow base 110 10 v3 (n + n2) ((ws ++ ws2).flatMap mcells) ∧ W.grownBy W3 v.ownBlock ∧ ∃ a c, v3 = .slice a (n + n2) c := by
 obtain ⟨i0, hi, hz0, hz1, hz2⟩ := info_parts infoMsg
 by_cases h0 : n2 = 0
 ·subst h0
  obtain rfl : ws2 = [] := by
   have := hown2.1
   rw [flat_len] at this
   exact List.eq_nil_of_length_eq_zero (by omega)
  obtain ⟨a, c, rfl, hle⟩ := own_cap hown
  obtain ⟨a2, c2, rfl⟩ := owns_shape hown2
  refine ⟨.slice a n c, W, fun ty => ?_, by simpa using hown, ⟨rfl, rfl, rfl, Nat.le_refl _, fun _ _ _ => rfl⟩, a, c, by simp⟩
  refine run_append_nothing W 80 80 ty 110 i0 Tryz.underlying80 hi a n c hle _ ?_
  cases a2 with
  | none => exact Src.ofNil W Tryz.underlying80 c2
  | some ad => exact Src.ofSlice W Tryz.underlying80 ad 0 c2 [] (by simp) (fun j u hj => by simp at hj) (fun u hu => by cases hu)
 ·obtain ⟨g2, cap2, hv2, -, -⟩ := hown2.form (by omega)
  subst hv2
  have hA : ∀ ty, ∃ g' cap W', (Builtin.append_ #[80, 80] ty #[v, .slice (some ⟨g2, 0, none⟩) n2 cap2]).run Tryz.prog W = .ok (.slice (some ⟨g', 0, none⟩) (n + n2) cap) W' ∧
    W'.ownsRow base 110 10 (.slice (some ⟨g', 0, none⟩) (n + n2) cap) (n + n2) ((ws ++ ws2).flatMap mcells) ∧ W.grownBy W' v.ownBlock := fun ty => by
   obtain ⟨g', cap, W', hr, h2, h3, -, -⟩ := run_append_lies (P := Tryz.prog) W 80 ty base 110 i0 _ 10 112 Tryz.underlying80 hi hz0 hz1 hz2 rfl (by decide) v n (ws.flatMap mcells) hown ⟨g2, 0, none⟩ n2 cap2 (ws2.flatMap mcells) hown2.1
    (fun j u hj => hown2.cells rfl j u hj) (flat_one ws2 (fun t ht => by
     obtain ⟨a, c, h1⟩ := owns_shape (hls t ht).1
     obtain ⟨a', c', h2⟩ := owns_shape (hls t ht).2
     exact ⟨⟨_, _, _, h1⟩, ⟨_, _, _, h2⟩⟩)) (by omega) (by unfold maxLen; omega) (by omega) hb _ rfl
   exact ⟨g', cap, W', hr, by rw [List.flatMap_append]; exact h2, h3⟩
  obtain ⟨g', cap, W', hr, h2, h3⟩ := hA 0
  refine ⟨_, W', fun ty => ?_, h2, h3, _, _, rfl⟩
  rw [← hr]
  rfl
theorem rdy1 {F : Fence} {n : Nat} {P : Program} {md : Region.Mode} {ops : Array Oper} {Q : Exit → Act → World → Prop} {fuel : Nat} {listed : Array Bool} {a : Act} {w : World} (i : Nat) {o : Oper} (hr : Region.ready md ops listed = [i]) (ho : ops[i]? = some o)
  (h : ∀ K' : Act → World → Prop, (∀ a w, wpAnyIn F n P md ops Q fuel (listed.setIfInBounds i true) a w → K' a w) → if Region.wanted o (yielded ops a.tmps) = true then Oper.wpIn F n P o a w K' Q else (∀ f, o.about P w a.eval = some f → F.fn f) ∧ K' (a.put o.dst undef) w) : wpAnyIn F n P md ops Q (fuel + 1) listed a w :=
 wpAnyIn_ready (rs := [i]) hr (by simp) (.cons (i := i) ho h .nil)
attribute [local go_sem] Oper.semAt_some
def fromList (n p : Nat) : List (Fin n) := (List.finRange n).drop p
def fromTo (n p k : Nat) : List (Fin n) := (fromList n p).take k
theorem fromList_length (n p : Nat) : (fromList n p).length = n - p := by simp [fromList]
theorem fromTo_succ (n p k : Nat) (h : p + k < n) : fromTo n p (k + 1) = fromTo n p k ++ [⟨p + k, h⟩] := by
 unfold fromTo
 rw [List.take_succ_eq_append_getElem (by rw [fromList_length]; omega)]
 congr 2
 simp [fromList]
theorem fromTo_prefix (n p k : Nat) : fromTo n p k <+: fromList n p := List.take_prefix _ _
theorem fromTo_length (n p k : Nat) (h : p + k ≤ n) : (fromTo n p k).length = k := by unfold fromTo; rw [List.length_take, fromList_length]; omega
def placeV (es : List Ent) (y : Fin es.length) : Array Value := #[.int .i64 (y.val : Int), entV (es.getD y.val Ent.zero)]
set_option maxRecDepth 100000 in
set_option maxHeartbeats 4000000 in
theorem from1_in (n l B0 B1 : Nat) (v : Value) (es : List Ent) (p : Nat) (hl : es.length ≤ 1000) (hp : p ≤ es.length)
  (J Jx : List (Fin es.length) → World → Prop) (W : World)
  (hY : ∀ pre (y : Fin es.length) W1, J pre W1 → pre.length < (fromList es.length p).length → YieldAt Fence.wide (n - 1) Tryz.prog l (placeV es y) W1 fun e W' =>
   (e = .returned (.bool true) ∧ J (pre ++ [y]) W' ∧ KeepF [(⟨B1, 0, none⟩, v)] W1 W') ∨ (e = .returned (.bool false) ∧ Jx (pre ++ [y]) W'))
  (h0 : W.cell? ⟨B0, 0, none⟩ = some (.int .i64 (p : Int))) (hps : CellsOK [(⟨B1, 0, none⟩, v)] W) (hv : LogB W v es) (hJ0 : J [] W) :
  CallsIn Fence.wide n Tryz.prog 134 #[.func (.yield l) #[] #[], .pointer (some ⟨B0, 0, none⟩), .pointer (some ⟨B1, 0, none⟩)] W fun e W' => (∃ v, e = .returned v) ∧
   ((∃ ys, ys = fromList es.length p ∧ J ys W') ∨ (∃ pre, pre <+: fromList es.length p ∧ Jx pre W')) := by
 obtain ⟨a, c, rfl⟩ := hv.shape
 have HV := hideA hv
 have HP := hideA hps
 have HY := hideA hY
 clear hv hY hps
 have Hl : Hid ((fromList es.length p).length = es.length - p) := hideA (fromList_length _ _)
 refine callsIn_of_wp Tryz.func134 rfl trivial ?_ rfl
 simp only [Tryz.ntmps134, List.size_toArray, List.length_cons, List.length_nil, Nat.reduceAdd, Nat.reduceSub, Array.replicate_succ, Array.replicate_zero, List.push_toArray, List.append_toArray, List.nil_append, List.cons_append]
 gi_wp2_with fail
 gi_loopw [4] (fun i wr => ∃ k : Nat, k ≤ es.length - p ∧ i = .int .i64 ((p : Int) + k) ∧ J (fromTo es.length p k) wr ∧ Hid (LogB wr (.slice a es.length c) es) ∧ Hid (CellsOK [(⟨B1, 0, none⟩, .slice a es.length c)] wr)) (fun i _ => es.length - (intOf i).toNat)
 case atStart => exact ⟨0, Nat.zero_le _, by simp, hJ0, HV, HP⟩
 case round =>
  obtain ⟨k, hk, rfl, hJk, hR, hP⟩ := hrel
  have hB1 : wr.cell? ⟨B1, 0, none⟩ = some (.slice a es.length c) := hP.out _ List.mem_cons_self
  by_cases hlt : p + k < es.length
  ·have hR1 := hR.out
   rcases hR1 with ⟨h0, -⟩ | ⟨g, c', e', hrow⟩
   ·rw [h0] at hlt; simp at hlt
   cases e'
   obtain ⟨cur, fz, hg, hc⟩ := hrow
   obtain ⟨c0, c1, c2, c3, c4⟩ := hc (p + k) hlt
   have ht : Hid (fromTo es.length p (k + 1) = fromTo es.length p k ++ [⟨p + k, hlt⟩]) := hideA (fromTo_succ es.length p k hlt)
   have Hpre := hideA (fromTo_prefix es.length p (k + 1))
   obtain ⟨fn, tmps, assign, body, hy, hRd⟩ := HY.out (fromTo es.length p k) ⟨p + k, hlt⟩ _ hJk (by rw [fromTo_length _ _ _ (by omega), Hl.out]; omega)
   dsimp only [placeV, entV] at hy
   have hcast : ((p + k : Nat) : Int) = (p : Int) + (k : Int) := by omega
   rw [hcast] at hy
   have hk1 : (p : Int) + (k : Int) < (es.length : Int) := by omega
   have hk0 : (0 : Int) ≤ (p : Int) + (k : Int) := by omega
   have hkn : ((p : Int) + (k : Int)).toNat = p + k := by omega
   clear hc hg
   generalize es.getD (p + k) Ent.zero = x at c0 c1 c2 c3 c4 hy
   gi_wp2
   refine ⟨by simp [Fence.wide], hRd.mono ?_⟩
   rintro e W3 (⟨rfl, hJ3, hk3⟩ | ⟨rfl, hJx3⟩)
   ·gi_wp2
    go_roundw
    case rel => exact ⟨k + 1, by omega, by go_num, by rw [ht.out]; exact hJ3, hideA (hR.out.keepS hk3.1), hideA (hk3.2 hP.out)⟩
    case measure => simp [intOf]; omega
   ·gi_wp2
    refine bodyPost_ret (results_none rfl _ _ _) rfl ?_
    exact ⟨⟨_, rfl⟩, .inr ⟨_, by rw [← ht.out]; exact Hpre.out, hJx3⟩⟩
  ·obtain rfl : k = es.length - p := by omega
   have hk1 : ¬ (p : Int) + ((es.length - p : Nat) : Int) < (es.length : Int) := by omega
   gi_wp2
   go_end0
   exact ⟨⟨_, rfl⟩, .inl (by rw [show fromTo es.length p (es.length - p) = fromList es.length p from List.take_of_length_le (by rw [fromList_length]; exact Nat.le_refl _)] at hJk; exact hJk)⟩
theorem from_stops (n B0 B1 : Nat) (v : Value) (es : List Ent) (p : Nat) (w : World) (hl : es.length ≤ 1000) (hp : p ≤ es.length)
  (h0 : w.cell? ⟨B0, 0, none⟩ = some (.int .i64 (p : Int))) (hps : CellsOK [(⟨B1, 0, none⟩, v)] w) (hv : LogB w v es) :
  SeqStopsK Fence.wide n Tryz.prog 134 #[.pointer (some ⟨B0, 0, none⟩), .pointer (some ⟨B1, 0, none⟩)] (placeV es) (KeepF [(⟨B1, 0, none⟩, v)]) (fun ys => ys = fromList es.length p) (fun pre => pre <+: fromList es.length p) (fromList es.length p).length w :=
 fun l J Jx W hW _ _ hY hJ0 => from1_in n l B0 B1 v es p hl hp J Jx W hY (cell_later hW h0) (hps.below hW) (hv.below hW) hJ0
theorem from_any (m : Nat) (v : Value) (p : Int) (a : Option Addr) (n c : Nat) (hv : v = .slice a n c) (W : World) :
  CallsIn Fence.wide m Tryz.prog 125 #[v, .int .i64 p] W fun r W' => r = .returned (.func (.func 134) #[] #[.pointer (some ⟨W.heap.size + 1, 0, none⟩), .pointer (some ⟨W.heap.size, 0, none⟩)]) ∧ W' = (W.alloc (.cells #[v] 47)).alloc (.cells #[.int .i64 p] 3) := by
 subst hv
 refine callsIn_wide.2 ?_
 go_enter Tryz.func125, Tryz.ntmps125
 go_wp2
 go_ret
 exact ⟨rfl, rfl⟩
end Go.Proofs.YtlminmokpmdgoabGreat
namespace Go.Proofs.YtlminmokpmdgoabGreat
open Go.RowKit Go.Shelf
structure SentI (w : World) (B2 : Nat) (ps : List (Nat × TypeId × Value)) (ms : List Msg) (W : World) (v : Value) (ws : List MsgV) : Prop where
 sent : W.heap[B2]? = some (.cells #[v] 80)
 row : W.ownsRow w.heap.size 110 10 v ms.length (ws.flatMap mcells)
 msgs : ws.map Prod.fst = ms
 lists : ListsOwn W ws
 boxes : ∀ q ∈ ps, W.heap[q.1]? = some (.cells #[q.2.2] q.2.1)
 be : Below w.heap.size w W
theorem owns_cells {A B : World} (hc : ∀ (k : Nat) (cs : Array Value) (T : TypeId) (fz : Nat × Nat), A.heap[k]? = some (Obj.cells cs T fz) → B.heap[k]? = some (Obj.cells cs T fz)) {base size n : Nat} {e : TypeId} {v : Value} {xs : List Value} (h : A.ownsRow base e size v n xs) : B.ownsRow base e size v n xs := by
 refine ⟨h.1, ?_⟩
 rcases h.2 with h0 | ⟨g, cap, cur, rfl, hb, hg, rest⟩
 ·exact .inl h0
 ·exact .inr ⟨g, cap, cur, rfl, hb, hc g cur e _ hg, rest⟩
theorem SentI.keep {w : World} {B2 : Nat} {ps : List (Nat × TypeId × Value)} {ms : List Msg} {A B : World} {v : Value} {ws : List MsgV} (h : SentI w B2 ps ms A v ws)
  (hc : ∀ (k : Nat) (cs : Array Value) (T : TypeId) (fz : Nat × Nat), A.heap[k]? = some (Obj.cells cs T fz) → B.heap[k]? = some (Obj.cells cs T fz)) (hb : Below w.heap.size w B) : SentI w B2 ps ms B v ws where
 sent := hc _ _ _ _ h.sent
 row := owns_cells hc h.row
 msgs := h.msgs
 lists := fun t ht => ⟨owns_cells hc (h.lists t ht).1, owns_cells hc (h.lists t ht).2⟩
 boxes := fun q hq => hc _ _ _ _ (h.boxes q hq)
 be := hb
theorem cells_grown {A B : World} {row : Option Nat} (hg : A.grownBy B row) (hr : ∀ r, row = some r → ∃ o : Obj, A.heap[r]? = some o ∧ o.isCells = false) : ∀ (k : Nat) (cs : Array Value) (T : TypeId) (fz : Nat × Nat), A.heap[k]? = some (Obj.cells cs T fz) → B.heap[k]? = some (Obj.cells cs T fz) := by
 intro k cs T fz h
 refine (hg.block k (Array.getElem?_eq_some_iff.1 h).1 (fun e => ?_)).trans h
 obtain ⟨o, ho, hc⟩ := hr k e.symm
 rw [h] at ho
 injection ho with ho
 subst ho
 cases hc
theorem SentI.own {w : World} {B2 : Nat} {ps : List (Nat × TypeId × Value)} {α : Type} (f : List α → List Msg) {B0 : Nat} (hB : w.heap.size ≤ B0) : OwnFrom B0 (fun pre W => ∃ v ws, SentI w B2 ps (f pre) W v ws) := by
 rintro pre A B row ⟨v, ws, h⟩ hg hr
 refine ⟨v, ws, h.keep (cells_grown hg (fun r e => (hr r e).2)) ?_⟩
 exact h.be.grown hg h.be.size (fun k hk => Nat.le_trans hB (hr k hk).1)
theorem ownBlock_cells {w : World} {base size n : Nat} {e : TypeId} {v : Value} {xs : List Value} (h : w.ownsRow base e size v n xs) {k : Nat} (hk : v.ownBlock = some k) : ∃ cs, w.heap[k]? = some (.cells cs e) ∧ base ≤ k := by
 rcases h.2 with ⟨rfl, _⟩ | ⟨g, _, cur, rfl, hb, hg, _⟩
 ·cases hk
 ·have : g = k := by simpa [Value.ownBlock] using hk
  subst this
  exact ⟨cur, hg, hb⟩
theorem SentI.step {w : World} {B2 : Nat} {ps : List (Nat × TypeId × Value)} {ms : List Msg} {W W5 W7 : World} {v v' : Value} {ws : List MsgV} (t : MsgV) (h : SentI w B2 ps ms W v ws)
  (hb5 : Below W.heap.size W W5) (hI : IntOwn W5 t.2.1 t.1.mems) (hL : LogOwn W5 t.2.2 t.1.log)
  (hg : (W5.alloc (.cells (mcells t).toArray 110)).grownBy W7 v.ownBlock) (ho : W7.ownsRow w.heap.size 110 10 v' (ms.length + 1) ((ws ++ [t]).flatMap mcells))
  (hps : ∀ q ∈ ps, q.1 ≠ B2 ∧ q.2.1 ≠ 110) (hB2 : w.heap.size ≤ B2) :
  W7.cell? ⟨B2, 0, none⟩ = some v ∧ W7.frozen? ⟨B2, 0, none⟩ = false ∧ SentI w B2 ps (ms ++ [t.1]) (W7.setCell ⟨B2, 0, none⟩ v') v' (ws ++ [t]) ∧ KeepsOthers W (W7.setCell ⟨B2, 0, none⟩ v') ∧
   KeepS entT W (W7.setCell ⟨B2, 0, none⟩ v') := by
 have hrow5 : ∀ k, v.ownBlock = some k → ∃ cs, W.heap[k]? = some (.cells cs 110) ∧ w.heap.size ≤ k := fun k hk => ownBlock_cells h.row hk
 have h7 : ∀ k, k < W.heap.size → v.ownBlock ≠ some k → W7.heap[k]? = W.heap[k]? := fun k hk hne => by
  rw [hg.block k (by rw [World.size_alloc]; have := hb5.size; omega) (fun e => hne e.symm), Below.heap_alloc _ _ k (by have := hb5.size; omega)]
  exact hb5.block k hk
 have h57 : ∀ k, k < W5.heap.size → v.ownBlock ≠ some k → W7.heap[k]? = W5.heap[k]? := fun k hk hne => by
  rw [hg.block k (by rw [World.size_alloc]; omega) (fun e => hne e.symm), Below.heap_alloc _ _ k hk]
 have nrow : ∀ (k : Nat) (cs : Array Value) (T : TypeId), W.heap[k]? = some (Obj.cells cs T) → T ≠ 110 → v.ownBlock ≠ some k := fun k cs T hk hT e => by
  obtain ⟨cs', h', _⟩ := hrow5 k e
  rw [hk] at h'
  injection h' with h'
  injection h' with _ h'
  exact hT h'
 have hB2lt : B2 < W.heap.size := (Array.getElem?_eq_some_iff.1 h.sent).1
 have hsent7 : W7.heap[B2]? = some (.cells #[v] 80) := (h7 B2 hB2lt (nrow B2 _ _ h.sent (by decide))).trans h.sent
 have hne' : v'.ownBlock ≠ some B2 := fun e => by
  obtain ⟨cs', h', _⟩ := ownBlock_cells ho e
  rw [hsent7] at h'
  injection h' with h'
  injection h' with _ h'
  exact absurd h' (by decide)
 have other : ∀ k, k ≠ B2 → (W7.setCell ⟨B2, 0, none⟩ v').heap[k]? = W7.heap[k]? := fun k hk => Below.heap_setCell _ _ _ k hk
 have rows : ∀ {T : TypeId} {size n : Nat} {u : Value} {xs : List Value}, T ≠ 110 → T ≠ 80 → W5.ownsRow 0 T size u n xs → (W7.setCell ⟨B2, 0, none⟩ v').ownsRow 0 T size u n xs := by
  intro T size n u xs hT1 hT2 ho5
  refine ⟨ho5.1, ?_⟩
  rcases ho5.2 with h0 | ⟨g, cap, cur, rfl, hb, hgg, rest⟩
  ·exact .inl h0
  ·refine .inr ⟨g, cap, cur, rfl, hb, ?_, rest⟩
   have hg5 : g < W5.heap.size := (Array.getElem?_eq_some_iff.1 hgg).1
   have n1 : v.ownBlock ≠ some g := fun e => by
    obtain ⟨cs', h', _⟩ := hrow5 g e
    rw [← hb5.block g (Array.getElem?_eq_some_iff.1 h').1, hgg] at h'
    injection h' with h'
    injection h' with _ h'
    exact hT1 h'
   have n2 : g ≠ B2 := fun e => by
    subst e
    rw [hb5.block g hB2lt, h.sent] at hgg
    injection hgg with h'
    injection h' with _ h'
    exact hT2 h'.symm
   rw [other g n2, h57 g hg5 n1]
   exact hgg
 have bigger : W.heap.size ≤ W7.heap.size := by have := hg.size; rw [World.size_alloc] at this; have := hb5.size; omega
 refine ⟨?_, ?_, ?_, ?_, ?_⟩
 ·rw [cell_of_heap hsent7]; rfl
 ·exact frozen_of_heap hsent7 0
 ·refine ⟨?_, ?_, ?_, ?_, ?_, ?_⟩
  ·rw [heap_setCell_same W7 B2 0 _ _ _ hsent7]; rfl
  ·rw [List.length_append]
   exact ownsRow_setCell_other ho hne' _
  ·rw [List.map_append, h.msgs]
   rfl
  ·intro t' ht'
   rw [List.mem_append] at ht'
   rcases ht' with ht' | ht'
   ·have hl := h.lists t' ht'
    exact ⟨rows (by decide) (by decide) (owns_kept hl.1 fun k _ hk => hb5.block k hk), rows (by decide) (by decide) (owns_kept hl.2 fun k _ hk => hb5.block k hk)⟩
   ·simp only [List.mem_cons, List.not_mem_nil, or_false] at ht'
    subst ht'
    exact ⟨rows (by decide) (by decide) hI, rows (by decide) (by decide) hL⟩
  ·intro q hq
   have hq0 := h.boxes q hq
   rw [other q.1 (hps q hq).1, h7 q.1 (Array.getElem?_eq_some_iff.1 hq0).1 (nrow _ _ _ hq0 (hps q hq).2)]
   exact hq0
  ·refine Below.setCell ?_ (by show w.heap.size ≤ B2; exact hB2) _
   refine ⟨hg.os.trans (hb5.os.trans h.be.os), hg.tape.trans (hb5.tape.trans h.be.tape), hg.output.trans (hb5.output.trans h.be.output), Nat.le_trans h.be.size bigger, fun k hk => ?_⟩
   rw [h7 k (Nat.lt_of_lt_of_le hk h.be.size) (fun e => by obtain ⟨_, _, h'⟩ := hrow5 k e; omega)]
   exact h.be.block k hk
 ·refine ⟨by simpa using bigger, fun k o hk ho => ?_⟩
  have n1 : v.ownBlock ≠ some k := fun e => by
   obtain ⟨cs', h', _⟩ := hrow5 k e
   rw [hk] at h'
   injection h' with h'
   subst h'
   cases ho
  have n2 : k ≠ B2 := fun e => by
   subst e
   rw [h.sent] at hk
   injection hk with hk
   subst hk
   cases ho
  rw [other k n2, h7 k (Array.getElem?_eq_some_iff.1 hk).1 n1]
  exact hk
 ·intro k cs T fz hS hk
  have hT : T = 46 := by simpa [entT] using hS
  subst hT
  have n1 : v.ownBlock ≠ some k := fun e => by
   obtain ⟨cs', h', _⟩ := hrow5 k e
   rw [hk] at h'
   injection h' with h'
   injection h' with _ h'
   exact absurd h' (by decide)
  have n2 : k ≠ B2 := fun e => by
   subst e
   rw [h.sent] at hk
   injection hk with hk
   injection hk with _ hk
   exact absurd hk (by decide)
  rw [other k n2, h7 k (Array.getElem?_eq_some_iff.1 hk).1 n1]
  exact hk
end Go.Proofs.YtlminmokpmdgoabGreat
