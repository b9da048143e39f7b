import Derived.Test.YtgieeeeeiggoeaaRefA
import Derived.Deep.RegionHeld3
namespace Go.Proofs.Ytgieeeeeiggoeaa
open Go.RowKit

/-- A slice of entries that reads es. -/
def LogAt (w : World) (v : Value) (es : List Ent) : Prop :=
  ∃ a c, v = .slice a es.length c ∧ ∀ i, i < es.length → ∃ b off, a = some ⟨b, off, none⟩ ∧
    w.cell? ⟨b, off + i * 5, none⟩ = some (.int .i64 (es.getD i Ent.zero).client) ∧ w.cell? ⟨b, off + i * 5 + 1, none⟩ = some (.int .i64 (es.getD i Ent.zero).seq) ∧
    w.cell? ⟨b, off + i * 5 + 2, none⟩ = some (.int .i64 (es.getD i Ent.zero).kind) ∧ w.cell? ⟨b, off + i * 5 + 3, none⟩ = some (.int .i64 (es.getD i Ent.zero).key) ∧
    w.cell? ⟨b, off + i * 5 + 4, none⟩ = some (.int .i64 (es.getD i Ent.zero).value)

theorem LogAt.below {w w' : World} {v : Value} {es : List Ent} (h : LogAt w v es) (hb : Below w.heap.size w w') : LogAt w' v es := by
  obtain ⟨a, c, rfl, h⟩ := h
  refine ⟨a, c, rfl, fun i hi => ?_⟩
  obtain ⟨b, off, ha, h1, h2, h3, h4, h5⟩ := h i hi
  exact ⟨b, off, ha, cell_later hb h1, cell_later hb h2, cell_later hb h3, cell_later hb h4, cell_later hb h5⟩

/-- The value of a message. -/
def msgV (k f t ep ba vo po va : Int) (mem log : Value) : Value := .agg #[.int .i64 k, .int .i64 f, .int .i64 t, .int .i64 ep, .int .i64 ba, .int .i64 vo, .int .i64 po, .int .i64 va, mem, log]

theorem infoInt : (Try.prog.info? 3).map (fun i => (i.zero, i.size, i.bytes)) = some (some (.int .i64 0), 1, 8) := by kernel_rfl

/-- The cells of numbers. -/
def ints (l : List Int) : List Value := l.map (Value.int .i64)

theorem ints_length (l : List Int) : (ints l).length = l.length := by simp [ints]
theorem ints_append (l m : List Int) : ints (l ++ m) = ints l ++ ints m := by simp [ints]
theorem ints_one (l : List Int) : ∀ u ∈ ints l, u.oneCell' = true := by
  intro u hu
  simp only [ints, List.mem_map] at hu
  obtain ⟨n, _, rfl⟩ := hu
  rfl

theorem IntsAt.of_owns {w : World} {base : Nat} {v : Value} {l : List Int} (h : w.ownsRow base 3 1 v l.length (ints l)) : IntsAt w v l := by
  rcases h.2 with ⟨rfl, h0⟩ | ⟨g, cap, cur, rfl, hb, hg, _, _, hs, ht⟩
  · exact ⟨none, 0, by rw [h0], fun i hi => by omega⟩
  · refine ⟨some ⟨g, 0, none⟩, cap, rfl, fun i hi => ⟨g, 0, rfl, ?_⟩⟩
    have := h.cellAt i (by omega)
    rw [Nat.zero_add, this]
    simp [ints, List.getD, List.getElem?_eq_getElem hi]

/-- 'append(v, news...)' of ints into a row of the call's own. -/
theorem wpList_append_ints {w : World} {ops : Array Oper} {rest : List Oper} {o : Oper} {a : Act} {Q : Exit → Act → World → Prop} (hgd : o.guard = none) (s x : Operand)
    (ho : o.op = .call { callee := .builtin .append, args := #[s, x], argTypes := #[22, 22] })
    (base : Nat) (v : Value) (l : List Int) (hs : a.eval s = v) (hown : w.ownsRow base 3 1 v l.length (ints l))
    (g m c : Nat) (news : List Int) (hx : a.eval x = .slice (some ⟨g, 0, none⟩) m c) (hm : news.length = m) (hnews : ∀ j, j < m → w.cell? ⟨g, j, none⟩ = some (.int .i64 (news.getD j 0)))
    (h63 : l.length + m ≤ 1000000) (hbase : base ≤ w.heap.size)
    (h : ∀ v' w', w'.ownsRow base 3 1 v' (l ++ news).length (ints (l ++ news)) → w.grownBy w' v.ownBlock → wpList Try.prog ops Q rest (a.put o.dst v') w') : wpList Try.prog ops Q (o :: rest) a w := by
  obtain ⟨i0, hi, hz0, hz1, hz2⟩ := info_parts infoInt
  refine wpList_append_own w hgd s x 22 ho base 3 i0 _ 1 8 Try.underlying22 hi hz0 hz1 hz2 rfl (by decide) v l.length (ints l) hs hown ⟨g, 0, none⟩ m c (ints news) hx (by rw [ints_length, hm]; omega) ?_ (ints_one news) (by unfold maxLen; omega) (by omega) hbase ?_
  · intro j u hj
    have hjl : j < news.length := by
      have := (List.getElem?_eq_some_iff.1 hj).1
      rwa [ints_length] at this
    have e : (⟨g, 0, none⟩ : Addr).add j = ⟨g, j, none⟩ := by unfold Addr.add; simp; omega
    rw [e, hnews j (by omega)]
    simp [ints, List.getElem?_eq_getElem hjl] at hj
    simp [List.getD, List.getElem?_eq_getElem hjl, hj]
  · intro v' w' h1 h2 _
    refine h v' w' ?_ h2
    rw [ints_append, List.length_append, hm]
    exact h1

theorem infoEnt : (Try.prog.info? 59).map (fun i => (i.zero, i.size, i.bytes)) = some (some (.agg #[.int .i64 0, .int .i64 0, .int .i64 0, .int .i64 0, .int .i64 0]), 5, 40) := by kernel_rfl

/-- 'append(v, x)' of an entry into a row of the call's own. -/
theorem wpList_append_ent {w : World} {ops : Array Oper} {rest : List Oper} {o : Oper} {a : Act} {Q : Exit → Act → World → Prop} (hgd : o.guard = none) (s x : Operand)
    (ho : o.op = .call { callee := .builtin .append, args := #[s, x], argTypes := #[23, 23] })
    (base : Nat) (v : Value) (l : List Ent) (hs : a.eval s = v) (hown : w.ownsRow base 59 5 v l.length (ints (entsNums l)))
    (g c : Nat) (e : Ent) (hx : a.eval x = .slice (some ⟨g, 0, none⟩) 1 c) (hnews : ∀ j, j < 5 → w.cell? ⟨g, j, none⟩ = some (.int .i64 (e.nums.getD j 0)))
    (h63 : l.length ≤ 1000000) (hbase : base ≤ w.heap.size)
    (h : ∀ v' w', w'.ownsRow base 59 5 v' (l ++ [e]).length (ints (entsNums (l ++ [e]))) → w.grownBy w' v.ownBlock → wpList Try.prog ops Q rest (a.put o.dst v') w') : wpList Try.prog ops Q (o :: rest) a w := by
  obtain ⟨i0, hi, hz0, hz1, hz2⟩ := info_parts infoEnt
  refine wpList_append_own w hgd s x 23 ho base 59 i0 _ 5 40 Try.underlying23 hi hz0 hz1 hz2 rfl (by decide) v l.length (ints (entsNums l)) hs hown ⟨g, 0, none⟩ 1 c (ints e.nums) hx rfl ?_ (ints_one _) (by unfold maxLen; omega) (by omega) hbase ?_
  · intro j u hj
    have hjl : j < e.nums.length := by
      have := (List.getElem?_eq_some_iff.1 hj).1
      rwa [ints_length] at this
    have hj5 : j < 5 := hjl
    have e1 : (⟨g, 0, none⟩ : Addr).add j = ⟨g, j, none⟩ := by unfold Addr.add; simp; omega
    rw [e1, hnews j hj5]
    simp [ints, List.getElem?_eq_getElem hjl] at hj
    simp [List.getD, List.getElem?_eq_getElem hjl, hj]
  · intro v' w' h1 h2 _
    refine h v' w' ?_ h2
    rw [entsNums_append, entsNums_one, ints_append, List.length_append]
    exact h1

theorem entsNums_getD (es : List Ent) (i j : Nat) (hi : i < es.length) (hj : j < 5) : (entsNums es).getD (i * 5 + j) 0 = (es.getD i Ent.zero).nums.getD j 0 := by
  induction es generalizing i with
  | nil => simp at hi
  | cons a l ih =>
    rw [show entsNums (a :: l) = a.nums ++ entsNums l from rfl]
    cases i with
    | zero =>
      rw [List.getD, List.getElem?_append_left (by show _ < 5; omega)]
      simp
    | succ i =>
      rw [List.getD, List.getElem?_append_right (by show 5 ≤ _; omega)]
      rw [show (i + 1) * 5 + j - a.nums.length = i * 5 + j by show (i + 1) * 5 + j - 5 = _; omega]
      have := ih i (by simpa using hi)
      rw [List.getD] at this
      rw [this]
      simp

theorem LogAt.of_owns {w : World} {base : Nat} {v : Value} {es : List Ent} (h : w.ownsRow base 59 5 v es.length (ints (entsNums es))) : LogAt w v es := by
  rcases h.2 with ⟨rfl, h0⟩ | ⟨g, cap, cur, rfl, hb, hg, _, _, hs, ht⟩
  · exact ⟨none, 0, by rw [h0], fun i hi => by omega⟩
  · refine ⟨some ⟨g, 0, none⟩, cap, rfl, fun i hi => ⟨g, 0, rfl, ?_⟩⟩
    have key : ∀ j, j < 5 → w.cell? ⟨g, i * 5 + j, none⟩ = some (.int .i64 ((es.getD i Ent.zero).nums.getD j 0)) := by
      intro j hj
      have hlt : i * 5 + j < (entsNums es).length := by rw [entsNums_length]; omega
      rw [h.cellAt (i * 5 + j) (by omega), ← entsNums_getD es i j hi hj]
      simp [ints, List.getD, List.getElem?_eq_getElem hlt]
    refine ⟨?_, ?_, ?_, ?_, ?_⟩
    · rw [Nat.zero_add]; exact key 0 (by omega)
    · rw [Nat.zero_add]; exact key 1 (by omega)
    · rw [Nat.zero_add]; exact key 2 (by omega)
    · rw [Nat.zero_add]; exact key 3 (by omega)
    · rw [Nat.zero_add]; exact key 4 (by omega)


theorem boxed (w : World) (cs : Array Value) (T : TypeId) : ∃ W, w.alloc (.cells cs T) = W ∧ Below w.heap.size w W ∧ W.heap.size = w.heap.size + 1 ∧
    (∀ j, W.cell? ⟨w.heap.size, j, none⟩ = cs[j]?) ∧ (∀ j, W.frozen? ⟨w.heap.size, j, none⟩ = false) :=
  ⟨_, rfl, (Below.refl _ _).alloc (Nat.le_refl _) _, World.size_alloc _ _, fun j => by rw [World.cell?_alloc_at _ _ _ _ rfl], fun j => World.frozen?_alloc_at _ _ _ _ rfl⟩

set_option maxHeartbeats 1000000 in
set_option maxRecDepth 100000 in
theorem numbers_any (k f t ep ba vo po va : Int) (mem log : Value) (es : List Ent) (w : World) (hlog : LogAt w log es) (hl : es.length ≤ 24) :
    Calls Try.prog 28 #[.agg #[.int .i64 k, .int .i64 f, .int .i64 t, .int .i64 ep, .int .i64 ba, .int .i64 vo, .int .i64 po, .int .i64 va, mem, log]] w fun e w' => Below w.heap.size w w' ∧
      ∃ hd lg, e = .returned (.tuple #[hd, mem, lg]) ∧ IntsAt w' hd [f, t, ep, ba, vo, po, va] ∧ IntsAt w' lg (entsNums es) := by
  obtain ⟨W, hW, hb0, hsz, q, -⟩ := boxed w #[.int .i64 k, .int .i64 f, .int .i64 t, .int .i64 ep, .int .i64 ba, .int .i64 vo, .int .i64 po, .int .i64 va, mem, log] 25
  have hlog' := hlog.below hb0
  obtain ⟨a, c, rfl, hlog⟩ := hlog
  have HL : Hid (∀ i, i < es.length → ∃ b off, a = some ⟨b, off, none⟩ ∧
    w.cell? ⟨b, off + i * 5, none⟩ = some (.int .i64 (es.getD i Ent.zero).client) ∧ w.cell? ⟨b, off + i * 5 + 1, none⟩ = some (.int .i64 (es.getD i Ent.zero).seq) ∧
    w.cell? ⟨b, off + i * 5 + 2, none⟩ = some (.int .i64 (es.getD i Ent.zero).kind) ∧ w.cell? ⟨b, off + i * 5 + 3, none⟩ = some (.int .i64 (es.getD i Ent.zero).key) ∧
    w.cell? ⟨b, off + i * 5 + 4, none⟩ = some (.int .i64 (es.getD i Ent.zero).value)) := hlog
  clear hlog
  go_enter Try.func28, Try.ntmps28
  go_wp2_with fail
  clear hW
  have hsz' : w.heap.size + 1 ≤ W.heap.size := by omega
  have q9 : W.cell? ⟨w.heap.size, 9, none⟩ = some (.slice a es.length c) := q 9
  go_loopw [5, 6] (fun v i wr => ∃ n : Nat, n ≤ es.length ∧ i = .int .i64 n ∧ wr.ownsRow W.heap.size 3 1 v (entsNums (es.take n)).length (ints (entsNums (es.take n))) ∧ Below W.heap.size W wr) (fun _ i _ => es.length - (intOf i).toNat)
  case atStart => exact ⟨0, Nat.zero_le _, rfl, World.ownsRow_nil _ _ _ _, Below.refl _ _⟩
  case round =>
    obtain ⟨n, hn, rfl, hown, hb⟩ := hrel
    have q9' : wr.cell? ⟨w.heap.size, 9, none⟩ = some (.slice a es.length c) := cell_later hb q9
    by_cases hlt : n < es.length
    · obtain ⟨b, off, rfl, c0, c1, c2, c3, c4⟩ := HL.out n hlt
      have hbb := hb0.trans (hb.mono (by omega))
      have d0 := cell_later hbb c0
      have d1 := cell_later hbb c1
      have d2 := cell_later hbb c2
      have d3 := cell_later hbb c3
      have d4 := cell_later hbb c4
      have ht : Hid (es.take (n + 1) = es.take n ++ [es.getD n Ent.zero]) := take_snoc_ents es n hlt
      generalize es.getD n Ent.zero = x at *
      clear hsz q
      have hsn : (entsNums (es.take n)).length ≤ 120 := by rw [entsNums_length, List.length_take]; omega
      have hsw := hb.size
      go_wp2_with (at_builtin; refine wpList_append_ints rfl _ _ rfl W.heap.size _ _ rfl ((hown.alloc _).alloc _) (wr.heap.size + 1) 5 5 x.nums rfl rfl ?hnews ?h63 ?hbase ?_)
      case hnews => intro j hj; match j, hj with
        | 0, _ => simp [Ent.nums]
        | 1, _ => simp [Ent.nums]
        | 2, _ => simp [Ent.nums]
        | 3, _ => simp [Ent.nums]
        | 4, _ => simp [Ent.nums]
      case h63 => omega
      case hbase => simp; omega
      intro v' w1 hown' hgr
      go_wp2
      go_roundw
      case rel =>
        refine ⟨n + 1, by omega, by go_num, ?_, ?_⟩
        · rw [ht.out, entsNums_append, entsNums_one]
          simpa using hown'
        · exact ((hb.alloc hsw _).alloc (by simp; omega) _).grown hgr (by simp; omega) (fun k hk => (hown.lt k hk).1)
      case measure => simp [intOf]; omega
    · obtain rfl : n = es.length := by omega
      rw [List.take_length] at hown
      have p : ∀ j, j < 10 → wr.cell? ⟨w.heap.size, j, none⟩ = #[.int .i64 k, .int .i64 f, .int .i64 t, .int .i64 ep, .int .i64 ba, .int .i64 vo, .int .i64 po, .int .i64 va, mem, .slice a es.length c][j]? := fun j hj => by
        rw [← q j]
        exact hb.cell (p := ⟨w.heap.size, j, none⟩) (by show w.heap.size < _; omega)
      have p1 : wr.cell? ⟨w.heap.size, 1, none⟩ = some (.int .i64 f) := p 1 (by omega)
      have p2 : wr.cell? ⟨w.heap.size, 2, none⟩ = some (.int .i64 t) := p 2 (by omega)
      have p3 : wr.cell? ⟨w.heap.size, 3, none⟩ = some (.int .i64 ep) := p 3 (by omega)
      have p4 : wr.cell? ⟨w.heap.size, 4, none⟩ = some (.int .i64 ba) := p 4 (by omega)
      have p5 : wr.cell? ⟨w.heap.size, 5, none⟩ = some (.int .i64 vo) := p 5 (by omega)
      have p6 : wr.cell? ⟨w.heap.size, 6, none⟩ = some (.int .i64 po) := p 6 (by omega)
      have p7 : wr.cell? ⟨w.heap.size, 7, none⟩ = some (.int .i64 va) := p 7 (by omega)
      have p8 : wr.cell? ⟨w.heap.size, 8, none⟩ = some mem := p 8 (by omega)
      have hws : w.heap.size < wr.heap.size := by have := hb.size; omega
      clear p q hsz
      go_wp2
      go_region_held3 (fun w' => w'.cell? ⟨w.heap.size, 1, none⟩ = some (.int .i64 f) ∧ w'.cell? ⟨w.heap.size, 2, none⟩ = some (.int .i64 t) ∧ w'.cell? ⟨w.heap.size, 3, none⟩ = some (.int .i64 ep) ∧ w'.cell? ⟨w.heap.size, 4, none⟩ = some (.int .i64 ba) ∧ w'.cell? ⟨w.heap.size, 5, none⟩ = some (.int .i64 vo) ∧ w'.cell? ⟨w.heap.size, 6, none⟩ = some (.int .i64 po) ∧ w'.cell? ⟨w.heap.size, 7, none⟩ = some (.int .i64 va) ∧ w'.cell? ⟨w.heap.size, 8, none⟩ = some mem) (go_keep) (fail)
      go_wp2
      go_ret3
      refine ⟨((hb0.trans (hb.mono (by omega))).alloc (by omega) _).drew, _, _, rfl, ⟨some ⟨wr.heap.size, 0, none⟩, 7, rfl, fun i hi => ⟨wr.heap.size, 0, rfl, ?_⟩⟩, IntsAt.of_owns (hown.alloc _).drew⟩
      match i, hi with
      | 0, _ => simp
      | 1, _ => simp
      | 2, _ => simp
      | 3, _ => simp
      | 4, _ => simp
      | 5, _ => simp
      | 6, _ => simp
end Go.Proofs.Ytgieeeeeiggoeaa
