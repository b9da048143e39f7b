import Derived.Test.YtgieeeeeiggoeaaEncA
namespace Go.Proofs.Ytgieeeeeiggoeaa
open Go.RowKit Go.Shelf

/-- The cells of bytes. -/
def byts (l : List UInt8) : List Value := l.map fun b => .int .u8 (b.toNat : Int)

theorem byts_length (l : List UInt8) : (byts l).length = l.length := by simp [byts]
theorem byts_append (l m : List UInt8) : byts (l ++ m) = byts l ++ byts m := by simp [byts]
theorem byts_one (l : List UInt8) : ∀ u ∈ byts l, u.oneCell' = true := by
  intro u hu
  simp only [byts, List.mem_map] at hu
  obtain ⟨n, _, rfl⟩ := hu
  rfl

theorem infoByte : (Try.prog.info? 5).map (fun i => (i.zero, i.size, i.bytes)) = some (some (.int .u8 0), 1, 1) := by kernel_rfl

theorem wpList_append_bytes {w : World} {ops : Array Oper} {rest : List Oper} {o : Oper} {a : Act} {Q : Exit → Act → World → Prop} (hgd : o.guard = none) (s x : Operand)
    (ho : o.op = .call { callee := .builtin .append, args := #[s, x], argTypes := #[56, 56] })
    (base : Nat) (v : Value) (l : List UInt8) (hs : a.eval s = v) (hown : w.ownsRow base 5 1 v l.length (byts l))
    (g m c : Nat) (news : List UInt8) (hx : a.eval x = .slice (some ⟨g, 0, none⟩) m c) (hm : news.length = m) (hnews : ∀ j, j < m → w.cell? ⟨g, j, none⟩ = some (.int .u8 ((news.getD j 0).toNat : Int)))
    (h63 : l.length + m ≤ 1000000) (hbase : base ≤ w.heap.size)
    (h : ∀ v' w', w'.ownsRow base 5 1 v' (l ++ news).length (byts (l ++ news)) → w.grownBy w' v.ownBlock → wpList Try.prog ops Q rest (a.put o.dst v') w') : wpList Try.prog ops Q (o :: rest) a w := by
  obtain ⟨i0, hi, hz0, hz1, hz2⟩ := info_parts infoByte
  refine wpList_append_own w hgd s x 56 ho base 5 i0 _ 1 1 Try.underlying56 hi hz0 hz1 hz2 rfl (by decide) v l.length (byts l) hs hown ⟨g, 0, none⟩ m c (byts news) hx (by rw [byts_length, hm]; omega) ?_ (byts_one news) (by unfold maxLen; omega) (by omega) hbase ?_
  · intro j u hj
    have hjl : j < news.length := by
      have := (List.getElem?_eq_some_iff.1 hj).1
      rwa [byts_length] at this
    have e : (⟨g, 0, none⟩ : Addr).add j = ⟨g, j, none⟩ := by unfold Addr.add; simp; omega
    rw [e, hnews j (by omega)]
    simp [byts, List.getElem?_eq_getElem hjl] at hj
    simp [List.getD, List.getElem?_eq_getElem hjl, hj]
  · intro v' w' h1 h2 _
    refine h v' w' ?_ h2
    rw [byts_append, List.length_append, hm]
    exact h1

theorem grown_alloc {w w' : World} {o : Obj} {row : Option Nat} (h : (w.alloc o).grownBy w' row) : w.grownBy w' row :=
  ⟨h.os, h.tape, h.output, by have := h.size; simp at this; omega, fun k hk hr => (h.block k (by simp; omega) hr).trans (Below.heap_alloc w o k hk)⟩

theorem toNat_low (n : Nat) : ((lowByte n).toNat : Int) = ((n % 256 : Nat) : Int) := by
  unfold lowByte; simp

set_option maxHeartbeats 1000000 in
set_option maxRecDepth 100000 in
theorem appendNumber_any (base : Nat) (v : Value) (l : List UInt8) (n : Int) (w : World) (hown : w.ownsRow base 5 1 v l.length (byts l)) (hb : base ≤ w.heap.size) (h1 : -1 ≤ n) (h2 : n ≤ 65534) (hl : l.length ≤ 100000) :
    Calls Try.prog 57 #[v, .int .i64 n] w fun e w' => ∃ v', e = .returned v' ∧ w'.ownsRow base 5 1 v' (l ++ numBytes n).length (byts (l ++ numBytes n)) ∧ w.grownBy w' v.ownBlock := by
  go_enter Try.func57, Try.ntmps57
  go_wp2_with (at_builtin; refine wpList_append_bytes rfl _ _ rfl base _ _ rfl (hown.alloc _) w.heap.size 2 2 (numBytes n) rfl rfl ?hnews ?h63 ?hbase ?_)
  case hnews =>
    intro j hj
    match j, hj with
    | 0, _ => simp [numBytes, toNat_low]; omega
    | 1, _ => simp [numBytes, toNat_low]; omega
  case h63 => omega
  case hbase => simp; omega
  intro v' w1 h3 h4
  go_wp2
  go_ret
  exact ⟨_, rfl, by simpa using h3, grown_alloc h4⟩

set_option maxHeartbeats 1000000 in
set_option maxRecDepth 100000 in
theorem appendNumber_odd (base : Nat) (v : Value) (l : List UInt8) (n : Int) (w : World) (hown : w.ownsRow base 5 1 v l.length (byts l)) (hb : base ≤ w.heap.size) (hl : l.length ≤ 100000) :
    Calls Try.prog 57 #[v, .int .i64 n] w fun e w' => ∃ v' l', l'.length = 2 ∧ e = .returned v' ∧ w'.ownsRow base 5 1 v' (l ++ l').length (byts (l ++ l')) ∧ w.grownBy w' v.ownBlock := by
  go_enter Try.func57, Try.ntmps57
  go_wp2_with (at_builtin; refine wpList_append_bytes rfl _ _ rfl base _ _ rfl (hown.alloc _) w.heap.size 2 2 [UInt8.ofNat (wrap64 (n + 1) / 256 % 256).toNat, UInt8.ofNat (wrap64 (n + 1) % 256).toNat] rfl rfl ?hnews ?h63 ?hbase ?_)
  case hnews =>
    intro j hj
    match j, hj with
    | 0, _ => simp; omega
    | 1, _ => simp; omega
  case h63 => omega
  case hbase => simp; omega
  intro v' w1 h3 h4
  go_wp2
  go_ret
  refine ⟨_, [UInt8.ofNat (wrap64 (n + 1) / 256 % 256).toNat, UInt8.ofNat (wrap64 (n + 1) % 256).toNat], rfl, rfl, ?_, grown_alloc h4⟩
  rw [List.length_append]
  exact h3

/-- appendNumber at whatever number: two bytes more; those of the number, where it fits. -/
theorem appendNumber_tot (base : Nat) (v : Value) (l : List UInt8) (n : Int) (w : World) (hown : w.ownsRow base 5 1 v l.length (byts l)) (hb : base ≤ w.heap.size) (hl : l.length ≤ 100000) :
    Calls Try.prog 57 #[v, .int .i64 n] w fun e w' => ∃ v' l', (l'.length = 2 ∧ (numOk n = true → l' = numBytes n)) ∧ e = .returned v' ∧ w'.ownsRow base 5 1 v' (l ++ l').length (byts (l ++ l')) ∧ w.grownBy w' v.ownBlock := by
  by_cases h : numOk n = true
  · obtain ⟨h1, h2⟩ := (numOk_iff n).1 h
    refine (appendNumber_any base v l n w hown hb h1 h2 hl).mono ?_
    rintro e w' ⟨v', rfl, ho, hg⟩
    exact ⟨v', _, ⟨rfl, fun _ => rfl⟩, rfl, ho, hg⟩
  · refine (appendNumber_odd base v l n w hown hb hl).mono ?_
    rintro e w' ⟨v', l', hl', rfl, ho, hg⟩
    exact ⟨v', l', ⟨hl', fun h' => absurd h' h⟩, rfl, ho, hg⟩
end Go.Proofs.Ytgieeeeeiggoeaa
