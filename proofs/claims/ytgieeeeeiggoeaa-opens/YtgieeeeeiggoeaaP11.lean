import Derived.Test.YtgieeeeeiggoeaaP10
import Derived.Test.YtgieeeeeiggoeaaP05
import Derived.Lib.SmallJoins
import Derived.Test.YtgieeeeeiggoeaaP04
import Derived.Laws.CopyRow
namespace Go.Proofs.Ytgieeeeeiggoeaa
open Go.RowKit Go.Shelf
def RRepAt (w : World) (F : Nat → Prop) (b : Nat) (r : Rep) : Prop :=
 ∃ vm vl, w.heap[b]? = some (.cells #[.bool r.up, .int .i64 r.epoch, .int .i64 r.lock, vm, vl, .int .i64 (r.base : Int), .int .i64 (r.commit : Int)] 120) ∧ IntOwn w vm r.mems ∧ LogOwn w vl r.log ∧ F b ∧
  (∀ k, vm.ownBlock = some k → F k) ∧ ∀ k, vl.ownBlock = some k → F k
def RAccAt (w : World) (F : Nat → Prop) (b : Nat) (a : Acc) : Prop :=
 ∃ vm vv, w.heap[b]? = some (.cells #[.bool a.up, .int .i64 a.epoch, vm, vv] 124) ∧ IntOwn w vm a.mems ∧ F b ∧ ∀ k, vm.ownBlock = some k → F k
def frV (l : List (List UInt8 × Bool)) : List Value := l.flatMap (fun f => [Value.string (bs f.1), .bool f.2])
structure RefIn (w : World) (F : Nat → Prop) (y : Nat) (c : Clu) (br ba : Nat → Nat) (vr va vm vb vt : Value) : Prop where
 blk : w.heap[y]? = some (.cells #[vr, va, vm, vb, vt] 96)
 rr : w.ownsRow 0 118 1 vr c.reps.length (ptrs br 0 c.reps.length)
 ra : w.ownsRow 0 121 1 va 3 (ptrs ba 0 3)
 reps : ∀ i, i < c.reps.length → RRepAt w F (br i) (c.rep i)
 accs : ∀ i, i < 3 → RAccAt w F (ba i) (c.acc (100 + (i : Int)))
 bag : w.ownsRow 0 163 2 vb c.bag.length (frV c.bag)
 told : w.ownsRow 0 77 3 vt c.told.length (ints (ansNums c.told))
 inF : ∀ k, k = y ∨ vr.ownBlock = some k ∨ va.ownBlock = some k ∨ vb.ownBlock = some k ∨ vt.ownBlock = some k → F k
 lt : ∀ k, F k → k < w.heap.size
def RefAt (w : World) (F : Nat → Prop) (y : Nat) (c : Clu) : Prop := ∃ br ba vr va vm vb vt, RefIn w F y c br ba vr va vm vb vt
theorem RefIn.keep {w w' : World} {F : Nat → Prop} {y : Nat} {c : Clu} {br ba : Nat → Nat} {vr va vm vb vt : Value} (h : RefIn w F y c br ba vr va vm vb vt) (hk : ∀ k, F k → w'.heap[k]? = w.heap[k]?) : RefIn w' F y c br ba vr va vm vb vt where
 blk := (hk y (h.inF y (.inl rfl))).trans h.blk
 rr := owns_only h.rr fun k e => hk k (h.inF k (.inr (.inl e)))
 ra := owns_only h.ra fun k e => hk k (h.inF k (.inr (.inr (.inl e))))
 reps := fun i hi => by
  obtain ⟨vm, vl, h1, h2, h3, h4, h5, h6⟩ := h.reps i hi
  exact ⟨vm, vl, (hk _ h4).trans h1, owns_only h2 fun k e => hk k (h5 k e), owns_only h3 fun k e => hk k (h6 k e), h4, h5, h6⟩
 accs := fun i hi => by
  obtain ⟨vm, vv, h1, h2, h4, h5⟩ := h.accs i hi
  exact ⟨vm, vv, (hk _ h4).trans h1, owns_only h2 fun k e => hk k (h5 k e), h4, h5⟩
 bag := owns_only h.bag fun k e => hk k (h.inF k (.inr (.inr (.inr (.inl e)))))
 told := owns_only h.told fun k e => hk k (h.inF k (.inr (.inr (.inr (.inr e)))))
 inF := h.inF
 lt := fun k e => lt_of_keep (h.lt k e) (hk k e)
theorem RefAt.keep {w w' : World} {F : Nat → Prop} {y : Nat} {c : Clu} (h : RefAt w F y c) (hk : ∀ k, F k → w'.heap[k]? = w.heap[k]?) : RefAt w' F y c := by
 obtain ⟨br, ba, vr, va, vm, vb, vt, h⟩ := h
 exact ⟨br, ba, vr, va, vm, vb, vt, h.keep hk⟩
def kindOf (n : Nat) (d : Int) : Int × Int :=
 if 0 ≤ d ∧ d < n then (1, d) else if 100 ≤ d ∧ d < 103 then (2, d - 100) else if d = 200 ∨ d = 201 then (3, d - 200) else (0, 0)
set_option maxHeartbeats 1000000 in
theorem refKind_any (y n : Nat) (ar : Option Addr) (cr : Nat) (d : Int) (w : World) (hy : w.cell? ⟨y, 0, none⟩ = some (.slice ar n cr)) (_hn : n ≤ 5) (hi : -9223372036854775808 ≤ d ∧ d ≤ 9223372036854775807) :
  Calls Try.prog 88 #[.pointer (some ⟨y, 0, none⟩), .int .i64 d] w fun e w' => e = .returned (.tuple #[.int .i64 (kindOf n d).1, .int .i64 (kindOf n d).2]) ∧ w' = w := by
 by_cases h1 : 0 ≤ d
 ·by_cases h2 : d < (n : Int)
  ·have H : Hid (kindOf n d = (1, d)) := hideA (by unfold kindOf; rw [if_pos ⟨h1, h2⟩])
   go_enter Try.func88, Try.ntmps88
   go_wp2_with fail
   go_ret2
   exact ⟨by rw [H.out]; rfl, rfl⟩
  ·by_cases h3 : 100 ≤ d
   ·by_cases h4 : d < 103
    ·have H : Hid (kindOf n d = (2, d - 100)) := hideA (by unfold kindOf; rw [if_neg (fun e => h2 e.2), if_pos ⟨h3, h4⟩])
     go_enter Try.func88, Try.ntmps88
     go_wp2_with fail
     go_ret2
     exact ⟨by rw [H.out]; rfl, rfl⟩
    ·by_cases h5 : d = 200
     ·have H : Hid (kindOf n d = (3, d - 200)) := hideA (by unfold kindOf; rw [if_neg (fun e => h2 e.2), if_neg (fun e => h4 e.2), if_pos (.inl h5)])
      subst h5
      go_enter Try.func88, Try.ntmps88
      go_wp2_with fail
      go_ret2
      exact ⟨by rw [H.out]; rfl, rfl⟩
     ·have h5' : (d == 200) = false := by simpa using h5
      by_cases h6 : d = 201
      ·have H : Hid (kindOf n d = (3, d - 200)) := hideA (by unfold kindOf; rw [if_neg (fun e => h2 e.2), if_neg (fun e => h4 e.2), if_pos (.inr h6)])
       subst h6
       go_enter Try.func88, Try.ntmps88
       go_wp2_with fail
       go_ret2
       exact ⟨by rw [H.out]; rfl, rfl⟩
      ·have h6' : (d == 201) = false := by simpa using h6
       have H : Hid (kindOf n d = (0, 0)) := hideA (by unfold kindOf; rw [if_neg (fun e => h2 e.2), if_neg (fun e => h4 e.2), if_neg (fun e => e.elim h5 h6)])
       go_enter Try.func88, Try.ntmps88
       go_wp2_with fail
       go_ret2
       exact ⟨by rw [H.out]; rfl, rfl⟩
   ·have h5 : ¬ d = 200 := by omega
    have h6 : ¬ d = 201 := by omega
    have h5' : (d == 200) = false := by simpa using h5
    have h6' : (d == 201) = false := by simpa using h6
    have H : Hid (kindOf n d = (0, 0)) := hideA (by unfold kindOf; rw [if_neg (fun e => h2 e.2), if_neg (fun e => h3 e.1), if_neg (fun e => e.elim h5 h6)])
    go_enter Try.func88, Try.ntmps88
    go_wp2_with fail
    go_ret2
    exact ⟨by rw [H.out]; rfl, rfl⟩
 ·have h3 : ¬ 100 ≤ d := by omega
  have h5 : ¬ d = 200 := by omega
  have h6 : ¬ d = 201 := by omega
  have h5' : (d == 200) = false := by simpa using h5
  have h6' : (d == 201) = false := by simpa using h6
  have H : Hid (kindOf n d = (0, 0)) := hideA (by unfold kindOf; rw [if_neg (fun e => h1 e.1), if_neg (fun e => h3 e.1), if_neg (fun e => e.elim h5 h6)])
  go_enter Try.func88, Try.ntmps88
  go_wp2_with fail
  go_ret2
  exact ⟨by rw [H.out]; rfl, rfl⟩
end Go.Proofs.Ytgieeeeeiggoeaa
namespace Go.Proofs.Ytgieeeeeiggoeaa
open Go.RowKit
theorem infoRow : (Try.prog.info? 22).map (fun i => (i.zero, i.size, i.bytes)) = some (some (.slice none 0 0), 1, 24) := by kernel_rfl
theorem infoLog : (Try.prog.info? 23).map (fun i => (i.zero, i.size, i.bytes)) = some (some (.slice none 0 0), 1, 24) := by kernel_rfl
theorem wpList_keeps_int {w : World} {ops : Array Oper} {rest : List Oper} {o : Oper} {a : Act} {Q : Exit → Act → World → Prop} (hgd : o.guard = none) (s x : Operand)
  (ho : o.op = .call { callee := .builtin .append, args := #[s, x], argTypes := #[22, 22] })
  (base : Nat) (v : Value) (l : List Int) (hs : a.eval s = v) (hown : w.ownsRow base 3 1 v l.length (ints l))
  (g c : Nat) (z : Int) (hx : a.eval x = .slice (some ⟨g, 0, none⟩) 1 c) (hnew : w.cell? ⟨g, 0, none⟩ = some (.int .i64 z))
  (h63 : l.length ≤ 2000000000) (hbase : base ≤ w.heap.size)
  (h : ∀ g' cap w', w'.ownsRow base 3 1 (.slice (some ⟨g', 0, none⟩) (l.length + 1) cap) (l ++ [z]).length (ints (l ++ [z])) → w.grownBy w' v.ownBlock → w'.ownsRow base 3 1 v l.length (ints l) → (v.ownBlock = some g' ∨ g' = w.heap.size) → wpList Try.prog ops Q rest (a.put o.dst (.slice (some ⟨g', 0, none⟩) (l.length + 1) cap)) w') :
  wpList Try.prog ops Q (o :: rest) a w := by
 obtain ⟨i0, hi, hz0, hz1, hz2⟩ := info_parts infoInt
 refine wpList_append_keeps w hgd s x 22 ho base 3 i0 _ 1 8 Try.underlying22 hi hz0 hz1 hz2 rfl (by decide) v l.length (ints l) hs hown ⟨g, 0, none⟩ 1 c (ints [z]) hx rfl ?_ (ints_one _) (by omega) (by unfold maxLen; omega) (by omega) hbase ?_
 ·intro j u hj
  have hj0 : j = 0 := by
   have := (List.getElem?_eq_some_iff.1 hj).1
   rw [ints_length] at this
   simp at this
   exact this
  subst hj0
  have e : (⟨g, 0, none⟩ : Addr).add 0 = ⟨g, 0, none⟩ := by unfold Addr.add; simp
  rw [e, hnew]
  simpa [ints] using hj
 ·intro g' cap w' h1 h2 h3 h4
  refine h g' cap w' ?_ h2 h3 h4
  rw [ints_append, List.length_append]
  exact h1
theorem wpList_keeps_row {w : World} {ops : Array Oper} {rest : List Oper} {o : Oper} {a : Act} {Q : Exit → Act → World → Prop} (hgd : o.guard = none) (s x : Operand) (T E : TypeId)
  (hT : Try.prog.underlying T = some (.slice E)) (hE : (Try.prog.info? E).map (fun i => (i.zero, i.size, i.bytes)) = some (some (.slice none 0 0), 1, 24))
  (ho : o.op = .call { callee := .builtin .append, args := #[s, x], argTypes := #[T, T] })
  (base : Nat) (v : Value) (N : Nat) (xs : List Value) (hs : a.eval s = v) (hown : w.ownsRow base E 1 v N xs)
  (g m c : Nat) (news : List Value) (hm : news.length = m) (hm0 : 0 < m) (hm1 : m ≤ 1000) (hx : a.eval x = .slice (some ⟨g, 0, none⟩) m c) (hnew : w.heap[g]? = some (.cells news.toArray E)) (h1 : ∀ u ∈ news, u.oneCell' = true)
  (h63 : N ≤ 2000000000) (hbase : base ≤ w.heap.size)
  (h : ∀ g' cap w', w'.ownsRow base E 1 (.slice (some ⟨g', 0, none⟩) (N + m) cap) (N + m) (xs ++ news) → w.grownBy w' v.ownBlock → (v.ownBlock = some g' ∨ g' = w.heap.size) → wpList Try.prog ops Q rest (a.put o.dst (.slice (some ⟨g', 0, none⟩) (N + m) cap)) w') :
  wpList Try.prog ops Q (o :: rest) a w := by
 obtain ⟨i0, hi, hz0, hz1, hz2⟩ := info_parts hE
 refine wpList_append_keeps w hgd s x T ho base E i0 _ 1 24 hT hi hz0 hz1 hz2 rfl (by decide) v N xs hs hown ⟨g, 0, none⟩ m c news hx (by omega) ?_ h1 hm0 (by unfold maxLen; omega) (by omega) hbase ?_
 ·intro j u hj
  exact World.news_of_block hnew j u (by simpa using hj)
 ·intro g' cap w' h1 h2 h3 h4
  exact h g' cap w' h1 h2 h4
theorem marks_snoc (n : Nat) (mk : Int) : List.replicate n mk ++ [mk] = List.replicate (n + 1) mk := List.replicate_succ'.symm
theorem wpList_keeps_mark {w : World} {ops : Array Oper} {rest : List Oper} {o : Oper} {a : Act} {Q : Exit → Act → World → Prop} (hgd : o.guard = none) (s x : Operand)
  (ho : o.op = .call { callee := .builtin .append, args := #[s, x], argTypes := #[22, 22] })
  (base : Nat) (v : Value) (n : Nat) (mk : Int) (hs : a.eval s = v) (hown : w.ownsRow base 3 1 v n (ints (List.replicate n mk)))
  (g c : Nat) (hx : a.eval x = .slice (some ⟨g, 0, none⟩) 1 c) (hnew : w.cell? ⟨g, 0, none⟩ = some (.int .i64 mk))
  (h63 : n ≤ 2000000000) (hbase : base ≤ w.heap.size)
  (h : ∀ g' cap w', w'.ownsRow base 3 1 (.slice (some ⟨g', 0, none⟩) (n + 1) cap) (n + 1) (ints (List.replicate (n + 1) mk)) → w.grownBy w' v.ownBlock → w'.ownsRow base 3 1 v n (ints (List.replicate n mk)) → (v.ownBlock = some g' ∨ g' = w.heap.size) → wpList Try.prog ops Q rest (a.put o.dst (.slice (some ⟨g', 0, none⟩) (n + 1) cap)) w') :
  wpList Try.prog ops Q (o :: rest) a w := by
 have hn : (List.replicate n mk).length = n := List.length_replicate
 refine wpList_keeps_int hgd s x ho base v (List.replicate n mk) hs (by rw [hn]; exact hown) g c mk hx hnew (by omega) hbase ?_
 intro g' cap w' h1 h2 h3 h4
 rw [marks_snoc] at h1
 rw [hn] at h1 h3 ⊢
 rw [List.length_replicate] at h1
 exact h g' cap w' h1 h2 h3 h4
theorem markInt_any (k : Int) (w : World) (h0 : 0 ≤ k) (h1 : k ≤ 2000000000) : Calls Try.prog 39 #[.int .i64 k] w fun e w' => e = .returned (.int .i64 (-1000 - k)) ∧ w' = w := by
 go_enter Try.func39, Try.ntmps39
 go_wp2
 go_ret
 exact ⟨ret_int (by go_num), rfl⟩
theorem marks_step (l : List Int) (k : Nat) (mk : Int) (hk : k < l.length) : (ints (List.replicate k mk ++ l.drop k)).set k (.int .i64 mk) = ints (List.replicate (k + 1) mk ++ l.drop (k + 1)) := by
 rw [ints_set]
 congr 1
 rw [List.set_append_right _ _ (by simp), List.length_replicate, Nat.sub_self, List.drop_eq_getElem_cons hk, List.set_cons_zero, List.replicate_succ', List.append_assoc]
 rfl
theorem marks_length (l : List Int) (k : Nat) (mk : Int) (hk : k ≤ l.length) : (List.replicate k mk ++ l.drop k).length = l.length := by
 rw [List.length_append, List.length_replicate, List.length_drop]; omega
theorem grown_allocK {w w' : World} {o : Obj} {row : Option Nat} (h : (w.alloc o).grownBy w' row) : w.grownBy w' row :=
 ⟨h.os, h.tape, h.output, by have := h.size; rw [World.size_alloc] at this; omega, fun k hk hr => (h.block k (by rw [World.size_alloc]; omega) hr).trans (Below.heap_alloc _ _ k hk)⟩
section
variable {P : Program}
end
theorem ents_write (A : List Ent) (x y : Ent) (C : List Ent) (n : Nat) (hn : n = A.length) :
  (((((ints (entsNums (A ++ x :: C))).set (n * 5) (.int .i64 y.client)).set (n * 5 + 1) (.int .i64 y.seq)).set (n * 5 + 2) (.int .i64 y.kind)).set (n * 5 + 3) (.int .i64 y.key)).set (n * 5 + 4) (.int .i64 y.value) = ints (entsNums (A ++ y :: C)) := by
 subst hn
 rw [ints_set, ints_set, ints_set, ints_set, ints_set]
 congr 1
 rw [entsNums_append, entsNums_append]
 have hl : (entsNums A).length = A.length * 5 := by rw [entsNums_length]; omega
 rw [← hl]
 have e1 : entsNums (x :: C) = x.client :: x.seq :: x.kind :: x.key :: x.value :: entsNums C := rfl
 have e2 : entsNums (y :: C) = y.client :: y.seq :: y.kind :: y.key :: y.value :: entsNums C := rfl
 rw [e1, e2]
 rw [List.set_append_right _ _ (Nat.le_refl _), List.set_append_right _ _ (by omega), List.set_append_right _ _ (by omega), List.set_append_right _ _ (by omega), List.set_append_right _ _ (by omega)]
 rw [Nat.sub_self, Nat.add_sub_cancel_left, Nat.add_sub_cancel_left, Nat.add_sub_cancel_left, Nat.add_sub_cancel_left]
 rfl
end Go.Proofs.Ytgieeeeeiggoeaa
