import Derived.Test.YtlminmokpmdgoaaP02
import Derived.Test.YtlminmokpmdgoaaP07
import Derived.Test.YtlminmokpmdgoaaP04
import Derived.Shelf.RegionOpenPlain
import Derived.Deep.RegionLaw
import Derived.Lib.SliceRun
import Derived.Test.YtlminmokpmdgoaaP06
import Derived.Test.YtlminmokpmdgoaaP05
import Derived.Deep.AppendLies
import Derived.Test.YtlminmokpmdgoaaP01
import Derived.RangeFuncNested
import Derived.RangeFuncBound
import Derived.RangeFuncCalls
import Derived.RangeFuncLeaves
import Derived.Shelf.Abstract
import Derived.Shelf.RegionOpen
import Derived.OwnWalkIn
import Derived.TacticsInMore
import Derived.LoopNIn
import Derived.LoopIn
namespace Go.Proofs.Ytlminmokpmdgoaa
open Go.RowKit Go.Shelf
def NodAt (w : World) (F : Nat → Prop) (b : Nat) (own : Int) : Nod → Prop
 | .rep r => (∃ vm vl, RepAt w b own r vm vl ∧ (∀ k, RepS b vm vl k → F k) ∧ ∀ k, F k → k < w.heap.size) ∧ (r.up = false → r.commit = r.base)
 | .acc a => AccAt w F b own a
 | .mas s => (∃ p, MRel own s p ∧ MasAt w F b own p) ∧ (s.up = false → s.does = 0)
theorem RepAt.keep {w w' : World} {b : Nat} {own : Int} {r : Rep} {vm vl : Value} (h : RepAt w b own r vm vl) (hk : ∀ k, RepS b vm vl k → w'.heap[k]? = w.heap[k]?) : RepAt w' b own r vm vl :=
 ⟨(hk b (.inl rfl)).trans h.blk, owns_only h.hm fun k e => hk k (.inr (.inl e)), owns_only h.hl fun k e => hk k (.inr (.inr e))⟩
theorem lt_of_keep {w w' : World} {k : Nat} (h : k < w.heap.size) (hk : w'.heap[k]? = w.heap[k]?) : k < w'.heap.size := by
 rw [Array.getElem?_eq_getElem h] at hk
 exact (Array.getElem?_eq_some_iff.1 hk).1
theorem NodAt.keep {w w' : World} {F : Nat → Prop} {b : Nat} {own : Int} {x : Nod} (h : NodAt w F b own x) (hk : ∀ k, F k → w'.heap[k]? = w.heap[k]?) : NodAt w' F b own x := by
 cases x with
 | rep r =>
  obtain ⟨⟨vm, vl, h1, h2, h3⟩, h4⟩ := h
  exact ⟨⟨vm, vl, h1.keep fun k e => hk k (h2 k e), h2, fun k e => lt_of_keep (h3 k e) (hk k e)⟩, h4⟩
 | acc a =>
  obtain ⟨vm, g, l, h⟩ := h
  exact ⟨vm, g, l, h.keep hk⟩
 | mas s =>
  obtain ⟨⟨p, h1, vw, vo, vm, vl, h2⟩, h3⟩ := h
  exact ⟨⟨p, h1, vw, vo, vm, vl, h2.keep hk⟩, h3⟩
theorem NodAt.lt {w : World} {F : Nat → Prop} {b : Nat} {own : Int} {x : Nod} (h : NodAt w F b own x) {k : Nat} (hk : F k) : k < w.heap.size := by
 cases x with
 | rep r =>
  obtain ⟨⟨vm, vl, h1, h2, h3⟩, h4⟩ := h
  exact h3 k hk
 | acc a =>
  obtain ⟨vm, g, l, h⟩ := h
  exact h.lt k hk
 | mas s =>
  obtain ⟨⟨p, h1, vw, vo, vm, vl, h2⟩, h3⟩ := h
  exact h2.lt k hk
theorem Moved.wider {w w' : World} {S F : Nat → Prop} (h : Moved w w' S) (hS : ∀ k, S k → F k) : Moved w w' F := ⟨h.os, h.tape, h.output, h.size, fun k hk hF => h.block k hk (fun e => hF (hS k e))⟩
theorem RepWF.ok {n : Nat} {E : Int} {r : Rep} (h : RepWF n E r) (hn : n ≤ 5) : RepOK r := ⟨by have := memsOk_length h.mems; omega, h.log.1, h.commit⟩
theorem AccWF.ok {n : Nat} {E : Int} {a : Acc} (h : AccWF n E a) (hn : n ≤ 5) : AccOK a := by
 refine ⟨by have := memsOk_length h.mems; omega, fun e => ⟨?_, (h.votes e).log.1⟩⟩
 rcases (h.votes e).mems with e1 | e1
 ·simp [e1]
 ·have := memsOk_length e1; omega
end Go.Proofs.Ytlminmokpmdgoaa
namespace Go.Proofs.Ytlminmokpmdgoaa
open Go.RowKit
def Ans.nums (a : Ans) : List Int := [a.client, a.seq, a.value]
def ansNums (l : List Ans) : List Int := l.flatMap Ans.nums
theorem ansNums_length (l : List Ans) : (ansNums l).length = l.length * 3 := by
 unfold ansNums
 induction l with
 | nil => rfl
 | cons a t ih => rw [List.flatMap_cons, List.length_append, ih]; simp [Ans.nums]; omega
theorem ansNums_at (l : List Ans) (i j : Nat) (x : Ans) (hx : l[i]? = some x) (hj : j < 3) : (ansNums l)[i * 3 + j]? = x.nums[j]? := by
 induction l generalizing i with
 | nil => simp at hx
 | cons a t ih =>
  have e : ansNums (a :: t) = a.nums ++ ansNums t := by simp [ansNums]
  have hl : a.nums.length = 3 := rfl
  rw [e]
  cases i with
  | zero =>
   rw [List.getElem?_append_left (by omega)]
   simp at hx
   subst hx
   simp
  | succ i =>
   rw [List.getElem?_append_right (by omega), hl, show (i + 1) * 3 + j - 3 = i * 3 + j by omega, ih i (by simpa using hx)]
end Go.Proofs.Ytlminmokpmdgoaa
namespace Go.Proofs.Ytlminmokpmdgoaa
open Go.RowKit Go.Shelf
theorem append_rowG {t e : TypeId} {z : Value} {size bytes : Nat} (hinfo : (Try.prog.info? e).map (fun i => (i.zero, i.size, i.bytes)) = some (some z, size, bytes)) (hu : Try.prog.underlying t = some (.slice e)) (hzs : z.cells.size = size) (hsz : 0 < size)
  (W : World) (base : Nat) (v : Value) (n : Nat) (xs news : List Value) (g : Nat) (hown : W.ownsRow base e size v n xs) (hg : W.heap[g]? = some (.cells news.toArray e)) (hnl : news.length = size) (h1 : ∀ u ∈ news, u.oneCell' = true) (hl : n ≤ 3000000000000) (hbb : (n + 1) * bytes ≤ 140737488355328) (hb : base ≤ W.heap.size) :
  ∃ g' cap W', (∀ ty, (Builtin.append_ #[t, t] ty #[v, .slice (some ⟨g, 0, none⟩) 1 1]).run Try.prog W = .ok (.slice (some ⟨g', 0, none⟩) (n + 1) cap) W') ∧
   W'.ownsRow base e size (.slice (some ⟨g', 0, none⟩) (n + 1) cap) (n + 1) (xs ++ news) ∧ W.grownBy W' v.ownBlock ∧ (v.ownBlock = some g' ∨ g' = W.heap.size) := by
 obtain ⟨i0, hi, hz0, hz1, hz2⟩ := info_parts hinfo
 have hA : ∀ ty, ∃ g' cap W', (Builtin.append_ #[t, t] ty #[v, .slice (some ⟨g, 0, none⟩) 1 1]).run Try.prog W = .ok (.slice (some ⟨g', 0, none⟩) (n + 1) cap) W' ∧
   W'.ownsRow base e size (.slice (some ⟨g', 0, none⟩) (n + 1) cap) (n + 1) (xs ++ news) ∧ W.grownBy W' v.ownBlock ∧ (v.ownBlock = some g' ∨ g' = W.heap.size) := fun ty => by
  obtain ⟨g', cap, W', hr, h2, h3, h4, -⟩ := run_append_lies (P := Try.prog) W t ty base e i0 _ size bytes hu hi hz0 hz1 hz2 hzs hsz v n xs hown ⟨g, 0, none⟩ 1 1 news (by rw [hnl, Nat.one_mul])
   (fun j u hj => World.news_of_block hg j u (by simpa using hj)) h1 (by omega) (by unfold maxLen; omega) hbb hb _ rfl
  exact ⟨g', cap, W', hr, h2, h3, h4⟩
 obtain ⟨g', cap, W', hr, h2, h3⟩ := hA 0
 refine ⟨g', cap, W', fun ty => ?_, h2, h3⟩
 rw [← hr]
 rfl
theorem append_row {t e : TypeId} {z : Value} {size bytes : Nat} (hinfo : (Try.prog.info? e).map (fun i => (i.zero, i.size, i.bytes)) = some (some z, size, bytes)) (hu : Try.prog.underlying t = some (.slice e)) (hzs : z.cells.size = size) (hsz : 0 < size)
  (W : World) (base : Nat) (v : Value) (n : Nat) (xs news : List Value) (g : Nat) (hown : W.ownsRow base e size v n xs) (hg : W.heap[g]? = some (.cells news.toArray e)) (hnl : news.length = size) (h1 : ∀ u ∈ news, u.oneCell' = true) (hl : n ≤ 1000000000000) (hby : bytes ≤ 100) (hb : base ≤ W.heap.size) :
  ∃ g' cap W', (∀ ty, (Builtin.append_ #[t, t] ty #[v, .slice (some ⟨g, 0, none⟩) 1 1]).run Try.prog W = .ok (.slice (some ⟨g', 0, none⟩) (n + 1) cap) W') ∧
   W'.ownsRow base e size (.slice (some ⟨g', 0, none⟩) (n + 1) cap) (n + 1) (xs ++ news) ∧ W.grownBy W' v.ownBlock ∧ (v.ownBlock = some g' ∨ g' = W.heap.size) :=
 append_rowG hinfo hu hzs hsz W base v n xs news g hown hg hnl h1 (by omega) (Nat.le_trans (Nat.mul_le_mul (by omega : n + 1 ≤ 1000000000001) hby) (by decide)) hb
def bagV (l : List (List UInt8 × Bool)) : List Value := l.map (fun f => Value.string (bs f.1))
theorem bagV_one (l : List (List UInt8 × Bool)) : ∀ u ∈ bagV l, u.oneCell' = true := by
 intro u hu
 unfold bagV at hu
 rw [List.mem_map] at hu
 obtain ⟨f, _, rfl⟩ := hu
 rfl
structure BagIn (w : World) (x : Nat) (vs vr va vm vb vt : Value) (l : List (List UInt8 × Bool)) : Prop where
 blk : w.heap[x]? = some (.cells #[vs, vr, va, vm, vb, vt] 152)
 row : w.ownsRow 0 9 1 vb l.length (bagV l)
theorem set6_0 {W : World} {g : Nat} {T : TypeId} {a0 a1 a2 a3 a4 a5 : Value} (v : Value) (h : W.heap[g]? = some (.cells #[a0, a1, a2, a3, a4, a5] T)) : (W.setCell ⟨g, 0, none⟩ v).heap[g]? = some (.cells #[v, a1, a2, a3, a4, a5] T) := heap_setCell_same _ _ _ _ _ _ h
theorem set6_1 {W : World} {g : Nat} {T : TypeId} {a0 a1 a2 a3 a4 a5 : Value} (v : Value) (h : W.heap[g]? = some (.cells #[a0, a1, a2, a3, a4, a5] T)) : (W.setCell ⟨g, 1, none⟩ v).heap[g]? = some (.cells #[a0, v, a2, a3, a4, a5] T) := heap_setCell_same _ _ _ _ _ _ h
theorem set6_2 {W : World} {g : Nat} {T : TypeId} {a0 a1 a2 a3 a4 a5 : Value} (v : Value) (h : W.heap[g]? = some (.cells #[a0, a1, a2, a3, a4, a5] T)) : (W.setCell ⟨g, 2, none⟩ v).heap[g]? = some (.cells #[a0, a1, v, a3, a4, a5] T) := heap_setCell_same _ _ _ _ _ _ h
theorem set6_3 {W : World} {g : Nat} {T : TypeId} {a0 a1 a2 a3 a4 a5 : Value} (v : Value) (h : W.heap[g]? = some (.cells #[a0, a1, a2, a3, a4, a5] T)) : (W.setCell ⟨g, 3, none⟩ v).heap[g]? = some (.cells #[a0, a1, a2, v, a4, a5] T) := heap_setCell_same _ _ _ _ _ _ h
set_option maxRecDepth 100000 in
theorem bagList_any (x : Nat) (vs vr va vm vb vt : Value) (l : List (List UInt8 × Bool)) (w : World) (h : BagIn w x vs vr va vm vb vt l) (hl : l.length ≤ 200) :
  Calls Try.prog 83 #[.pointer (some ⟨x, 4, none⟩)] w fun e w' => ∃ v, e = .returned v ∧ w'.ownsRow w.heap.size 9 1 v l.length (bagV l) ∧ Below w.heap.size w w' := by
 have HC := hideA (clone_strs vb l.length (bagV l) w (CellsAt.of_owns h.row) (by unfold bagV; simp) (bagV_one l) (by omega))
 obtain ⟨ab, cb, rfl⟩ := owns_shape h.row
 have c4 := cell_of_heap h.blk 4
 clear h
 go_enter Try.func83, Try.ntmps83
 go_wp2_with fail
 refine HC.out.mono ?_
 rintro e Y ⟨v, rfl, h1, h2⟩
 obtain ⟨a9, c9, rfl⟩ := owns_shape h1
 have H1 := hideA h1
 clear h1 c4
 go_wp2_with fail
 go_ret
 exact ⟨_, rfl, H1.out, h2⟩
def nodTy : Nod → TypeId
 | .rep _ => 154
 | .acc _ => 157
 | .mas _ => 159
def upInt (b : Bool) : Int := if b then 0 else 1
def OwnS (x gs : Nat) (vr va vm vb vt : Value) (k : Nat) : Prop := k = x ∨ k = gs ∨ vr.ownBlock = some k ∨ va.ownBlock = some k ∨ vm.ownBlock = some k ∨ vb.ownBlock = some k ∨ vt.ownBlock = some k
def StaIn (w : World) (gs : Nat) (m : Nat) (f : Nat → Int × Int × Value) : Prop :=
 ∃ cs, w.heap[gs]? = some (.cells cs 177) ∧ ∀ j, j < m → cs[j * 3]? = some (.int .i64 (f j).1) ∧ cs[j * 3 + 1]? = some (.int .i64 (f j).2.1) ∧ cs[j * 3 + 2]? = some (f j).2.2
def Clu.sta (c : Clu) (b : Nat → Nat) (j : Nat) : Int × Int × Value := (numOf c.reps.length j, upInt (c.nod j).up, .iface (nodTy (c.nod j)) (.pointer (some ⟨b j, 0, none⟩)))
def ptrs (b : Nat → Nat) (from_ m : Nat) : List Value := (List.range m).map fun i => Value.pointer (some ⟨b (from_ + i), 0, none⟩)
structure CluIn (w : World) (F : Nat → Prop) (x gs cap : Nat) (c : Clu) (b : Nat → Nat) (Fn : Nat → Nat → Prop) (vr va vm vb vt : Value) : Prop where
 bag : BagIn w x (.slice (some ⟨gs, 0, none⟩) (c.reps.length + 5) cap) vr va vm vb vt c.bag
 sta : StaIn w gs (c.reps.length + 5) (c.sta b)
 hcap : c.reps.length + 5 ≤ cap
 rr : w.ownsRow 0 154 1 vr c.reps.length (ptrs b 0 c.reps.length)
 ra : w.ownsRow 0 157 1 va 3 (ptrs b c.reps.length 3)
 rm : w.ownsRow 0 159 1 vm 2 (ptrs b (c.reps.length + 3) 2)
 rt : w.ownsRow 0 77 3 vt c.told.length (ints (ansNums c.told))
 nod : ∀ j, j < c.reps.length + 5 → NodAt w (Fn j) (b j) (numOf c.reps.length j) (c.nod j)
 sep : ∀ i j, i < c.reps.length + 5 → j < c.reps.length + 5 → i ≠ j → ∀ k, Fn i k → ¬ Fn j k
 off : ∀ j, j < c.reps.length + 5 → ∀ k, Fn j k → ¬ OwnS x gs vr va vm vb vt k
 inO : ∀ k, OwnS x gs vr va vm vb vt k → F k
 inN : ∀ j, j < c.reps.length + 5 → ∀ k, Fn j k → F k
 lt : ∀ k, F k → k < w.heap.size
 n1 : 1 ≤ c.reps.length
 n5 : c.reps.length ≤ 5
 a3 : c.accs.length = 3
 m2 : c.mass.length = 2
def CAt (w : World) (F : Nat → Prop) (x : Nat) (c : Clu) : Prop := ∃ gs cap b Fn vr va vm vb vt, CluIn w F x gs cap c b Fn vr va vm vb vt
theorem StaIn.keep {w w' : World} {gs m : Nat} {f : Nat → Int × Int × Value} (h : StaIn w gs m f) (hk : w'.heap[gs]? = w.heap[gs]?) : StaIn w' gs m f := by
 obtain ⟨cs, h1, h2⟩ := h
 exact ⟨cs, hk.trans h1, h2⟩
theorem CluIn.keep {w w' : World} {F : Nat → Prop} {x gs cap : Nat} {c : Clu} {b : Nat → Nat} {Fn : Nat → Nat → Prop} {vr va vm vb vt : Value} (h : CluIn w F x gs cap c b Fn vr va vm vb vt) (hk : ∀ k, F k → w'.heap[k]? = w.heap[k]?) : CluIn w' F x gs cap c b Fn vr va vm vb vt where
 bag := ⟨(hk x (h.inO x (.inl rfl))).trans h.bag.blk, owns_only h.bag.row fun k e => hk k (h.inO k (.inr (.inr (.inr (.inr (.inr (.inl e)))))))⟩
 sta := h.sta.keep (hk gs (h.inO gs (.inr (.inl rfl))))
 hcap := h.hcap
 rr := owns_only h.rr fun k e => hk k (h.inO k (.inr (.inr (.inl e))))
 ra := owns_only h.ra fun k e => hk k (h.inO k (.inr (.inr (.inr (.inl e)))))
 rm := owns_only h.rm fun k e => hk k (h.inO k (.inr (.inr (.inr (.inr (.inl e))))))
 rt := owns_only h.rt fun k e => hk k (h.inO k (.inr (.inr (.inr (.inr (.inr (.inr e)))))))
 nod := fun j hj => (h.nod j hj).keep fun k e => hk k (h.inN j hj k e)
 sep := h.sep
 off := h.off
 inO := h.inO
 inN := h.inN
 lt := fun k hF => lt_of_keep (h.lt k hF) (hk k hF)
 n1 := h.n1
 n5 := h.n5
 a3 := h.a3
 m2 := h.m2
theorem CluIn.below {w w' : World} {F : Nat → Prop} {x gs cap : Nat} {c : Clu} {b : Nat → Nat} {Fn : Nat → Nat → Prop} {vr va vm vb vt : Value} (h : CluIn w F x gs cap c b Fn vr va vm vb vt) (hb : Below w.heap.size w w') : CluIn w' F x gs cap c b Fn vr va vm vb vt :=
 h.keep fun k hF => hb.block k (h.lt k hF)
end Go.Proofs.Ytlminmokpmdgoaa
