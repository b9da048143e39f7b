import Derived.Test.YtgieeeeeiggoeaaP02
import Derived.Test.YtgieeeeeiggoeaaP07
import Derived.Test.YtgieeeeeiggoeaaP04
import Derived.Shelf.RegionOpenPlain
import Derived.Deep.RegionLaw
import Derived.Lib.SliceRun
import Derived.Test.YtgieeeeeiggoeaaP06
import Derived.Test.YtgieeeeeiggoeaaP05
import Derived.Deep.AppendLies
import Derived.Test.YtgieeeeeiggoeaaP01
import Derived.RangeFuncNested
import Derived.RangeFuncBound
import Derived.RangeFuncCalls
import Derived.RangeFuncLeaves
import Derived.Shelf.Abstract
import Derived.Shelf.RegionOpen
import Derived.OwnWalkIn
import Derived.TacticsInMore
import Derived.LoopNIn
import Derived.LoopIn
import Derived.Deep.OwnRows
namespace Go.Proofs.Ytgieeeeeiggoeaa
open Go.RowKit Go.Shelf
def NodAt (w : World) (F : Nat → Prop) (b : Nat) (own : Int) : Nod → Prop
 | .rep r => (∃ vm vl, RepAt w b own r vm vl ∧ (∀ k, RepS b vm vl k → F k) ∧ ∀ k, F k → k < w.heap.size) ∧ (r.up = false → r.commit = r.base)
 | .acc a => AccAt w F b own a
 | .mas s => (∃ p, MRel own s p ∧ MasAt w F b own p) ∧ (s.up = false → s.does = 0)
theorem RepAt.keep {w w' : World} {b : Nat} {own : Int} {r : Rep} {vm vl : Value} (h : RepAt w b own r vm vl) (hk : ∀ k, RepS b vm vl k → w'.heap[k]? = w.heap[k]?) : RepAt w' b own r vm vl :=
 ⟨(hk b (.inl rfl)).trans h.blk, owns_only h.hm fun k e => hk k (.inr (.inl e)), owns_only h.hl fun k e => hk k (.inr (.inr e))⟩
theorem lt_of_keep {w w' : World} {k : Nat} (h : k < w.heap.size) (hk : w'.heap[k]? = w.heap[k]?) : k < w'.heap.size := by
 rw [Array.getElem?_eq_getElem h] at hk
 exact (Array.getElem?_eq_some_iff.1 hk).1
theorem NodAt.keep {w w' : World} {F : Nat → Prop} {b : Nat} {own : Int} {x : Nod} (h : NodAt w F b own x) (hk : ∀ k, F k → w'.heap[k]? = w.heap[k]?) : NodAt w' F b own x := by
 cases x with
 | rep r =>
  obtain ⟨⟨vm, vl, h1, h2, h3⟩, h4⟩ := h
  exact ⟨⟨vm, vl, h1.keep fun k e => hk k (h2 k e), h2, fun k e => lt_of_keep (h3 k e) (hk k e)⟩, h4⟩
 | acc a =>
  obtain ⟨vm, g, l, h⟩ := h
  exact ⟨vm, g, l, h.keep hk⟩
 | mas s =>
  obtain ⟨⟨p, h1, vw, vo, vm, vl, h2⟩, h3⟩ := h
  exact ⟨⟨p, h1, vw, vo, vm, vl, h2.keep hk⟩, h3⟩
theorem NodAt.lt {w : World} {F : Nat → Prop} {b : Nat} {own : Int} {x : Nod} (h : NodAt w F b own x) {k : Nat} (hk : F k) : k < w.heap.size := by
 cases x with
 | rep r =>
  obtain ⟨⟨vm, vl, h1, h2, h3⟩, h4⟩ := h
  exact h3 k hk
 | acc a =>
  obtain ⟨vm, g, l, h⟩ := h
  exact h.lt k hk
 | mas s =>
  obtain ⟨⟨p, h1, vw, vo, vm, vl, h2⟩, h3⟩ := h
  exact h2.lt k hk
theorem Moved.wider {w w' : World} {S F : Nat → Prop} (h : Moved w w' S) (hS : ∀ k, S k → F k) : Moved w w' F := ⟨h.os, h.tape, h.output, h.size, fun k hk hF => h.block k hk (fun e => hF (hS k e))⟩
theorem RepWF.ok {n : Nat} {E : Int} {r : Rep} (h : RepWF n E r) (hn : n ≤ 5) : RepOK r := ⟨by have := memsOk_length h.mems; omega, h.log.1, h.commit⟩
theorem AccWF.ok {n : Nat} {E : Int} {a : Acc} (h : AccWF n E a) (hn : n ≤ 5) : AccOK a := by
 refine ⟨by have := memsOk_length h.mems; omega, fun e => ⟨?_, (h.votes e).log.1⟩⟩
 rcases (h.votes e).mems with e1 | e1
 ·simp [e1]
 ·have := memsOk_length e1; omega
end Go.Proofs.Ytgieeeeeiggoeaa
namespace Go.Proofs.Ytgieeeeeiggoeaa
open Go.RowKit
def Ans.nums (a : Ans) : List Int := [a.client, a.seq, a.value]
def ansNums (l : List Ans) : List Int := l.flatMap Ans.nums
theorem ansNums_length (l : List Ans) : (ansNums l).length = l.length * 3 := by
 unfold ansNums
 induction l with
 | nil => rfl
 | cons a t ih => rw [List.flatMap_cons, List.length_append, ih]; simp [Ans.nums]; omega
theorem ansNums_at (l : List Ans) (i j : Nat) (x : Ans) (hx : l[i]? = some x) (hj : j < 3) : (ansNums l)[i * 3 + j]? = x.nums[j]? := by
 induction l generalizing i with
 | nil => simp at hx
 | cons a t ih =>
  have e : ansNums (a :: t) = a.nums ++ ansNums t := by simp [ansNums]
  have hl : a.nums.length = 3 := rfl
  rw [e]
  cases i with
  | zero =>
   rw [List.getElem?_append_left (by omega)]
   simp at hx
   subst hx
   simp
  | succ i =>
   rw [List.getElem?_append_right (by omega), hl, show (i + 1) * 3 + j - 3 = i * 3 + j by omega, ih i (by simpa using hx)]
end Go.Proofs.Ytgieeeeeiggoeaa
namespace Go.Proofs.Ytgieeeeeiggoeaa
open Go.RowKit Go.Shelf
theorem append_rowG {t e : TypeId} {z : Value} {size bytes : Nat} (hinfo : (Try.prog.info? e).map (fun i => (i.zero, i.size, i.bytes)) = some (some z, size, bytes)) (hu : Try.prog.underlying t = some (.slice e)) (hzs : z.cells.size = size) (hsz : 0 < size)
  (W : World) (base : Nat) (v : Value) (n : Nat) (xs news : List Value) (g : Nat) (hown : W.ownsRow base e size v n xs) (hg : W.heap[g]? = some (.cells news.toArray e)) (hnl : news.length = size) (h1 : ∀ u ∈ news, u.oneCell' = true) (hl : n ≤ 3000000000000) (hbb : (n + 1) * bytes ≤ 140737488355328) (hb : base ≤ W.heap.size) :
  ∃ g' cap W', (∀ ty, (Builtin.append_ #[t, t] ty #[v, .slice (some ⟨g, 0, none⟩) 1 1]).run Try.prog W = .ok (.slice (some ⟨g', 0, none⟩) (n + 1) cap) W') ∧
   W'.ownsRow base e size (.slice (some ⟨g', 0, none⟩) (n + 1) cap) (n + 1) (xs ++ news) ∧ W.grownBy W' v.ownBlock ∧ (v.ownBlock = some g' ∨ g' = W.heap.size) := by
 obtain ⟨i0, hi, hz0, hz1, hz2⟩ := info_parts hinfo
 have hA : ∀ ty, ∃ g' cap W', (Builtin.append_ #[t, t] ty #[v, .slice (some ⟨g, 0, none⟩) 1 1]).run Try.prog W = .ok (.slice (some ⟨g', 0, none⟩) (n + 1) cap) W' ∧
   W'.ownsRow base e size (.slice (some ⟨g', 0, none⟩) (n + 1) cap) (n + 1) (xs ++ news) ∧ W.grownBy W' v.ownBlock ∧ (v.ownBlock = some g' ∨ g' = W.heap.size) := fun ty => by
  obtain ⟨g', cap, W', hr, h2, h3, h4, -⟩ := run_append_lies (P := Try.prog) W t ty base e i0 _ size bytes hu hi hz0 hz1 hz2 hzs hsz v n xs hown ⟨g, 0, none⟩ 1 1 news (by rw [hnl, Nat.one_mul])
   (fun j u hj => World.news_of_block hg j u (by simpa using hj)) h1 (by omega) (by unfold maxLen; omega) hbb hb _ rfl
  exact ⟨g', cap, W', hr, h2, h3, h4⟩
 obtain ⟨g', cap, W', hr, h2, h3⟩ := hA 0
 refine ⟨g', cap, W', fun ty => ?_, h2, h3⟩
 rw [← hr]
 rfl
theorem append_row {t e : TypeId} {z : Value} {size bytes : Nat} (hinfo : (Try.prog.info? e).map (fun i => (i.zero, i.size, i.bytes)) = some (some z, size, bytes)) (hu : Try.prog.underlying t = some (.slice e)) (hzs : z.cells.size = size) (hsz : 0 < size)
  (W : World) (base : Nat) (v : Value) (n : Nat) (xs news : List Value) (g : Nat) (hown : W.ownsRow base e size v n xs) (hg : W.heap[g]? = some (.cells news.toArray e)) (hnl : news.length = size) (h1 : ∀ u ∈ news, u.oneCell' = true) (hl : n ≤ 1000000000000) (hby : bytes ≤ 100) (hb : base ≤ W.heap.size) :
  ∃ g' cap W', (∀ ty, (Builtin.append_ #[t, t] ty #[v, .slice (some ⟨g, 0, none⟩) 1 1]).run Try.prog W = .ok (.slice (some ⟨g', 0, none⟩) (n + 1) cap) W') ∧
   W'.ownsRow base e size (.slice (some ⟨g', 0, none⟩) (n + 1) cap) (n + 1) (xs ++ news) ∧ W.grownBy W' v.ownBlock ∧ (v.ownBlock = some g' ∨ g' = W.heap.size) :=
 append_rowG hinfo hu hzs hsz W base v n xs news g hown hg hnl h1 (by omega) (Nat.le_trans (Nat.mul_le_mul (by omega : n + 1 ≤ 1000000000001) hby) (by decide)) hb
def bagV (l : List (List UInt8 × Bool)) : List Value := l.map (fun f => Value.string (bs f.1))
theorem bagV_one (l : List (List UInt8 × Bool)) : ∀ u ∈ bagV l, u.oneCell' = true := by
 intro u hu
 unfold bagV at hu
 rw [List.mem_map] at hu
 obtain ⟨f, _, rfl⟩ := hu
 rfl
def bagF (l : List (List UInt8 × Bool)) : List Value := l.flatMap (fun f => [Value.string (bs f.1), .bool f.2])
theorem bagF_at (l : List (List UInt8 × Bool)) (i : Nat) (f : List UInt8 × Bool) (hf : l[i]? = some f) : (bagF l)[i * 2]? = some (.string (bs f.1)) ∧ (bagF l)[i * 2 + 1]? = some (.bool f.2) := by
 induction l generalizing i with
 | nil => simp at hf
 | cons a t ih =>
  have e : bagF (a :: t) = [Value.string (bs a.1), .bool a.2] ++ bagF t := by simp [bagF]
  rw [e]
  cases i with
  | zero =>
   simp at hf
   subst hf
   exact ⟨rfl, rfl⟩
  | succ i =>
   rw [List.getElem?_append_right (by simp; omega), List.getElem?_append_right (by simp; omega), show (i + 1) * 2 - [Value.string (bs a.1), Value.bool a.2].length = i * 2 by simp; omega, show (i + 1) * 2 + 1 - [Value.string (bs a.1), Value.bool a.2].length = i * 2 + 1 by simp; omega]
   exact ih i (by simpa using hf)
structure BagIn (w : World) (x : Nat) (vs vr va vm vb vt : Value) (l : List (List UInt8 × Bool)) : Prop where
 blk : w.heap[x]? = some (.cells #[vs, vr, va, vm, vb, vt] 153)
 row : w.ownsRow 0 188 2 vb l.length (bagF l)
theorem set6_0 {W : World} {g : Nat} {T : TypeId} {a0 a1 a2 a3 a4 a5 : Value} (v : Value) (h : W.heap[g]? = some (.cells #[a0, a1, a2, a3, a4, a5] T)) : (W.setCell ⟨g, 0, none⟩ v).heap[g]? = some (.cells #[v, a1, a2, a3, a4, a5] T) := heap_setCell_same _ _ _ _ _ _ h
theorem set6_1 {W : World} {g : Nat} {T : TypeId} {a0 a1 a2 a3 a4 a5 : Value} (v : Value) (h : W.heap[g]? = some (.cells #[a0, a1, a2, a3, a4, a5] T)) : (W.setCell ⟨g, 1, none⟩ v).heap[g]? = some (.cells #[a0, v, a2, a3, a4, a5] T) := heap_setCell_same _ _ _ _ _ _ h
theorem set6_2 {W : World} {g : Nat} {T : TypeId} {a0 a1 a2 a3 a4 a5 : Value} (v : Value) (h : W.heap[g]? = some (.cells #[a0, a1, a2, a3, a4, a5] T)) : (W.setCell ⟨g, 2, none⟩ v).heap[g]? = some (.cells #[a0, a1, v, a3, a4, a5] T) := heap_setCell_same _ _ _ _ _ _ h
theorem set6_3 {W : World} {g : Nat} {T : TypeId} {a0 a1 a2 a3 a4 a5 : Value} (v : Value) (h : W.heap[g]? = some (.cells #[a0, a1, a2, a3, a4, a5] T)) : (W.setCell ⟨g, 3, none⟩ v).heap[g]? = some (.cells #[a0, a1, a2, v, a4, a5] T) := heap_setCell_same _ _ _ _ _ _ h
def midTxt (l : List (List UInt8 × Bool)) (k : Nat) : List Value := bagV (l.take k) ++ List.replicate (l.length - k) (.string ⟨#[]⟩)
theorem bagV_length (l : List (List UInt8 × Bool)) : (bagV l).length = l.length := List.length_map _
theorem midTxt_at (l : List (List UInt8 × Bool)) (k : Nat) (hk : k < l.length) : (midTxt l k)[k]? = some (.string ⟨#[]⟩) := by
 unfold midTxt
 have hlk : (bagV (l.take k)).length = k := by rw [bagV_length, List.length_take]; omega
 rw [List.getElem?_append_right (by omega), hlk, Nat.sub_self, List.getElem?_replicate, if_pos (by omega)]
theorem midTxt_set (l : List (List UInt8 × Bool)) (k : Nat) (hk : k < l.length) : (midTxt l k).set k (.string (bs l[k].1)) = midTxt l (k + 1) := by
 unfold midTxt
 have hlk : (bagV (l.take k)).length = k := by rw [bagV_length, List.length_take]; omega
 rw [List.set_append_right _ _ (by omega), hlk, Nat.sub_self]
 obtain ⟨d, hd⟩ : ∃ d, l.length - k = d + 1 := ⟨l.length - k - 1, by omega⟩
 rw [hd, List.replicate_succ, List.set_cons_zero, show l.length - (k + 1) = d by omega, List.take_succ_eq_append_getElem hk]
 unfold bagV
 rw [List.map_append]
 simp
set_option maxRecDepth 100000 in
set_option maxHeartbeats 1000000 in
theorem bagList_any (x : Nat) (vs vr va vm vb vt : Value) (l : List (List UInt8 × Bool)) (w : World) (h : BagIn w x vs vr va vm vb vt l) (hl : l.length ≤ 200) :
  Calls Try.prog 83 #[.pointer (some ⟨x, 4, none⟩)] w fun e w' => ∃ v, e = .returned v ∧ w'.ownsRow w.heap.size 9 1 v l.length (bagV l) ∧ Below w.heap.size w w' := by
 have hmk := run_make_row' (P := Try.prog) 74 9 (.string ⟨#[]⟩) 16 Try.underlying74 infoStr rfl .i64 .i64 l.length (by omega) (by omega)
 obtain ⟨ab, cb, rfl⟩ := owns_shape h.row
 have c4 := cell_of_heap h.blk 4
 have hxl : x < w.heap.size := (Array.getElem?_eq_some_iff.1 h.blk).1
 have HB := hideA h
 clear h
 go_enter Try.func83, Try.ntmps83
 go_wp2_with fail
 go_loopw [17] (fun i wr => ∃ k : Nat, k ≤ l.length ∧ i = .int .i64 k ∧ (∃ cs : Array Value, wr.heap[w.heap.size]? = some (.cells cs 9) ∧ cs.toList = midTxt l k) ∧ Below w.heap.size w wr) (fun i _ => l.length - (intOf i).toNat)
 case atStart =>
  refine ⟨0, Nat.zero_le _, rfl, ⟨_, heap_new _ _, ?_⟩, (Below.refl _ w).alloc (Nat.le_refl _) _⟩
  apply List.ext_getElem?
  intro i
  unfold midTxt madeCells
  simp only [Array.toList_map, Array.toList_range, List.getElem?_map, bagV, List.take_zero, List.map_nil, List.nil_append, Nat.sub_zero, List.getElem?_replicate]
  by_cases hi : i < l.length
  ·rw [List.getElem?_range hi, if_pos hi]
   simp [Nat.mod_one]
  ·rw [List.getElem?_eq_none (by simpa using hi), if_neg hi]
   rfl
 case round =>
  obtain ⟨k, hk, rfl, ⟨cs, hcs, hcl⟩, hb⟩ := hrel
  by_cases hlt : k < l.length
  ·have hk1 : (k : Int) < (l.length : Int) := by omega
   have hk0 : (0 : Int) ≤ (k : Int) := by omega
   obtain ⟨g, cap, hv, -, -⟩ := HB.out.row.form (by omega)
   cases hv
   have hf : l[k]? = some l[k] := List.getElem?_eq_getElem hlt
   have f0 := World.ownsRow.cellAt HB.out.row (k * 2) (by omega)
   have f1 := World.ownsRow.cellAt HB.out.row (k * 2 + 1) (by omega)
   rw [(bagF_at l k _ hf).1] at f0
   rw [(bagF_at l k _ hf).2] at f1
   have g0 := cell_later hb f0
   have g1 := cell_later hb f1
   have hset := midTxt_set l k hlt
   generalize l[k] = f at *
   have hwl : w.heap.size < wr.heap.size := (Array.getElem?_eq_some_iff.1 hcs).1
   have hn1 : ¬ w.heap.size = wr.heap.size := by omega
   have hn2 : ¬ wr.heap.size = w.heap.size := by omega
   obtain ⟨X, hX, hbX, hM⟩ := box_more1 wr #[.string (bs f.1), .bool f.2] 188
   have hcsX := (hbX.block _ hwl).trans hcs
   have ck : X.cell? ⟨w.heap.size, k, none⟩ = some (.string ⟨#[]⟩) := (cell_of_heap hcsX k).trans (by rw [← Array.getElem?_toList, hcl, midTxt_at l k hlt])
   have fk := frozen_of_heap hcsX k
   have x0 : X.cell? ⟨wr.heap.size, 0, none⟩ = some (.string (bs f.1)) := cell_of_heap hM 0
   have hbX2 := hb.trans (hbX.mono hb.size)
   have HC := hideA (And.intro hcsX (And.intro hcl hset))
   clear hcs hcsX hcl f0 f1 hset hM
   go_wp2_with fail
   go_roundw
   case rel => exact ⟨k + 1, by omega, by go_num, ⟨_, heap_setCell_same _ _ _ _ _ _ HC.out.1, by rw [Array.toList_setIfInBounds, HC.out.2.1, HC.out.2.2]⟩, hbX2.setCell (by exact Nat.le_refl _) _⟩
   case measure => simp [intOf]; omega
  ·obtain rfl : k = l.length := by omega
   have HC := hideA (And.intro hcs hcl)
   clear hcs hcl
   go_wp2_with fail
   go_ret
   have hcl : cs.toList = bagV l := by rw [HC.out.2]; unfold midTxt; simp
   have hsz : cs.size = l.length := by rw [← Array.length_toList, hcl, bagV_length]
   refine ⟨_, rfl, ⟨by rw [bagV_length, Nat.mul_one], .inr ⟨w.heap.size, l.length, cs, rfl, Nat.le_refl _, HC.out.1, Nat.le_refl _, by unfold maxLen; omega, by omega, ?_⟩⟩, hb⟩
   rw [hcl]
   exact List.take_of_length_le (by rw [bagV_length]; omega)
end Go.Proofs.Ytgieeeeeiggoeaa
