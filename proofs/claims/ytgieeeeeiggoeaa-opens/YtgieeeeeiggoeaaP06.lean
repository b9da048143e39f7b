import Derived.Test.YtgieeeeeiggoeaaP05
import Derived.Deep.Upon
import Derived.Test.YtgieeeeeiggoeaaP01
import Derived.Test.YtgieeeeeiggoeaaP04
import Derived.RangeFuncNested
import Derived.RangeFuncBound
import Derived.RangeFuncCalls
import Derived.RangeFuncLeaves
import Derived.Shelf.Abstract
import Derived.Shelf.RegionOpen
import Derived.OwnWalkIn
import Derived.TacticsInMore
import Derived.LoopNIn
import Derived.LoopIn
import Derived.Maps.Own
import Derived.Test.YtgieeeeeiggoeaaP02
namespace Go.Proofs.Ytgieeeeeiggoeaa
open Go.RowKit Go.Shelf
theorem op_append {ops : Array Oper} {o : Oper} {a : Act} {W : World} {K : Act → World → Prop} {Q : Exit → Act → World → Prop} {E : Prop} (hg : o.guard = none) (s x : Operand) (t : TypeId)
  (hop : o.op = Op.call { callee := Callee.builtin Builtin.append, args := #[s, x], argTypes := #[t, t] }) (v u v' : Value) (W' : World) (hs : a.eval s = v) (hx : a.eval x = u)
  (hrun : ∀ ty, (Builtin.append_ #[t, t] ty #[v, u]).run Try.prog W = .ok v' W') (h : K (a.put o.dst v') W') :
  if Region.wanted o (yielded ops a.tmps) = true then Oper.wp Try.prog o a W K Q else E := by
 have hw : Region.wanted o (yielded ops a.tmps) = true := by simp [Region.wanted, hg]
 rw [if_pos hw]
 unfold Oper.wp execOp
 simp only [hop, resolve, invoke, builtin, Sem.run_bind, Sem.run_pure, Result.andThen_ok, List.map_toArray, List.map_cons, List.map_nil, hs, hx, hrun]
 exact h
theorem ownBlock_cells {w : World} {base size n : Nat} {e : TypeId} {v : Value} {xs : List Value} (h : w.ownsRow base e size v n xs) {k : Nat} (hk : v.ownBlock = some k) : ∃ cs, w.heap[k]? = some (.cells cs e) ∧ base ≤ k := by
 rcases h.2 with ⟨rfl, _⟩ | ⟨g, _, cur, rfl, hb, hg, _⟩
 ·cases hk
 ·have : g = k := by simpa [Value.ownBlock] using hk
  subst this
  exact ⟨cur, hg, hb⟩
def RepS (b : Nat) (vm vl : Value) (k : Nat) : Prop := k = b ∨ vm.ownBlock = some k ∨ vl.ownBlock = some k
def Grows (w : World) (v v' : Value) : Prop := ∀ k, v'.ownBlock = some k → v.ownBlock = some k ∨ w.heap.size ≤ k
theorem blk_type {w : World} {b : Nat} {cs : Array Value} {T : TypeId} {base size n : Nat} {e : TypeId} {v : Value} {xs : List Value} (hb : w.heap[b]? = some (.cells cs T)) (hv : w.ownsRow base e size v n xs) (he : e ≠ T) : v.ownBlock ≠ some b := by
 intro e1
 obtain ⟨cs', h', _⟩ := ownBlock_cells hv e1
 rw [hb] at h'
 injection h' with h'
 injection h' with _ h'
 exact he h'.symm
theorem cloneLog_any (v : Value) (es : List Ent) (w : World) (hv : LogOwn w v es) (hl : es.length ≤ 1000) :
  Calls Try.prog 92 #[v] w fun e w' => ∃ a c, e = .returned (.slice a es.length c) ∧ w'.ownsRow w.heap.size 59 5 (.slice a es.length c) es.length (ints (entsNums es)) ∧ Below w.heap.size w w' := by
 refine (clone_ents v es.length (ints (entsNums es)) w (CellsAt.of_owns hv) hv.1 (ints_one _) (by omega)).mono ?_
 rintro e w' ⟨v', rfl, h1, h2⟩
 obtain ⟨a, c, rfl⟩ := owns_shape h1
 exact ⟨a, c, rfl, h1, h2⟩
theorem cloneMems_any (v : Value) (l : List Int) (w : World) (hv : IntOwn w v l) (hl : l.length ≤ 1000) :
  Calls Try.prog 91 #[v] w fun e w' => ∃ a c, e = .returned (.slice a l.length c) ∧ w'.ownsRow w.heap.size 3 1 (.slice a l.length c) l.length (ints l) ∧ Below w.heap.size w w' := by
 refine (clone_ints v l.length (ints l) w (CellsAt.of_owns hv) (by rw [ints_length, Nat.mul_one]) (ints_one _) (by omega)).mono ?_
 rintro e w' ⟨v', rfl, h1, h2⟩
 obtain ⟨a, c, rfl⟩ := owns_shape h1
 exact ⟨a, c, rfl, h1, h2⟩
end Go.Proofs.Ytgieeeeeiggoeaa
namespace Go.Proofs.Ytgieeeeeiggoeaa
open Go.RowKit
def seek (k : Int) : List (Int × Value) → Nat → Option (Nat × Value)
 | [], _ => none
 | p :: l, i => if k = p.1 then some (i, p.2) else seek k l (i + 1)
def lookK (l : List (Int × Value)) (k : Int) : Option Value := (seek k l 0).map Prod.snd
def MapAt (w : World) (b : Nat) (l : List (Int × Value)) : Prop :=
 ∃ es clock, w.heap[b]? = some (.map es clock) ∧ es.toList.map (fun e => (e.key, e.val)) = l.map (fun p => (Value.int .i64 p.1, p.2))
theorem MapAt.keep {w w' : World} {b : Nat} {l : List (Int × Value)} (h : MapAt w b l) (hk : w'.heap[b]? = w.heap[b]?) : MapAt w' b l := by
 obtain ⟨es, c, h1, h2⟩ := h
 exact ⟨es, c, hk.trans h1, h2⟩
end Go.Proofs.Ytgieeeeeiggoeaa
namespace Go.Proofs.Ytgieeeeeiggoeaa
open Go.RowKit Go.Shelf
theorem owns_only {w w' : World} {base size n : Nat} {e : TypeId} {v : Value} {xs : List Value} (ho : w.ownsRow base e size v n xs) (hv : ∀ k, v.ownBlock = some k → w'.heap[k]? = w.heap[k]?) : w'.ownsRow base e size v n xs := by
 refine ⟨ho.1, ?_⟩
 rcases ho.2 with h0 | ⟨g, cap, cur, rfl, hb, hg, rest⟩
 ·exact .inl h0
 ·exact .inr ⟨g, cap, cur, rfl, hb, (hv g rfl).trans hg, rest⟩
def VoteAt (w : World) (F : Nat → Prop) (o : Option Value) (a : AVote) : Prop :=
 match o with
 | none => a = AVote.none
 | some v => ∃ vm vl, v = .agg #[.int .i64 a.promise, .int .i64 a.ballot, vm, vl] ∧ IntOwn w vm a.mems ∧ LogOwn w vl a.log ∧ (∀ k, vm.ownBlock = some k → F k) ∧ (∀ k, vl.ownBlock = some k → F k)
structure AccIn (w : World) (F : Nat → Prop) (b : Nat) (own : Int) (a : Acc) (vm : Value) (g : Nat) (l : List (Int × Value)) : Prop where
 blk : w.heap[b]? = some (.cells #[.int .i64 own, .int .i64 a.epoch, vm, .map (some g)] 181)
 hm : IntOwn w vm a.mems
 map : MapAt w g l
 votes : ∀ e, VoteAt w F (lookK l e) (a.votes e)
 fb : F b
 fg : F g
 fm : ∀ k, vm.ownBlock = some k → F k
 lt : ∀ k, F k → k < w.heap.size
def AccAt (w : World) (F : Nat → Prop) (b : Nat) (own : Int) (a : Acc) : Prop := ∃ vm g l, AccIn w F b own a vm g l
structure AccOK (a : Acc) : Prop where
 m : a.mems.length ≤ 5
 v : ∀ e, (a.votes e).mems.length ≤ 5 ∧ (a.votes e).log.length ≤ 24
theorem VoteAt.keep {w w' : World} {F F' : Nat → Prop} {o : Option Value} {a : AVote} (h : VoteAt w F o a) (hk : ∀ k, F k → w'.heap[k]? = w.heap[k]?) (hF : ∀ k, F k → F' k) : VoteAt w' F' o a := by
 cases o with
 | none => exact h
 | some v =>
  obtain ⟨vm, vl, rfl, h1, h2, h3, h4⟩ := h
  exact ⟨vm, vl, rfl, owns_only h1 fun k e => hk k (h3 k e), owns_only h2 fun k e => hk k (h4 k e), fun k e => hF k (h3 k e), fun k e => hF k (h4 k e)⟩
theorem AccIn.keep {w w' : World} {F : Nat → Prop} {b : Nat} {own : Int} {a : Acc} {vm : Value} {g : Nat} {l : List (Int × Value)} (h : AccIn w F b own a vm g l) (hk : ∀ k, F k → w'.heap[k]? = w.heap[k]?) : AccIn w' F b own a vm g l where
 blk := (hk b h.fb).trans h.blk
 hm := owns_only h.hm fun k e => hk k (h.fm k e)
 map := h.map.keep (hk g h.fg)
 votes := fun e => (h.votes e).keep hk fun _ h => h
 fb := h.fb
 fg := h.fg
 fm := h.fm
 lt := fun k hF => by
  have h1 := h.lt k hF
  have h2 := hk k hF
  rw [Array.getElem?_eq_getElem h1] at h2
  exact (Array.getElem?_eq_some_iff.1 h2).1
theorem AccIn.below {w w' : World} {F : Nat → Prop} {b : Nat} {own : Int} {a : Acc} {vm : Value} {g : Nat} {l : List (Int × Value)} (h : AccIn w F b own a vm g l) (hb : Below w.heap.size w w') : AccIn w' F b own a vm g l :=
 h.keep fun k hF => hb.block k (h.lt k hF)
theorem box_more1 (w : World) (a : Array Value) (T : TypeId) : ∃ X, w.alloc (.cells a T) = X ∧ Below w.heap.size w X ∧ X.heap[w.heap.size]? = some (.cells a T) :=
 ⟨_, rfl, (Below.refl _ w).alloc (Nat.le_refl _) _, heap_new _ _⟩
set_option maxRecDepth 100000 in
set_option maxHeartbeats 1000000 in
theorem accNew_any (own : Int) (l : List Int) (v : Value) (w : World) (hv : IntOwn w v l) (hl : l.length ≤ 5) :
  Calls Try.prog 81 #[.int .i64 own, v] w fun e w' => ∃ b F, e = .returned (.pointer (some ⟨b, 0, none⟩)) ∧ AccAt w' F b own { up := true, epoch := 0, mems := l, votes := fun _ => AVote.none } ∧ (∀ k, F k → w.heap.size ≤ k) ∧ Below w.heap.size w w' := by
 have hc := cloneMems_any v l w hv (by omega)
 obtain ⟨a0, c0, rfl⟩ := owns_shape hv
 clear hv
 have hmm := @run_makeMap Try.prog
 go_enter Try.func81, Try.ntmps81
 go_wp2_with fail
 refine hc.mono ?_
 rintro e W ⟨x, c, rfl, ho, hb⟩
 clear hc
 have HO := hideA ho
 go_wp2_with fail
 go_ret
 have hs := hb.size
 refine ⟨_, fun k => w.heap.size ≤ k ∧ k < W.heap.size + 1 + 1, rfl, ⟨.slice x l.length c, W.heap.size, [], heap_new2 _ _ _, ((owns_base HO.out (Nat.zero_le _)).alloc _).alloc _, ⟨#[], 0, (Below.heap_alloc _ _ _ (by simp)).trans (heap_new _ _), rfl⟩, fun _ => rfl, ⟨by omega, by omega⟩, ⟨by omega, by omega⟩, fun k e => ?_, fun k h => ?_⟩, fun k h => h.1, (hb.alloc hb.size _).alloc (by simp; omega) _⟩
 ·obtain ⟨_, h2, h3⟩ := ownBlock_cells HO.out e
  have := (Array.getElem?_eq_some_iff.1 h2).1
  exact ⟨h3, by omega⟩
 ·simpa using h.2
set_option maxRecDepth 100000 in
set_option maxHeartbeats 1000000 in
theorem accBallots_any (F : Nat → Prop) (b : Nat) (own : Int) (a : Acc) (w : World) (h : AccAt w F b own a) (ok : AccOK a) :
  Calls Try.prog 90 #[.pointer (some ⟨b, 0, none⟩)] w fun e w' => ∃ x c, e = .returned (.agg #[.bool false, .int .i64 a.epoch, .slice x a.mems.length c]) ∧ w'.ownsRow w.heap.size 3 1 (.slice x a.mems.length c) a.mems.length (ints a.mems) ∧ Below w.heap.size w w' := by
 obtain ⟨vm, g, l, h⟩ := h
 have hbl : b < w.heap.size := h.lt b h.fb
 have hne1 : ¬ b = w.heap.size := by omega
 have hne2 : ¬ w.heap.size = b := by omega
 obtain ⟨am, cm, rfl⟩ := owns_shape h.hm
 have HI := hideA h
 have hm5 := ok.m
 have HS : Hid (∀ W, Below w.heap.size w W → W.cell? ⟨b, 1, none⟩ = some (.int .i64 a.epoch) ∧ W.cell? ⟨b, 2, none⟩ = some (.slice am a.mems.length cm)) := hideA fun W hb => ⟨cell_of_heap (HI.out.below hb).blk 1, cell_of_heap (HI.out.below hb).blk 2⟩
 have HC : Hid (∀ W, Below w.heap.size w W → W.heap[w.heap.size]? = some (.cells #[.bool false, .int .i64 0, .slice none 0 0] 140) → Calls Try.prog 91 #[.slice am a.mems.length cm] W fun e w' => ∃ x c, e = .returned (.slice x a.mems.length c) ∧ w'.ownsRow (w.heap.size + 1) 3 1 (.slice x a.mems.length c) a.mems.length (ints a.mems) ∧ Below w.heap.size w w' ∧ w'.heap[w.heap.size]? = some (.cells #[.bool false, .int .i64 0, .slice none 0 0] 140)) := hideA fun W hb hB => (cloneMems_any _ a.mems W (HI.out.below hb).hm (by omega)).mono (by
  rintro e w' ⟨x, c, rfl, h1, h2⟩
  exact ⟨x, c, rfl, owns_base h1 (by have := (Array.getElem?_eq_some_iff.1 hB).1; omega), hb.trans (h2.mono hb.size), (h2.block _ (Array.getElem?_eq_some_iff.1 hB).1).trans hB⟩)
 clear h ok
 go_enter Try.func90, Try.ntmps90
 go_wp2_with fail
 obtain ⟨X, hX, hb0, hB0⟩ := box_more1 w #[.bool false, .int .i64 0, .slice none 0 0] 140
 rw [hX]
 clear hX
 obtain ⟨s1, s2⟩ := HS.out X hb0
 have HB0 := hideA hB0
 clear hB0
 go_region_held3 (fun w' => w'.cell? ⟨b, 1, none⟩ = some (.int .i64 a.epoch) ∧ w'.cell? ⟨b, 2, none⟩ = some (.slice am a.mems.length cm)) (first | (simp [go_sem]; done) | (simp [go_sem, *]; done) | go_keep)
  (first
   | (go_at_call 91; refine (HC.out _ hb0.drew HB0.out).mono ?_; rintro e Y1 ⟨a1, c1, rfl, o1, hb1, B1⟩; obtain ⟨u1, u2⟩ := HS.out Y1 hb1; have HB1 := hideA B1; have O1 := hideA o1; have gM := fun j => cell_of_heap B1 j; have gF := fun j => frozen_of_heap B1 j; clear B1 o1))
 all_goals (
  go_wp2_with fail
  refine bodyPost_ret (v := .agg #[.bool false, .int .i64 a.epoch, .slice a1 a.mems.length c1]) (by simp [results, Try.results90, go_sem, gM]) rfl ?_
  have hz : w.heap.size < w.heap.size + 1 := Nat.lt_succ_self _
  refine ⟨a1, c1, rfl, owns_base (ownsRow_setCell_below (ownsRow_setCell_below (ownsRow_setCell_below O1.out hz _) hz _) hz _) (Nat.le_succ _), ?_⟩
  iterate 3 refine Below.setCell ?_ (by exact Nat.le_refl _) _
  exact hb1)
structure MasIn (w : World) (F : Nat → Prop) (b : Nat) (own : Int) (p : PMas) (vw vo vm vl : Value) : Prop where
 blk : w.heap[b]? = some (.cells #[.int .i64 own, .int .i64 (p.begun : Int), .int .i64 p.doing, vw, .int .i64 p.epoch, vo, .int .i64 p.vote, vm, vl] 185)
 hw : IntOwn w vw p.waits
 ho : IntOwn w vo p.old
 hm : IntOwn w vm p.mems
 hl : LogOwn w vl p.log
 fb : F b
 fw : ∀ k, vw.ownBlock = some k → F k
 fo : ∀ k, vo.ownBlock = some k → F k
 fm : ∀ k, vm.ownBlock = some k → F k
 fl : ∀ k, vl.ownBlock = some k → F k
 ap : ∀ k, vw.ownBlock = some k → vo.ownBlock ≠ some k ∧ vm.ownBlock ≠ some k
 lt : ∀ k, F k → k < w.heap.size
def MasAt (w : World) (F : Nat → Prop) (b : Nat) (own : Int) (p : PMas) : Prop := ∃ vw vo vm vl, MasIn w F b own p vw vo vm vl
theorem MasIn.keep {w w' : World} {F : Nat → Prop} {b : Nat} {own : Int} {p : PMas} {vw vo vm vl : Value} (h : MasIn w F b own p vw vo vm vl) (hk : ∀ k, F k → w'.heap[k]? = w.heap[k]?) : MasIn w' F b own p vw vo vm vl where
 blk := (hk b h.fb).trans h.blk
 hw := owns_only h.hw fun k e => hk k (h.fw k e)
 ho := owns_only h.ho fun k e => hk k (h.fo k e)
 hm := owns_only h.hm fun k e => hk k (h.fm k e)
 hl := owns_only h.hl fun k e => hk k (h.fl k e)
 fb := h.fb
 fw := h.fw
 fo := h.fo
 fm := h.fm
 fl := h.fl
 ap := h.ap
 lt := fun k hF => by
  have h1 := h.lt k hF
  have h2 := hk k hF
  rw [Array.getElem?_eq_getElem h1] at h2
  exact (Array.getElem?_eq_some_iff.1 h2).1
end Go.Proofs.Ytgieeeeeiggoeaa
