import Derived.Test.YtgieeeeeiggoeaaGreatQ23
import Derived.Deep.OwnRows
import Derived.Test.YtgieeeeeiggoeaaGreatQ30
namespace Go.Proofs.YtgieeeeeiggoeaaGreat
open Go.RowKit
def runOf (a : Int) (n : Nat) : List Int := (List.range n).map (fun (i : Nat) => a + (i : Int))
theorem runOf_succ (a : Int) (k : Nat) : runOf a (k + 1) = runOf a k ++ [a + (k : Int)] := by
 unfold runOf
 rw [List.range_succ,List.map_append]
 rfl
theorem runOf_length (a : Int) (n : Nat) : (runOf a n).length = n := by simp [runOf]
def midRow (a : Int) (n k : Nat) : List Value := ints (runOf a k) ++ List.replicate (n - k) (.int .i64 0)
theorem midRow_at (a : Int) (n k : Nat) (hk : k < n) : (midRow a n k)[k]? = some (.int .i64 0) := by
 unfold midRow
 rw [List.getElem?_append_right (by rw [ints_length,runOf_length]; omega),ints_length,runOf_length,Nat.sub_self,List.getElem?_replicate,if_pos (by omega)]
theorem midRow_set (a : Int) (n k : Nat) (hk : k < n) : (midRow a n k).set k (.int .i64 (a + (k : Int))) = midRow a n (k + 1) := by
 unfold midRow
 rw [runOf_succ,List.set_append_right _ _ (by rw [ints_length,runOf_length]; omega),ints_length,runOf_length,Nat.sub_self]
 obtain ⟨d,hd⟩ : ∃ d,n - k = d + 1 := ⟨n - k - 1,by omega⟩
 rw [hd,List.replicate_succ,List.set_cons_zero,show n - (k + 1) = d by omega,ints_append]
 simp [ints]
set_option maxRecDepth 100000 in
set_option maxHeartbeats 1000000 in
theorem memNumbers_any (a : Int) (n : Nat) (w : World) (hn : n ≤ 5) (ha : 0 ≤ a ∧ a ≤ 1000) :
  Calls Tryz.prog 106 #[.int .i64 a, .int .i64 (n : Int)] w fun e w' => ∃ c,e = .returned (.slice (some ⟨w.heap.size,0,none⟩) n c) ∧ w'.ownsRow w.heap.size 3 1 (.slice (some ⟨w.heap.size,0,none⟩) n c) n (ints (runOf a n)) ∧ Below w.heap.size w w' := by
 have hmk := run_make_row' (P := Tryz.prog) 29 3 (.int .i64 0) 8 Tryz.underlying29 infoInt rfl .i64 .i64 n (by omega) (by omega)
 go_enter Tryz.func106,Tryz.ntmps106
 go_wp2_with fail
 go_loopw [11] (fun i wr => ∃ k : Nat,k ≤ n ∧ i = .int .i64 k ∧ (∃ cs : Array Value,wr.heap[w.heap.size]? = some (.cells cs 3) ∧ cs.toList = midRow a n k) ∧ Below w.heap.size w wr) (fun i _ => n - (intOf i).toNat)
 case atStart =>
  refine ⟨0,Nat.zero_le _,rfl,⟨_,heap_new _ _, ?_⟩,(Below.refl _ w).alloc (Nat.le_refl _) _⟩
  apply List.ext_getElem?
  intro i
  unfold midRow madeCells
  simp only [Array.toList_map,Array.toList_range,List.getElem?_map,runOf,ints,List.range_zero,List.map_nil,List.nil_append,Nat.sub_zero,List.getElem?_replicate]
  by_cases hi : i < n
  ·rw [List.getElem?_range hi,if_pos hi]
   simp [Nat.mod_one]
  ·rw [List.getElem?_eq_none (by simpa using hi),if_neg hi]
   rfl
 case round =>
  obtain ⟨k,hk,rfl,⟨cs,hcs,hl⟩,hb⟩ := hrel
  by_cases hlt : k < n
  ·have hk1 : (k : Int) < (n : Int) := by omega
   have ck : wr.cell? ⟨w.heap.size,k,none⟩ = some (.int .i64 0) := (cell_of_heap hcs k).trans (by rw [← Array.getElem?_toList,hl,midRow_at a n k hlt])
   have fk := frozen_of_heap hcs k
   have hw : IntKind.i64.wrap (a + (k : Int)) = a + (k : Int) := by rw [IntKind.wrap_i64]; omega
   have HC := hideA (And.intro hcs hl)
   clear hcs hl
   go_wp2_with fail
   go_roundw
   case rel => exact ⟨k + 1,by omega,by go_num,⟨_,heap_setCell_same _ _ _ _ _ _ HC.out.1,by rw [Array.toList_setIfInBounds,HC.out.2,midRow_set a n k hlt]⟩,hb.setCell (by exact Nat.le_refl _) _⟩
   case measure => simp [intOf]; omega
  ·obtain rfl : k = n := by omega
   have HC := hideA (And.intro hcs hl)
   clear hcs hl
   go_wp2_with fail
   go_ret
   have hcl : cs.toList = ints (runOf a k) := by rw [HC.out.2]; unfold midRow; simp
   have hsz : cs.size = k := by rw [← Array.length_toList,hcl,ints_length,runOf_length]
   refine ⟨k,rfl,⟨by rw [ints_length,runOf_length,Nat.mul_one], .inr ⟨w.heap.size,k,cs,rfl,Nat.le_refl _,HC.out.1,Nat.le_refl _,by unfold maxLen; omega,by omega, ?_⟩⟩,hb⟩
   rw [hcl]
   exact List.take_of_length_le (by rw [ints_length,runOf_length]; omega)
end Go.Proofs.YtgieeeeeiggoeaaGreat
namespace Go.Proofs.YtgieeeeeiggoeaaGreat
open Go.RowKit Go.Shelf
theorem wpList_append_run {ops : Array Oper} {rest : List Oper} {o : Oper} {a : Act} {W : World} {Q : Exit → Act → World → Prop} (hgd : o.guard = none) (s x : Operand) (t : TypeId)
  (hop : o.op = Op.call { callee := Callee.builtin Builtin.append,args := #[s,x],argTypes := #[t,t] }) (v u v' : Value) (W' : World) (hs : a.eval s = v) (hx : a.eval x = u)
  (hrun : ∀ ty,(Builtin.append_ #[t,t] ty #[v,u]).run Tryz.prog W = .ok v' W') (h : wpList Tryz.prog ops Q rest (a.put o.dst v') W') : wpList Tryz.prog ops Q (o :: rest) a W := by
 refine wpList_plain hgd fun K hK => ?_
 unfold Oper.wp execOp
 simp only [hop,resolve,invoke,builtin,Sem.run_bind,Sem.run_pure,Result.andThen_ok,List.map_toArray,List.map_cons,List.map_nil,hs,hx,hrun]
 exact hK _ _ h
theorem ListsOwn.snoc {wr Y W' : World} {base n : Nat} {v : Value} {ws : List MsgV} (t : MsgV) (o1 o2 : Obj) (hrow : wr.ownsRow base 134 10 v n (ws.flatMap mcells)) (hls : ListsOwn wr ws) (hb : Below wr.heap.size wr Y) (hI : IntOwn Y t.2.1 t.1.mems) (hL : LogOwn Y t.2.2 t.1.log) (hg : ((Y.alloc o1).alloc o2).grownBy W' v.ownBlock) : ListsOwn W' (ws ++ [t]) := by
 have hrY : Y.ownsRow base 134 10 v n (ws.flatMap mcells) := owns_kept hrow fun k _ hk => hb.block k hk
 have key : ∀ k,k < Y.heap.size → v.ownBlock ≠ some k → W'.heap[k]? = Y.heap[k]? := fun k hk hne => (hg.block k (by simp; omega) (fun e => hne e.symm)).trans (((Below.refl Y.heap.size Y).alloc (Nat.le_refl _) o1).alloc (by simp) o2 |>.block k hk)
 have hint : ∀ x l,IntOwn Y x l → IntOwn W' x l := fun x l h => owns_only h fun k e => key k (Array.getElem?_eq_some_iff.1 (ownBlock_cells h e).choose_spec.1).1 (fun e2 => owns_two hrY h (by decide) k e2 e)
 have hlog : ∀ x l,LogOwn Y x l → LogOwn W' x l := fun x l h => owns_only h fun k e => key k (Array.getElem?_eq_some_iff.1 (ownBlock_cells h e).choose_spec.1).1 (fun e2 => owns_two hrY h (by decide) k e2 e)
 intro u hu
 rcases List.mem_append.1 hu with hu | hu
 ·exact ⟨hint _ _ (owns_kept (hls u hu).1 fun k _ hk => hb.block k hk),hlog _ _ (owns_kept (hls u hu).2 fun k _ hk => hb.block k hk)⟩
 ·rw [List.mem_singleton] at hu
  subst hu
  exact ⟨hint _ _ hI,hlog _ _ hL⟩
set_option maxRecDepth 100000 in
set_option maxHeartbeats 1000000 in
theorem masTick_any (F : Nat → Prop) (b : Nat) (own : Int) (p : PMas) (vw vo vm vl : Value) (w : World) (h : MasIn w F b own p vw vo vm vl) (ok : MasOK p own) :
  Calls Tryz.prog 125 #[.pointer (some ⟨b,0,none⟩)] w fun e w' => ∃ v,e = .returned v ∧ MsgsOwn w' w.heap.size v (p.asks own) ∧ Below w.heap.size w w' := by
 have hbl : b < w.heap.size := h.lt b h.fb
 obtain ⟨aw,cw,rfl⟩ := owns_shape h.hw
 have c3 := cell_of_heap h.blk 3
 have HC0 : Hid (∀ W,Below w.heap.size w W → W.cell? ⟨b,0,none⟩ = some (.int .i64 own)) := hideA fun W hb => cell_of_heap (h.below hb).blk 0
 have HQ : Hid (∀ W,Below w.heap.size w W → Calls Tryz.prog 159 #[.pointer (some ⟨b,0,none⟩)] W fun e w' => ∃ xm xl,e = .returned (mval (p.question own) xm xl) ∧ IntOwn w' xm (p.question own).mems ∧ LogOwn w' xl (p.question own).log ∧ Below W.heap.size W w') := hideA fun W hb => question_any F b own p _ _ _ _ W (h.below hb) ok
 have hI := IntsAt.of_owns h.hw
 obtain ⟨a',c',hv,hc⟩ := hI
 cases hv
 have Hc := hideA hc
 have hw5 := ok.w
 have HA : Hid (∀ k,k < p.waits.length → (p.waits.take (k + 1)).map (p.askOf own) = (p.waits.take k).map (p.askOf own) ++ [{ p.question own with src := own,dst := p.waits.getD k 0 }]) := hideA fun k hk => by
  rw [take_snoc_ints p.waits k hk,List.map_append]
  rfl
 have HE : Hid (p.asks own = (p.waits.take p.waits.length).map (p.askOf own)) := hideA (by unfold PMas.asks; rw [List.take_length])
 clear h ok hc
 generalize p.asks own = asks at *
 generalize p.askOf own = askf at *
 generalize p.question own = q at *
 go_enter Tryz.func125,Tryz.ntmps125
 go_wp2_with fail
 go_loopw [3,13] (fun v i wr => ∃ k : Nat,k ≤ p.waits.length ∧ i = .int .i64 k ∧ MsgsOwn wr w.heap.size v ((p.waits.take k).map askf) ∧ Below w.heap.size w wr) (fun _ i _ => p.waits.length - (intOf i).toNat)
 case atStart => exact ⟨0,Nat.zero_le _,rfl,MsgsOwn.nil _ _,Below.refl _ _⟩
 case round =>
  obtain ⟨k,hk,rfl,hms,hbr⟩ := hrel
  obtain ⟨a9,c9,hsh⟩ := hms.shape
  have HM := hideA hms
  have hlen : ((p.waits.take k).map askf).length = k := by rw [List.length_map,List.length_take]; omega
  by_cases hlt : k < p.waits.length
  ·obtain ⟨gb,off,rfl,ck⟩ := Hc.out k hlt
   have hk1 : (k : Int) < (p.waits.length : Int) := by omega
   have ck' := cell_later hbr ck
   have ht := HA.out k hlt
   have HTk := hideA ht
   generalize p.waits.getD k 0 = dd at *
   clear ht hms
   rw [hlen] at hsh
   subst hsh
   go_wp2_with fail
   refine (HQ.out _ hbr).mono ?_
   rintro e Y ⟨xm,xl,rfl,h1,h2,hl⟩
   obtain ⟨a1,d1,rfl⟩ := owns_shape h1
   obtain ⟨a2,d2,rfl⟩ := owns_shape h2
   have hbY : Below w.heap.size w Y := hbr.trans (hl.mono hbr.size)
   have HO := hideA (And.intro h1 h2)
   have k0 := HC0.out _ (hbY.alloc hbY.size (.cells #[.int .i64 q.kind, .int .i64 q.src, .int .i64 q.dst, .int .i64 q.epoch, .int .i64 q.ballot, .int .i64 q.vote, .int .i64 q.pos, .int .i64 q.value, .slice a1 q.mems.length d1, .slice a2 q.log.length d2] 134))
   clear h1 h2 ck ck'
   obtain ⟨ws,e1,e2,e3⟩ := HM.out
   rw [hlen] at e2
   have e2Y : ((Y.alloc (.cells #[.int .i64 q.kind, .int .i64 own, .int .i64 dd, .int .i64 q.epoch, .int .i64 q.ballot, .int .i64 q.vote, .int .i64 q.pos, .int .i64 q.value, .slice a1 q.mems.length d1, .slice a2 q.log.length d2] 134)).alloc (.cells #[.int .i64 q.kind, .int .i64 own, .int .i64 dd, .int .i64 q.epoch, .int .i64 q.ballot, .int .i64 q.vote, .int .i64 q.pos, .int .i64 q.value, .slice a1 q.mems.length d1, .slice a2 q.log.length d2] 134)).ownsRow w.heap.size 134 10 (.slice a9 k c9) k (ws.flatMap mcells) := ((owns_kept e2 fun k _ hk => hl.block k hk).alloc _).alloc _
   obtain ⟨g',cap,W',hrun,hown',hgrow⟩ := append_msg ((Y.alloc (.cells #[.int .i64 q.kind, .int .i64 own, .int .i64 dd, .int .i64 q.epoch, .int .i64 q.ballot, .int .i64 q.vote, .int .i64 q.pos, .int .i64 q.value, .slice a1 q.mems.length d1, .slice a2 q.log.length d2] 134)).alloc (.cells #[.int .i64 q.kind, .int .i64 own, .int .i64 dd, .int .i64 q.epoch, .int .i64 q.ballot, .int .i64 q.vote, .int .i64 q.pos, .int .i64 q.value, .slice a1 q.mems.length d1, .slice a2 q.log.length d2] 134)) w.heap.size (.slice a9 k c9) k ws ({ q with src := own,dst := dd }, .slice a1 q.mems.length d1, .slice a2 q.log.length d2) (Y.heap.size + 1) e2Y (heap_new2 _ _ _) (by omega) (by have := hbY.size; simp; omega) ⟨_,_,_,rfl⟩ ⟨_,_,_,rfl⟩
   have HL' := hideA (ListsOwn.snoc ({ q with src := own,dst := dd }, .slice a1 q.mems.length d1, .slice a2 q.log.length d2) _ _ e2 e3 hl HO.out.1 HO.out.2 hgrow)
   have HW' := hideA (And.intro hown' e1)
   have hbW : Below w.heap.size w W' := ((hbY.alloc hbY.size _).alloc (by have := hbY.size; simp; omega) _).grown hgrow (by have := hbY.size; simp; omega) (fun k hk => by obtain ⟨_,_,h3⟩ := ownBlock_cells e2 hk; exact h3)
   clear e1 e2 e3 e2Y hown' hgrow
   have HR := hideA hrun
   clear hrun
   unfold mval
   go_wp2_with (at_builtin; refine wpList_append_run rfl (.tmp 26) (.tmp 28) 97 rfl _ _ _ _ (by simp [Act.eval]) (by simp [Act.eval]) HR.out ?_)
   go_wp2_with fail
   go_roundw
   case rel =>
    refine ⟨k + 1,by omega,by go_num, ?_,hbW⟩
    rw [HTk.out]
    refine ⟨ws ++ [({ q with src := own,dst := dd }, .slice a1 q.mems.length d1, .slice a2 q.log.length d2)],by rw [List.map_append,HW'.out.2]; rfl, ?_,HL'.out⟩
    rw [List.length_append,hlen]
    exact HW'.out.1
   case measure => simp [intOf]; omega
  ·obtain rfl : k = p.waits.length := by omega
   subst hsh
   generalize hpl : ((p.waits.take p.waits.length).map askf).length = pl at *
   go_wp2_with fail
   go_ret
   rw [HE.out]
   exact ⟨_,rfl,HM.out,hbr⟩
theorem MasIn.turn {w w' : World} {F : Nat → Prop} {b : Nat} {own : Int} {p : PMas} {vw vo vm vl : Value} (h : MasIn w F b own p vw vo vm vl) (p' : PMas) (vw' vo' vm' vl' : Value)
  (hb : w'.heap[b]? = some (.cells #[.int .i64 own, .int .i64 (p'.begun : Int), .int .i64 p'.doing,vw', .int .i64 p'.epoch,vo', .int .i64 p'.vote,vm',vl'] 146)) (hs : w.heap.size ≤ w'.heap.size)
  (h1 : IntOwn w' vw' p'.waits) (h2 : IntOwn w' vo' p'.old) (h3 : IntOwn w' vm' p'.mems) (h4 : LogOwn w' vl' p'.log) (f1 : ∀ k,vw'.ownBlock = some k → F k ∨ w.heap.size ≤ k) (f2 : ∀ k,vo'.ownBlock = some k → F k ∨ w.heap.size ≤ k)
  (f3 : ∀ k,vm'.ownBlock = some k → F k ∨ w.heap.size ≤ k) (f4 : ∀ k,vl'.ownBlock = some k → F k ∨ w.heap.size ≤ k) (ap : ∀ k,vw'.ownBlock = some k → vo'.ownBlock ≠ some k ∧ vm'.ownBlock ≠ some k) :
  MasIn w' (More F w w') b own p' vw' vo' vm' vl' := by
 have key : ∀ {base size n : Nat} {e : TypeId} {v : Value} {xs : List Value},w'.ownsRow base e size v n xs → (∀ k,v.ownBlock = some k → F k ∨ w.heap.size ≤ k) → ∀ k,v.ownBlock = some k → More F w w' k := by
  intro base size n e v xs hr hf k hk
  rcases hf k hk with h5 | h5
  ·exact .inl h5
  ·obtain ⟨_,h6,_⟩ := ownBlock_cells hr hk
   exact .inr ⟨h5,(Array.getElem?_eq_some_iff.1 h6).1⟩
 refine ⟨hb,h1,h2,h3,h4, .inl h.fb,key h1 f1,key h2 f2,key h3 f3,key h4 f4,ap,fun k hF => ?_⟩
 rcases hF with h5 | h5
 ·have := h.lt k h5
  omega
 ·exact h5.2
def MasOut (w w' : World) (F : Nat → Prop) (b : Nat) (own : Int) (e : Ending) (q : PMas × List Msg) : Prop :=
 ∃ v F',e = .returned v ∧ MasAt w' F' b own q.1 ∧ Moved w w' F ∧ (∀ k,F' k → F k ∨ w.heap.size ≤ k) ∧ MsgsOwn w' w.heap.size v q.2
theorem set9_2 {W : World} {g : Nat} {T : TypeId} {a0 a1 a2 a3 a4 a5 a6 a7 a8 : Value} (v : Value) (h : W.heap[g]? = some (.cells #[a0,a1,a2,a3,a4,a5,a6,a7,a8] T)) : (W.setCell ⟨g,2,none⟩ v).heap[g]? = some (.cells #[a0,a1,v,a3,a4,a5,a6,a7,a8] T) := heap_setCell_same _ _ _ _ _ _ h
theorem set9_3 {W : World} {g : Nat} {T : TypeId} {a0 a1 a2 a3 a4 a5 a6 a7 a8 : Value} (v : Value) (h : W.heap[g]? = some (.cells #[a0,a1,a2,a3,a4,a5,a6,a7,a8] T)) : (W.setCell ⟨g,3,none⟩ v).heap[g]? = some (.cells #[a0,a1,a2,v,a4,a5,a6,a7,a8] T) := heap_setCell_same _ _ _ _ _ _ h
theorem set9_1 {W : World} {g : Nat} {T : TypeId} {a0 a1 a2 a3 a4 a5 a6 a7 a8 : Value} (v : Value) (h : W.heap[g]? = some (.cells #[a0,a1,a2,a3,a4,a5,a6,a7,a8] T)) : (W.setCell ⟨g,1,none⟩ v).heap[g]? = some (.cells #[a0,v,a2,a3,a4,a5,a6,a7,a8] T) := heap_setCell_same _ _ _ _ _ _ h
theorem MasIn.beside {w w' : World} {F : Nat → Prop} {b : Nat} {own : Int} {p : PMas} {vw vo vm vl : Value} (h : MasIn w F b own p vw vo vm vl) (hm : Moved w w' (fun k => k = b)) {base size n : Nat} {e : TypeId} {v : Value} {xs : List Value} (hv : w.ownsRow base e size v n xs) (he : e ≠ 146) : w'.ownsRow base e size v n xs :=
 hm.owns hv fun _ hk e1 => blk_type h.blk hv he (e1 ▸ hk)
set_option maxRecDepth 100000 in
set_option maxHeartbeats 1000000 in
theorem turnTo_any (F : Nat → Prop) (b : Nat) (own : Int) (p : PMas) (d : Int) (va : Value) (l : List Int) (w : World) (h : MasAt w F b own p) (ok : MasOK p own) (ha : IntOwn w va l) (hl5 : l.length ≤ 5) (hd : 0 ≤ d ∧ d ≤ 6) :
  Calls Tryz.prog 70 #[.pointer (some ⟨b,0,none⟩), .int .i64 d,va] w fun e w' => MasOut w w' F b own e (p.turnTo own d l) := by
 obtain ⟨vw,vo,vm,vl,h⟩ := h
 have hbl : b < w.heap.size := h.lt b h.fb
 have HI := hideA h
 obtain ⟨aa,ca,rfl⟩ := owns_shape ha
 have HC : Hid (∀ W,Moved w W (fun k => k = b) → Calls Tryz.prog 69 #[.slice aa l.length ca] W fun e w' => ∃ x c,e = .returned (.slice x l.length c) ∧ w'.ownsRow W.heap.size 3 1 (.slice x l.length c) l.length (ints l) ∧ Below W.heap.size W w') := hideA fun W hM => cloneMems_any _ l W (h.beside hM ha (by decide)) (by omega)
 have ok' : MasOK { p with doing := d,waits := l } own := ⟨hl5,ok.o,ok.m,ok.l,ok.b,hd,ok.n⟩
 have HT : Hid (∀ W F' vw vo vm vl,MasIn W F' b own { p with doing := d,waits := l } vw vo vm vl → Calls Tryz.prog 125 #[.pointer (some ⟨b,0,none⟩)] W fun e w' => ∃ v,e = .returned v ∧ MsgsOwn w' W.heap.size v ({ p with doing := d,waits := l }.asks own) ∧ Below W.heap.size W w') := hideA fun W F' _ _ _ _ hi => masTick_any F' b own _ _ _ _ _ W hi ok'
 have c2 := cell_of_heap h.blk 2
 have f2 := frozen_of_heap h.blk 2
 clear h ok ok' ha
 go_enter Tryz.func70,Tryz.ntmps70
 go_wp2_with fail
 have M1 : Moved w (w.setCell ⟨b,2,none⟩ (.int .i64 d)) (fun k => k = b) := (Moved.refl w (fun k => k = b)).setCell ⟨b,2,none⟩ rfl _
 have B1 := set9_2 (.int .i64 d) HI.out.blk
 generalize w.setCell ⟨b,2,none⟩ (.int .i64 d) = W1 at *
 clear c2 f2
 refine (HC.out W1 M1).mono ?_
 rintro e Y ⟨x,c,rfl,o1,hl⟩
 have M2 := M1.below hl
 have B2 := (hl.block _ (Array.getElem?_eq_some_iff.1 B1).1).trans B1
 have O1 := hideA o1
 have c3 := cell_of_heap B2 3
 have f3 := frozen_of_heap B2 3
 have HB2 := hideA B2
 clear o1 B1 B2
 go_wp2_with fail
 have B3 := set9_3 (.slice x l.length c) HB2.out
 have M3 := M2.setCell ⟨b,3,none⟩ rfl (.slice x l.length c)
 have o3 : (Y.setCell ⟨b,3,none⟩ (.slice x l.length c)).ownsRow W1.heap.size 3 1 (.slice x l.length c) l.length (ints l) := ownsRow_setCell_other O1.out (blk_type HB2.out O1.out (by decide)) _
 generalize Y.setCell ⟨b,3,none⟩ (.slice x l.length c) = W3 at *
 have hs1 := M1.size
 have hnew : ∀ k,(Value.slice x l.length c).ownBlock = some k → w.heap.size ≤ k := fun k e => by obtain ⟨_,_,h3⟩ := ownBlock_cells o3 e; omega
 have I3 := hideA (HI.out.turn { p with doing := d,waits := l } _ _ _ _ B3 M3.size (owns_base o3 (Nat.zero_le _)) (HI.out.beside M3 HI.out.ho (by decide)) (HI.out.beside M3 HI.out.hm (by decide)) (HI.out.beside M3 HI.out.hl (by decide)) (fun k e => .inr (hnew k e)) (fun k e => .inl (HI.out.fo k e)) (fun k e => .inl (HI.out.fm k e)) (fun k e => .inl (HI.out.fl k e))
  (fun k e => ⟨fun e2 => by have := HI.out.lt k (HI.out.fo k e2); have := hnew k e; omega,fun e2 => by have := HI.out.lt k (HI.out.fm k e2); have := hnew k e; omega⟩))
 clear c3 f3
 refine (HT.out _ _ _ _ _ _ I3.out).mono ?_
 rintro e Z ⟨v,rfl,hv,hl2⟩
 have HV := hideA (hv.base M3.size)
 clear hv
 go_wp2_with fail
 go_ret
 refine ⟨v,_,rfl,⟨_,_,_,_,I3.out.below hl2⟩,(M3.below hl2).more HI.out.fb, ?_,HV.out⟩
 rintro k (h1 | h1)
 ·exact .inl h1
 ·exact .inr h1.1
set_option maxRecDepth 100000 in
theorem acceptors_any (w : World) : Calls Tryz.prog 71 #[] w fun e w' => ∃ x c,e = .returned (.slice x 3 c) ∧ w'.ownsRow w.heap.size 3 1 (.slice x 3 c) 3 (ints [100,101,102]) ∧ Below w.heap.size w w' := by
 have hc := memNumbers_any 100 3 w (by omega) (by omega)
 go_enter Tryz.func71,Tryz.ntmps71
 go_wp2_with fail
 refine hc.mono ?_
 rintro e W ⟨c,rfl,ho,hb⟩
 have HO := hideA ho
 clear ho hc
 go_wp2_with fail
 go_ret
 exact ⟨_,c,rfl,HO.out,hb⟩
set_option maxRecDepth 100000 in
theorem mayBegin_any (F : Nat → Prop) (b : Nat) (own : Int) (p : PMas) (w : World) (h : MasAt w F b own p) :
  Calls Tryz.prog 34 #[.pointer (some ⟨b,0,none⟩)] w fun e w' => e = .returned (.bool (decide (p.begun < 1000))) ∧ w' = w := by
 obtain ⟨vw,vo,vm,vl,h⟩ := h
 have c1 := cell_of_heap h.blk 1
 have H : Hid (decide (p.begun < 1000) = decide ((p.begun : Int) < 1000)) := hideA (by congr 1; simp; omega)
 clear h
 rw [H.out]
 generalize (p.begun : Int) = B at *
 go_enter Tryz.func34,Tryz.ntmps34
 go_wp2_with fail
 go_ret
 exact ⟨rfl,rfl⟩
theorem set9_4 {W : World} {g : Nat} {T : TypeId} {a0 a1 a2 a3 a4 a5 a6 a7 a8 : Value} (v : Value) (h : W.heap[g]? = some (.cells #[a0,a1,a2,a3,a4,a5,a6,a7,a8] T)) : (W.setCell ⟨g,4,none⟩ v).heap[g]? = some (.cells #[a0,a1,a2,a3,v,a5,a6,a7,a8] T) := heap_setCell_same _ _ _ _ _ _ h
theorem set9_5 {W : World} {g : Nat} {T : TypeId} {a0 a1 a2 a3 a4 a5 a6 a7 a8 : Value} (v : Value) (h : W.heap[g]? = some (.cells #[a0,a1,a2,a3,a4,a5,a6,a7,a8] T)) : (W.setCell ⟨g,5,none⟩ v).heap[g]? = some (.cells #[a0,a1,a2,a3,a4,v,a6,a7,a8] T) := heap_setCell_same _ _ _ _ _ _ h
theorem set9_6 {W : World} {g : Nat} {T : TypeId} {a0 a1 a2 a3 a4 a5 a6 a7 a8 : Value} (v : Value) (h : W.heap[g]? = some (.cells #[a0,a1,a2,a3,a4,a5,a6,a7,a8] T)) : (W.setCell ⟨g,6,none⟩ v).heap[g]? = some (.cells #[a0,a1,a2,a3,a4,a5,v,a7,a8] T) := heap_setCell_same _ _ _ _ _ _ h
theorem set9_7 {W : World} {g : Nat} {T : TypeId} {a0 a1 a2 a3 a4 a5 a6 a7 a8 : Value} (v : Value) (h : W.heap[g]? = some (.cells #[a0,a1,a2,a3,a4,a5,a6,a7,a8] T)) : (W.setCell ⟨g,7,none⟩ v).heap[g]? = some (.cells #[a0,a1,a2,a3,a4,a5,a6,v,a8] T) := heap_setCell_same _ _ _ _ _ _ h
theorem set9_8 {W : World} {g : Nat} {T : TypeId} {a0 a1 a2 a3 a4 a5 a6 a7 a8 : Value} (v : Value) (h : W.heap[g]? = some (.cells #[a0,a1,a2,a3,a4,a5,a6,a7,a8] T)) : (W.setCell ⟨g,8,none⟩ v).heap[g]? = some (.cells #[a0,a1,a2,a3,a4,a5,a6,a7,v] T) := heap_setCell_same _ _ _ _ _ _ h
theorem set9_all {W : World} {g : Nat} {T : TypeId} {a0 a1 a2 a3 a4 a5 a6 a7 a8 : Value} (v2 v3 v4 v5 v6 v7 v8 : Value) (h : W.heap[g]? = some (.cells #[a0,a1,a2,a3,a4,a5,a6,a7,a8] T)) :
  (((((((W.setCell ⟨g,2,none⟩ v2).setCell ⟨g,3,none⟩ v3).setCell ⟨g,4,none⟩ v4).setCell ⟨g,5,none⟩ v5).setCell ⟨g,6,none⟩ v6).setCell ⟨g,7,none⟩ v7).setCell ⟨g,8,none⟩ v8).heap[g]? = some (.cells #[a0,a1,v2,v3,v4,v5,v6,v7,v8] T) :=
 set9_8 _ (set9_7 _ (set9_6 _ (set9_5 _ (set9_4 _ (set9_3 _ (set9_2 _ h))))))
theorem moved9 {w W : World} {g : Nat} (v2 v3 v4 v5 v6 v7 v8 : Value) (h : Moved w W (fun k => k = g)) :
  Moved w (((((((W.setCell ⟨g,2,none⟩ v2).setCell ⟨g,3,none⟩ v3).setCell ⟨g,4,none⟩ v4).setCell ⟨g,5,none⟩ v5).setCell ⟨g,6,none⟩ v6).setCell ⟨g,7,none⟩ v7).setCell ⟨g,8,none⟩ v8) (fun k => k = g) :=
 ((((((h.setCell ⟨g,2,none⟩ rfl v2).setCell ⟨g,3,none⟩ rfl v3).setCell ⟨g,4,none⟩ rfl v4).setCell ⟨g,5,none⟩ rfl v5).setCell ⟨g,6,none⟩ rfl v6).setCell ⟨g,7,none⟩ rfl v7).setCell ⟨g,8,none⟩ rfl v8
theorem owns9 {W : World} {g : Nat} {base size n : Nat} {e : TypeId} {v : Value} {xs : List Value} (v2 v3 v4 v5 v6 v7 v8 : Value) (h : W.ownsRow base e size v n xs) (hv : v.ownBlock ≠ some g) :
  (((((((W.setCell ⟨g,2,none⟩ v2).setCell ⟨g,3,none⟩ v3).setCell ⟨g,4,none⟩ v4).setCell ⟨g,5,none⟩ v5).setCell ⟨g,6,none⟩ v6).setCell ⟨g,7,none⟩ v7).setCell ⟨g,8,none⟩ v8).ownsRow base e size v n xs :=
 ownsRow_setCell_other (ownsRow_setCell_other (ownsRow_setCell_other (ownsRow_setCell_other (ownsRow_setCell_other (ownsRow_setCell_other (ownsRow_setCell_other h hv _) hv _) hv _) hv _) hv _) hv _) hv _
def MasTo (w w' : World) (F : Nat → Prop) (b : Nat) (own : Int) (p' : PMas) : Prop := ∃ F',MasAt w' F' b own p' ∧ Moved w w' F ∧ (∀ k,F' k → F k ∨ w.heap.size ≤ k)
theorem no_row {k : Nat} : (Value.slice none 0 0).ownBlock ≠ some k := fun h => nomatch h
set_option maxRecDepth 100000 in
set_option maxHeartbeats 1000000 in
theorem rest_any (F : Nat → Prop) (b : Nat) (own : Int) (p : PMas) (w : World) (h : MasAt w F b own p) :
  Calls Tryz.prog 240 #[.pointer (some ⟨b,0,none⟩)] w fun e w' => (∃ v,e = .returned v) ∧ MasTo w w' F b own p.idle := by
 obtain ⟨vw,vo,vm,vl,h⟩ := h
 obtain ⟨aw,cw,rfl⟩ := owns_shape h.hw
 obtain ⟨ao,co,rfl⟩ := owns_shape h.ho
 obtain ⟨am,cm,rfl⟩ := owns_shape h.hm
 obtain ⟨al,cl,rfl⟩ := owns_shape h.hl
 have HI := hideA h
 have c := fun j => cell_of_heap h.blk j
 have f := fun j => frozen_of_heap h.blk j
 clear h
 go_enter Tryz.func240,Tryz.ntmps240
 go_wp2_with fail
 go_end0
 have M := moved9 (.int .i64 0) (.slice none 0 0) (.int .i64 0) (.slice none 0 0) (.int .i64 0) (.slice none 0 0) (.slice none 0 0) (Moved.refl w (fun k => k = b))
 have B := set9_all (.int .i64 0) (.slice none 0 0) (.int .i64 0) (.slice none 0 0) (.int .i64 0) (.slice none 0 0) (.slice none 0 0) HI.out.blk
 refine ⟨⟨_,rfl⟩,_,⟨_,_,_,_,HI.out.turn p.idle (.slice none 0 0) (.slice none 0 0) (.slice none 0 0) (.slice none 0 0) B M.size (World.ownsRow_nil _ _ _ _) (World.ownsRow_nil _ _ _ _) (World.ownsRow_nil _ _ _ _) (World.ownsRow_nil _ _ _ _) (fun k e => absurd e no_row) (fun k e => absurd e no_row) (fun k e => absurd e no_row) (fun k e => absurd e no_row) (fun k e => absurd e no_row)⟩,M.more HI.out.fb, ?_⟩
 rintro k (h1 | h1)
 ·exact .inl h1
 ·exact .inr h1.1
set_option maxRecDepth 100000 in
theorem masCrash_any (F : Nat → Prop) (b : Nat) (own : Int) (p : PMas) (w : World) (h : MasAt w F b own p) :
  Calls Tryz.prog 237 #[.pointer (some ⟨b,0,none⟩)] w fun e w' => (∃ v,e = .returned v) ∧ MasTo w w' F b own p.idle := by
 have hc := rest_any F b own p w h
 clear h
 go_enter Tryz.func237,Tryz.ntmps237
 go_wp2_with fail
 refine hc.mono ?_
 rintro e W ⟨⟨v,rfl⟩,ht⟩
 clear hc
 go_wp2_with fail
 go_end0
 exact ⟨⟨_,rfl⟩,ht⟩
set_option maxRecDepth 100000 in
theorem masRestart_any (b : Nat) (w : World) : Calls Tryz.prog 238 #[.pointer (some ⟨b,0,none⟩)] w fun e w' => (∃ v,e = .returned v) ∧ w' = w := by
 go_enter Tryz.func238,Tryz.ntmps238
 go_wp2_with fail
 go_end0
 exact ⟨⟨_,rfl⟩,rfl⟩
set_option maxRecDepth 100000 in
theorem masNew_any (own : Int) (w : World) :
  Calls Tryz.prog 110 #[.int .i64 own] w fun e w' => ∃ b F,e = .returned (.pointer (some ⟨b,0,none⟩)) ∧ MasAt w' F b own { begun := 0,doing := 0,waits := [],epoch := 0,old := [],vote := 0,mems := [],log := [] } ∧ (∀ k,F k → w.heap.size ≤ k) ∧ Below w.heap.size w w' := by
 go_enter Tryz.func110,Tryz.ntmps110
 go_wp2_with fail
 go_ret
 refine ⟨_,fun k => k = w.heap.size,rfl,⟨.slice none 0 0, .slice none 0 0, .slice none 0 0, .slice none 0 0,heap_new _ _,World.ownsRow_nil _ _ _ _,World.ownsRow_nil _ _ _ _,World.ownsRow_nil _ _ _ _,World.ownsRow_nil _ _ _ _,rfl,fun k e => absurd e no_row,fun k e => absurd e no_row,fun k e => absurd e no_row,fun k e => absurd e no_row,fun k e => absurd e no_row,fun k e => by simp; omega⟩,fun k e => by omega,(Below.refl _ w).alloc (Nat.le_refl _) _⟩
end Go.Proofs.YtgieeeeeiggoeaaGreat
