import Derived.Test.YtgieeeeeiggoeaaGreatQ31
import Derived.Test.YtgieeeeeiggoeaaGreatQ13
namespace Go.Proofs.YtgieeeeeiggoeaaGreat
open Go.RowKit Go.Shelf
theorem MasOut.after {w W w' : World} {F F1 : Nat → Prop} {b : Nat} {own : Int} {e : Ending} {q : PMas × List Msg} (hM : Moved w W F) (hF : ∀ k,F1 k → F k ∨ w.heap.size ≤ k) (h : MasOut W w' F1 b own e q) : MasOut w w' F b own e q := by
 obtain ⟨v,F',rfl,h1,h2,h3,h4⟩ := h
 have hs := hM.size
 refine ⟨v,F',rfl,h1,hM.trans h2 (fun k hk h5 => ?_),fun k hk => ?_,h4.base hM.size⟩
 ·rcases hF k h5 with h6 | h6
  ·exact h6
  ·omega
 ·rcases h3 k hk with h6 | h6
  ·exact hF k h6
  ·exact .inr (by omega)
theorem Moved.cell9 {w w' : World} {S : Nat → Prop} {p : Addr} {u : Value} (h : Moved w w' S) (hc : w.cell? p = some u) (hp : ¬ S p.block) : w'.cell? p = some u := by
 have hlt : p.block < w.heap.size := by
  rcases Nat.lt_or_ge p.block w.heap.size with h1 | h1
  ·exact h1
  ·exfalso
   unfold World.cell? at hc
   rw [Array.getElem?_eq_none h1] at hc
   cases hc
 rw [World.cell?_of_block (h.block p.block hlt hp)]
 exact hc
theorem IntsAt.moved {w W : World} {v : Value} {l : List Int} {b : Nat} (h : IntsAt w v l) (hM : Moved w W (fun k => k = b)) (hne : ∀ k,v.ownBlock = some k → k ≠ b) : IntsAt W v l := by
 obtain ⟨a,c,rfl,h⟩ := h
 refine ⟨a,c,rfl,fun i hi => ?_⟩
 obtain ⟨bb,off,rfl,h1⟩ := h i hi
 exact ⟨bb,off,rfl,hM.cell9 h1 (hne bb rfl)⟩
set_option maxRecDepth 100000 in
set_option maxHeartbeats 1000000 in
theorem masBegin_any (F : Nat → Prop) (b : Nat) (own : Int) (p : PMas) (va : Value) (l : List Int) (w : World) (h : MasAt w F b own p) (hb1 : p.begun < 1000) (hn : 200 ≤ own ∧ own ≤ 201) (ha : IntsAt w va l) (hne : ∀ k,va.ownBlock = some k → k ≠ b) (hl5 : l.length ≤ 5) :
  Calls Tryz.prog 37 #[.pointer (some ⟨b,0,none⟩),va] w fun e w' => MasOut w w' F b own e ((p.fresh l).turnTo own 1 [100,101,102]) := by
 obtain ⟨vw,vo,vm,vl,h⟩ := h
 have hbl : b < w.heap.size := h.lt b h.fb
 obtain ⟨aw,cw,rfl⟩ := owns_shape h.hw
 obtain ⟨ao,co,rfl⟩ := owns_shape h.ho
 obtain ⟨am,cm,rfl⟩ := owns_shape h.hm
 obtain ⟨al,cl,rfl⟩ := owns_shape h.hl
 have HI := hideA h
 have HC : Hid (∀ W,Moved w W (fun k => k = b) → Calls Tryz.prog 69 #[va] W fun e w' => ∃ v',e = .returned v' ∧ w'.ownsRow W.heap.size 3 1 v' l.length (ints l) ∧ Below W.heap.size W w') := hideA fun W hM => clone_ints _ l.length (ints l) W (IntsAt.cells (ha.moved hM hne)) (by rw [ints_length,Nat.mul_one]) (ints_one _) (by omega)
 obtain ⟨aa,ca,rfl, -⟩ := ha
 have HT : Hid (∀ W F' va,MasAt W F' b own (p.fresh l) → IntOwn W va [100,101,102] → Calls Tryz.prog 70 #[.pointer (some ⟨b,0,none⟩), .int .i64 1,va] W fun e w' => MasOut W w' F' b own e ((p.fresh l).turnTo own 1 [100,101,102])) := hideA fun W F' va hA hv => turnTo_any F' b own (p.fresh l) 1 va _ W hA ⟨by simp [PMas.fresh],by simp [PMas.fresh],hl5,by simp [PMas.fresh],by simp [PMas.fresh]; omega,by simp [PMas.fresh],hn⟩ hv (by simp) (by omega)
 have HA := fun W => hideA (acceptors_any W)
 have c := fun j => cell_of_heap h.blk j
 have f := fun j => frozen_of_heap h.blk j
 have hwr : IntKind.i64.wrap ((p.begun : Int) + 1) = (p.begun : Int) + 1 := by rw [IntKind.wrap_i64]; omega
 clear h
 go_enter Tryz.func37,Tryz.ntmps37
 go_wp2_with fail
 have M1 : Moved w (w.setCell ⟨b,1,none⟩ (.int .i64 ((p.begun : Int) + 1))) (fun k => k = b) := (Moved.refl w (fun k => k = b)).setCell ⟨b,1,none⟩ rfl _
 have B1 := set9_1 (.int .i64 ((p.begun : Int) + 1)) HI.out.blk
 generalize w.setCell ⟨b,1,none⟩ (.int .i64 ((p.begun : Int) + 1)) = W1 at *
 clear c f
 refine (HC.out W1 M1).mono ?_
 rintro e Y ⟨v',rfl,o1,hl⟩
 obtain ⟨x,cx,rfl⟩ := owns_shape o1
 have M2 := M1.below hl
 have B2 := (hl.block _ (Array.getElem?_eq_some_iff.1 B1).1).trans B1
 have O1 := hideA o1
 have c := fun j => cell_of_heap B2 j
 have f := fun j => frozen_of_heap B2 j
 have HB2 := hideA B2
 clear o1 B1 B2
 go_wp2_with fail
 have M3 := moved9 (.int .i64 0) (.slice none 0 0) (.int .i64 0) (.slice none 0 0) (.int .i64 (-1)) (.slice x l.length cx) (.slice none 0 0) M2
 have B3 := set9_all (.int .i64 0) (.slice none 0 0) (.int .i64 0) (.slice none 0 0) (.int .i64 (-1)) (.slice x l.length cx) (.slice none 0 0) HB2.out
 have o3 := owns9 (.int .i64 0) (.slice none 0 0) (.int .i64 0) (.slice none 0 0) (.int .i64 (-1)) (.slice x l.length cx) (.slice none 0 0) O1.out (blk_type HB2.out O1.out (by decide))
 obtain ⟨W3,hW3⟩ : ∃ W3,W3 = (((((((Y.setCell ⟨b,2,none⟩ (.int .i64 0)).setCell ⟨b,3,none⟩ (.slice none 0 0)).setCell ⟨b,4,none⟩ (.int .i64 0)).setCell ⟨b,5,none⟩ (.slice none 0 0)).setCell ⟨b,6,none⟩ (.int .i64 (-1))).setCell ⟨b,7,none⟩ (.slice x l.length cx)).setCell ⟨b,8,none⟩ (.slice none 0 0)) := ⟨_,rfl⟩
 rw [← hW3] at M3 B3 o3 ⊢
 clear hW3 c f
 have hs1 := M1.size
 have I3 := hideA (HI.out.turn (p.fresh l) (.slice none 0 0) (.slice none 0 0) (.slice x l.length cx) (.slice none 0 0) B3 M3.size (World.ownsRow_nil _ _ _ _) (World.ownsRow_nil _ _ _ _) (owns_base o3 (Nat.zero_le _)) (World.ownsRow_nil _ _ _ _) (fun k e => absurd e no_row) (fun k e => absurd e no_row) (fun k e => by obtain ⟨_,_,h3⟩ := ownBlock_cells o3 e; exact .inr (by omega)) (fun k e => absurd e no_row) (fun k e => absurd e no_row))
 refine ((HA W3).out).mono ?_
 rintro e A ⟨x2,c2,rfl,o4,hbA⟩
 have O4 := hideA (And.intro o4 hbA)
 clear o4 hbA
 go_wp2_with fail
 refine (HT.out A _ _ ⟨_,_,_,_,I3.out.below O4.out.2⟩ (owns_base O4.out.1 (Nat.zero_le _))).mono ?_
 intro e Z hO
 obtain ⟨v,F',rfl,r1,r2,r3,r4⟩ := hO
 obtain ⟨a8,c8,rfl⟩ := r4.shape
 have HR := hideA (And.intro r1 (And.intro r2 (And.intro r3 r4)))
 clear r1 r2 r3 r4
 generalize hpl : ((p.fresh l).turnTo own 1 [100,101,102]).2.length = pl at *
 go_wp2_with fail
 go_ret
 refine MasOut.after ((M3.below O4.out.2).more HI.out.fb) ?_ ⟨_,F',rfl,HR.out.1,HR.out.2.1,HR.out.2.2.1,HR.out.2.2.2⟩
 rintro k (h1 | h1)
 ·exact .inl h1
 ·exact .inr h1.1
set_option maxRecDepth 100000 in
set_option maxHeartbeats 1000000 in
theorem hasEnough_any (F : Nat → Prop) (b : Nat) (own : Int) (p : PMas) (w : World) (h : MasAt w F b own p) :
  Calls Tryz.prog 244 #[.pointer (some ⟨b,0,none⟩)] w fun e w' => e = .returned (.bool p.enough) ∧ w' = w := by
 obtain ⟨vw,vo,vm,vl,h⟩ := h
 obtain ⟨aw,cw,rfl⟩ := owns_shape h.hw
 have c2 := cell_of_heap h.blk 2
 have c3 := cell_of_heap h.blk 3
 have HE : Hid (p.enough = if p.doing = 2 then true else if p.doing = 5 then decide ((p.waits.length : Int) = 0) else decide ((p.waits.length : Int) ≤ 1)) := hideA rfl
 clear h
 generalize p.doing = d at *
 generalize p.enough = en at *
 generalize p.waits.length = n at *
 cases t2 : (d == 2) with
 | true =>
  have P2 : Hid (d = 2) := hideA (by simpa using t2)
  have H : Hid (en = true) := hideA (by rw [HE.out,if_pos P2.out])
  go_enter Tryz.func244,Tryz.ntmps244
  go_wp2_with fail
  go_ret
  exact ⟨by rw [H.out]; rfl,rfl⟩
 | false =>
  have N2 : Hid (¬ d = 2) := hideA (by simpa using t2)
  cases t5 : (d == 5) with
  | true =>
   have P5 : Hid (d = 5) := hideA (by simpa using t5)
   have H : Hid (en = decide ((n : Int) = 0)) := hideA (by rw [HE.out,if_neg N2.out,if_pos P5.out])
   clear HE
   go_enter Tryz.func244,Tryz.ntmps244
   go_wp2_with fail
   go_ret
   refine ⟨?_,rfl⟩
   rw [H.out]
   show Ending.returned (Value.bool ((n : Int) == 0)) = _
   rfl
  | false =>
   have N5 : Hid (¬ d = 5) := hideA (by simpa using t5)
   have H : Hid (en = decide ((n : Int) ≤ 1)) := hideA (by rw [HE.out,if_neg N2.out,if_neg N5.out])
   clear HE
   go_enter Tryz.func244,Tryz.ntmps244
   go_wp2_with fail
   go_ret
   refine ⟨?_,rfl⟩
   rw [H.out]
   simp
set_option maxRecDepth 100000 in
set_option maxHeartbeats 4000000 in
theorem isAnswer_any (F : Nat → Prop) (b : Nat) (own : Int) (p : PMas) (m : Msg) (mm ml : Value) (w : World) (h : MasAt w F b own p) (ok : MasOK p own) :
  Calls Tryz.prog 241 #[.pointer (some ⟨b,0,none⟩),mval m mm ml] w fun e w' => e = .returned (.bool (p.isAnswer own m)) ∧ Below w.heap.size w w' := by
 obtain ⟨vw,vo,vm,vl,h⟩ := h
 have hbl : b < w.heap.size := h.lt b h.fb
 have HI := hideA h
 have hd := ok.d
 have HQ : Hid (∀ W,Below w.heap.size w W → Calls Tryz.prog 183 #[.pointer (some ⟨b,0,none⟩)] W fun e w' => e = .returned (.int .i64 (p.ballot own)) ∧ ∃ q,w' = W.drewN q) := hideA fun W hb => ballot_any F b own p _ _ _ _ W (HI.out.below hb) ok.b ok.n
 have HS : Hid (∀ W,Below w.heap.size w W → W.cell? ⟨b,2,none⟩ = some (.int .i64 p.doing) ∧ W.cell? ⟨b,4,none⟩ = some (.int .i64 p.epoch)) := hideA fun W hb => ⟨cell_of_heap (HI.out.below hb).blk 2,cell_of_heap (HI.out.below hb).blk 4⟩
 clear h ok
 generalize hqq : p.isAnswer own m = qq
 unfold PMas.isAnswer at hqq
 generalize p.ballot own = bal at *
 generalize p.doing = doing at *
 generalize p.epoch = ep at *
 generalize hob : (m.ballot == bal) = ob at *
 generalize hoe : (m.epoch == ep) = oe at *
 unfold mval
 rcases (by omega : doing = 0 ∨ doing = 1 ∨ doing = 2 ∨ doing = 3 ∨ doing = 4 ∨ doing = 5 ∨ doing = 6) with rfl | rfl | rfl | rfl | rfl | rfl | rfl
 all_goals simp only [Int.reduceEq,if_true,if_false] at hqq
 ·-- 0
  have HQQ := hideA hqq
  clear hqq
  go_enter Tryz.func241,Tryz.ntmps241
  go_wp2_with fail
  obtain ⟨X,hX,hbX,hM⟩ := msg_box w m mm ml
  rw [hX]
  clear hX
  obtain ⟨s2,s4⟩ := HS.out X hbX
  have gM := fun j => cell_of_heap hM j
  go_quiet ((go_at_call 183; refine (HQ.out _ (below_drewN hbX _)).mono ?_; rintro e w9 ⟨rfl,q,rfl⟩; exact ⟨rfl,_,World.drewN_drewN _ _ _⟩))
  go_wp2_with fail
  go_quiet (fail)
  go_wp2_with fail
  go_ret
  refine ⟨?_,by first | exact below_drewN (below_drewN hbX _) _ | exact below_drewN hbX _⟩
  rw [← HQQ.out]
  rfl
 ·generalize hk : (m.kind == 6) = kk at *
  cases kk <;> cases oe
  all_goals (
   have HQQ := hideA hqq
   clear hqq
   go_enter Tryz.func241,Tryz.ntmps241
   go_wp2_with fail
   obtain ⟨X,hX,hbX,hM⟩ := msg_box w m mm ml
   rw [hX]
   clear hX
   obtain ⟨s2,s4⟩ := HS.out X hbX
   have gM := fun j => cell_of_heap hM j
   go_quiet ((go_at_call 183; refine (HQ.out _ (below_drewN hbX _)).mono ?_; rintro e w9 ⟨rfl,q,rfl⟩; exact ⟨rfl,_,World.drewN_drewN _ _ _⟩))
   go_wp2_with fail
   go_quiet (fail)
   go_wp2_with fail
   go_ret
   refine ⟨?_,by first | exact below_drewN (below_drewN hbX _) _ | exact below_drewN hbX _⟩
   rw [← HQQ.out]
   rfl)
 ·generalize hk : (m.kind == 8) = kk at *
  cases kk <;> cases oe
  all_goals (
   have HQQ := hideA hqq
   clear hqq
   go_enter Tryz.func241,Tryz.ntmps241
   go_wp2_with fail
   obtain ⟨X,hX,hbX,hM⟩ := msg_box w m mm ml
   rw [hX]
   clear hX
   obtain ⟨s2,s4⟩ := HS.out X hbX
   have gM := fun j => cell_of_heap hM j
   go_quiet ((go_at_call 183; refine (HQ.out _ (below_drewN hbX _)).mono ?_; rintro e w9 ⟨rfl,q,rfl⟩; exact ⟨rfl,_,World.drewN_drewN _ _ _⟩))
   go_wp2_with fail
   go_quiet (fail)
   go_wp2_with fail
   go_ret
   refine ⟨?_,by first | exact below_drewN (below_drewN hbX _) _ | exact below_drewN hbX _⟩
   rw [← HQQ.out]
   rfl)
 ·generalize hk : (m.kind == 10) = kk at *
  cases kk <;> cases oe
  all_goals (
   have HQQ := hideA hqq
   clear hqq
   go_enter Tryz.func241,Tryz.ntmps241
   go_wp2_with fail
   obtain ⟨X,hX,hbX,hM⟩ := msg_box w m mm ml
   rw [hX]
   clear hX
   obtain ⟨s2,s4⟩ := HS.out X hbX
   have gM := fun j => cell_of_heap hM j
   go_quiet ((go_at_call 183; refine (HQ.out _ (below_drewN hbX _)).mono ?_; rintro e w9 ⟨rfl,q,rfl⟩; exact ⟨rfl,_,World.drewN_drewN _ _ _⟩))
   go_wp2_with fail
   go_quiet (fail)
   go_wp2_with fail
   go_ret
   refine ⟨?_,by first | exact below_drewN (below_drewN hbX _) _ | exact below_drewN hbX _⟩
   rw [← HQQ.out]
   rfl)
 ·generalize hk : (m.kind == 12) = kk at *
  cases kk <;> cases oe
  all_goals (
   have HQQ := hideA hqq
   clear hqq
   go_enter Tryz.func241,Tryz.ntmps241
   go_wp2_with fail
   obtain ⟨X,hX,hbX,hM⟩ := msg_box w m mm ml
   rw [hX]
   clear hX
   obtain ⟨s2,s4⟩ := HS.out X hbX
   have gM := fun j => cell_of_heap hM j
   go_quiet ((go_at_call 183; refine (HQ.out _ (below_drewN hbX _)).mono ?_; rintro e w9 ⟨rfl,q,rfl⟩; exact ⟨rfl,_,World.drewN_drewN _ _ _⟩))
   go_wp2_with fail
   go_quiet (fail)
   go_wp2_with fail
   go_ret
   refine ⟨?_,by first | exact below_drewN (below_drewN hbX _) _ | exact below_drewN hbX _⟩
   rw [← HQQ.out]
   rfl)
 ·generalize hk : (m.kind == 14) = kk at *
  cases kk <;> cases oe
  all_goals (
   have HQQ := hideA hqq
   clear hqq
   go_enter Tryz.func241,Tryz.ntmps241
   go_wp2_with fail
   obtain ⟨X,hX,hbX,hM⟩ := msg_box w m mm ml
   rw [hX]
   clear hX
   obtain ⟨s2,s4⟩ := HS.out X hbX
   have gM := fun j => cell_of_heap hM j
   go_quiet ((go_at_call 183; refine (HQ.out _ (below_drewN hbX _)).mono ?_; rintro e w9 ⟨rfl,q,rfl⟩; exact ⟨rfl,_,World.drewN_drewN _ _ _⟩))
   go_wp2_with fail
   go_quiet (fail)
   go_wp2_with fail
   go_ret
   refine ⟨?_,by first | exact below_drewN (below_drewN hbX _) _ | exact below_drewN hbX _⟩
   rw [← HQQ.out]
   rfl)
 ·generalize hk : (m.kind == 16) = kk at *
  cases kk <;> cases oe
  all_goals (
   have HQQ := hideA hqq
   clear hqq
   go_enter Tryz.func241,Tryz.ntmps241
   go_wp2_with fail
   obtain ⟨X,hX,hbX,hM⟩ := msg_box w m mm ml
   rw [hX]
   clear hX
   obtain ⟨s2,s4⟩ := HS.out X hbX
   have gM := fun j => cell_of_heap hM j
   go_quiet ((go_at_call 183; refine (HQ.out _ (below_drewN hbX _)).mono ?_; rintro e w9 ⟨rfl,q,rfl⟩; exact ⟨rfl,_,World.drewN_drewN _ _ _⟩))
   go_wp2_with fail
   go_quiet (fail)
   go_wp2_with fail
   go_ret
   refine ⟨?_,by first | exact below_drewN (below_drewN hbX _) _ | exact below_drewN hbX _⟩
   rw [← HQQ.out]
   rfl)
theorem more_part {F : Nat → Prop} {w w' : World} : ∀ k,More F w w' k → F k ∨ w.heap.size ≤ k := by
 rintro k (h1 | h1)
 ·exact .inl h1
 ·exact .inr h1.1
theorem MasTo.still {w w' : World} {F : Nat → Prop} {b : Nat} {own : Int} {p : PMas} (h : MasAt w F b own p) (hb : Below w.heap.size w w') : MasTo w w' F b own p := by
 obtain ⟨vw,vo,vm,vl,h⟩ := h
 exact ⟨F,⟨vw,vo,vm,vl,h.below hb⟩,(Moved.refl w F).below hb,fun k h => .inl h⟩
theorem MasIn.next {w W : World} {F : Nat → Prop} {b : Nat} {own : Int} {p : PMas} {vw vo vm vl : Value} (h : MasIn w F b own p vw vo vm vl) (hM : Moved w W (fun k => k = b)) (p' : PMas) (vo' vm' vl' : Value) (hw : p'.waits = p.waits)
  (hb : W.heap[b]? = some (.cells #[.int .i64 own, .int .i64 (p'.begun : Int), .int .i64 p'.doing,vw, .int .i64 p'.epoch,vo', .int .i64 p'.vote,vm',vl'] 146))
  (h2 : IntOwn W vo' p'.old) (h3 : IntOwn W vm' p'.mems) (h4 : LogOwn W vl' p'.log) (f2 : ∀ k,vo'.ownBlock = some k → vo.ownBlock = some k ∨ w.heap.size ≤ k) (f3 : ∀ k,vm'.ownBlock = some k → vm.ownBlock = some k ∨ w.heap.size ≤ k) (f4 : ∀ k,vl'.ownBlock = some k → vl.ownBlock = some k ∨ w.heap.size ≤ k) :
  MasTo w W F b own p' := by
 have hW : IntOwn W vw p'.waits := by rw [hw]; exact h.beside hM h.hw (by decide)
 refine ⟨_,⟨_,_,_,_,h.turn p' vw vo' vm' vl' hb hM.size hW h2 h3 h4 (fun k e => .inl (h.fw k e)) (fun k e => (f2 k e).imp (h.fo k) id) (fun k e => (f3 k e).imp (h.fm k) id) (fun k e => (f4 k e).imp (h.fl k) id) (fun k e => ⟨fun e2 => ?_,fun e2 => ?_⟩)⟩,hM.more h.fb,more_part⟩
 ·rcases f2 k e2 with h5 | h5
  ·exact (h.ap k e).1 h5
  ·have := h.lt k (h.fw k e); omega
 ·rcases f3 k e2 with h5 | h5
  ·exact (h.ap k e).2 h5
  ·have := h.lt k (h.fw k e); omega
set_option maxRecDepth 100000 in
set_option maxHeartbeats 1000000 in
theorem learnRegister_any (F : Nat → Prop) (b : Nat) (own : Int) (p : PMas) (m : Msg) (mm ml : Value) (w : World) (h : MasAt w F b own p) (hmm : IntOwn w mm m.mems) (hm5 : m.mems.length ≤ 5) (he : 0 ≤ m.epoch ∧ m.epoch ≤ 100000) :
  Calls Tryz.prog 246 #[.pointer (some ⟨b,0,none⟩),mval m mm ml] w fun e w' => (∃ v,e = .returned v) ∧ MasTo w w' F b own (p.learnRegister m) := by
 have HA := hideA h
 obtain ⟨vw,vo,vm,vl,h⟩ := h
 have hbl : b < w.heap.size := h.lt b h.fb
 have HI := hideA h
 obtain ⟨a1,d1,rfl⟩ := owns_shape hmm
 have HC : Hid (∀ W,Moved w W (fun k => k = b) → Calls Tryz.prog 69 #[.slice a1 m.mems.length d1] W fun e w' => ∃ x c,e = .returned (.slice x m.mems.length c) ∧ w'.ownsRow W.heap.size 3 1 (.slice x m.mems.length c) m.mems.length (ints m.mems) ∧ Below W.heap.size W w') := hideA fun W hM => cloneMems_any _ m.mems W (h.beside hM hmm (by decide)) (by omega)
 have HL : Hid (p.learnRegister m = if p.epoch < m.epoch + 1 then { p with epoch := m.epoch + 1,old := m.mems } else p) := hideA rfl
 have hwr : IntKind.i64.wrap (m.epoch + 1) = m.epoch + 1 := by rw [IntKind.wrap_i64]; omega
 clear h hmm
 unfold mval
 go_enter Tryz.func246,Tryz.ntmps246
 go_upto_region 1 with fail
 obtain ⟨X,hX,hbX,hM⟩ := msg_box w m (.slice a1 m.mems.length d1) ml
 rw [hX]
 clear hX
 have IX := hideA (HI.out.below hbX)
 have s4 : X.cell? ⟨b,4,none⟩ = some (.int .i64 p.epoch) := cell_of_heap IX.out.blk 4
 have fz4 := frozen_of_heap IX.out.blk 4
 have gM := fun j => cell_of_heap hM j
 have HM := hideA hM
 clear hM
 have hne : ¬ b = w.heap.size := by omega
 have hne' : ¬ w.heap.size = b := by omega
 by_cases hlt : p.epoch < m.epoch + 1
 ·have HT : Hid (p.learnRegister m = { p with epoch := m.epoch + 1,old := m.mems }) := hideA (by rw [HL.out,if_pos hlt])
  go_wp2_with fail
  have M1 : Moved w (X.setCell ⟨b,4,none⟩ (.int .i64 (m.epoch + 1))) (fun k => k = b) := ((Moved.refl w (fun k => k = b)).below hbX).setCell ⟨b,4,none⟩ rfl _
  have B1 := set9_4 (.int .i64 (m.epoch + 1)) IX.out.blk
  generalize X.setCell ⟨b,4,none⟩ (.int .i64 (m.epoch + 1)) = W1 at *
  clear s4 fz4 gM
  refine (HC.out W1 M1).mono ?_
  rintro e Y ⟨x,c,rfl,o1,hl⟩
  have M2 := M1.below hl
  have B2 := (hl.block _ (Array.getElem?_eq_some_iff.1 B1).1).trans B1
  have O1 := hideA (And.intro o1 M1.size)
  have e5 := cell_of_heap B2 5
  have f5 := frozen_of_heap B2 5
  have HB2 := hideA B2
  clear o1 B1 B2
  go_wp2_with fail
  go_end0
  have B3 := set9_5 (.slice x m.mems.length c) HB2.out
  have M3 := M2.setCell ⟨b,5,none⟩ rfl (.slice x m.mems.length c)
  have o3 : (Y.setCell ⟨b,5,none⟩ (.slice x m.mems.length c)).ownsRow W1.heap.size 3 1 (.slice x m.mems.length c) m.mems.length (ints m.mems) := ownsRow_setCell_other O1.out.1 (blk_type HB2.out O1.out.1 (by decide)) _
  refine ⟨⟨_,rfl⟩, ?_⟩
  rw [HT.out]
  exact HI.out.next M3 { p with epoch := m.epoch + 1,old := m.mems } _ _ _ rfl B3 (owns_base o3 (Nat.zero_le _)) (HI.out.beside M3 HI.out.hm (by decide)) (HI.out.beside M3 HI.out.hl (by decide)) (fun k e => by obtain ⟨_,_,h3⟩ := ownBlock_cells o3 e; have := O1.out.2; exact .inr (by omega)) (fun k e => .inl e) (fun k e => .inl e)
 ·have HT : Hid (p.learnRegister m = p) := hideA (by rw [HL.out,if_neg hlt])
  go_wp2_with fail
  go_end0
  refine ⟨⟨_,rfl⟩, ?_⟩
  rw [HT.out]
  exact MasTo.still HA.out hbX
set_option maxRecDepth 100000 in
set_option maxHeartbeats 1000000 in
theorem learnVote_any (F : Nat → Prop) (b : Nat) (own : Int) (p : PMas) (m : Msg) (mm ml : Value) (w : World) (h : MasAt w F b own p) (hmm : IntOwn w mm m.mems) (hml : LogOwn w ml m.log) (hm5 : m.mems.length ≤ 5) (hl24 : m.log.length ≤ 24) :
  Calls Tryz.prog 247 #[.pointer (some ⟨b,0,none⟩),mval m mm ml] w fun e w' => (∃ v,e = .returned v) ∧ MasTo w w' F b own (p.learnVote m) := by
 have HA := hideA h
 obtain ⟨vw,vo,vm,vl,h⟩ := h
 have hbl : b < w.heap.size := h.lt b h.fb
 have HI := hideA h
 obtain ⟨a1,d1,rfl⟩ := owns_shape hmm
 obtain ⟨a2,d2,rfl⟩ := owns_shape hml
 have HC : Hid (∀ W,Moved w W (fun k => k = b) → Calls Tryz.prog 69 #[.slice a1 m.mems.length d1] W fun e w' => ∃ x c,e = .returned (.slice x m.mems.length c) ∧ w'.ownsRow W.heap.size 3 1 (.slice x m.mems.length c) m.mems.length (ints m.mems) ∧ Below W.heap.size W w') := hideA fun W hM => cloneMems_any _ m.mems W (h.beside hM hmm (by decide)) (by omega)
 have HD : Hid (∀ W,Moved w W (fun k => k = b) → Calls Tryz.prog 147 #[.slice a2 m.log.length d2] W fun e w' => ∃ x c,e = .returned (.slice x m.log.length c) ∧ w'.ownsRow W.heap.size 42 5 (.slice x m.log.length c) m.log.length (ints (entsNums m.log)) ∧ Below W.heap.size W w') := hideA fun W hM => cloneLog_any _ m.log W (h.beside hM hml (by decide)) (by omega)
 have HL : Hid (p.learnVote m = if p.vote < m.vote then { p with vote := m.vote,mems := m.mems,log := m.log } else p) := hideA rfl
 clear h hmm hml
 unfold mval
 go_enter Tryz.func247,Tryz.ntmps247
 go_upto_region 1 with fail
 obtain ⟨X,hX,hbX,hM⟩ := msg_box w m (.slice a1 m.mems.length d1) (.slice a2 m.log.length d2)
 rw [hX]
 clear hX
 have IX := hideA (HI.out.below hbX)
 have s6 : X.cell? ⟨b,6,none⟩ = some (.int .i64 p.vote) := cell_of_heap IX.out.blk 6
 have gM := fun j => cell_of_heap hM j
 have HM := hideA hM
 clear hM
 have hne : ¬ b = w.heap.size := by omega
 have hne' : ¬ w.heap.size = b := by omega
 by_cases hlt : p.vote < m.vote
 ·have HT : Hid (p.learnVote m = { p with vote := m.vote,mems := m.mems,log := m.log }) := hideA (by rw [HL.out,if_pos hlt])
  go_quiet (fail)
  have hbD := below_drewN hbX nq
  have ID := hideA (HI.out.below hbD)
  have HD2 : Hid ((X.drewN nq).heap[w.heap.size]? = some (.cells #[.int .i64 m.kind, .int .i64 m.src, .int .i64 m.dst, .int .i64 m.epoch, .int .i64 m.ballot, .int .i64 m.vote, .int .i64 m.pos, .int .i64 m.value, .slice a1 m.mems.length d1, .slice a2 m.log.length d2] 134)) := HM
  generalize X.drewN nq = D at *
  clear gM s6 HM
  have y5 := cell_of_heap HD2.out 5
  have y8 := cell_of_heap HD2.out 8
  have e6 := cell_of_heap ID.out.blk 6
  have f6 := frozen_of_heap ID.out.blk 6
  go_wp2_with fail
  have M1 : Moved w (D.setCell ⟨b,6,none⟩ (.int .i64 m.vote)) (fun k => k = b) := ((Moved.refl w (fun k => k = b)).below hbD).setCell ⟨b,6,none⟩ rfl _
  have B1 := set9_6 (.int .i64 m.vote) ID.out.blk
  have G1 : (D.setCell ⟨b,6,none⟩ (.int .i64 m.vote)).heap[w.heap.size]? = some (.cells #[.int .i64 m.kind, .int .i64 m.src, .int .i64 m.dst, .int .i64 m.epoch, .int .i64 m.ballot, .int .i64 m.vote, .int .i64 m.pos, .int .i64 m.value, .slice a1 m.mems.length d1, .slice a2 m.log.length d2] 134) := (Below.heap_setCell _ _ _ _ hne').trans HD2.out
  generalize D.setCell ⟨b,6,none⟩ (.int .i64 m.vote) = W1 at *
  clear y5 y8 e6 f6
  refine (HC.out W1 M1).mono ?_
  rintro e Y ⟨x,c,rfl,o1,hl⟩
  have M2 := M1.below hl
  have B2 := (hl.block _ (Array.getElem?_eq_some_iff.1 B1).1).trans B1
  have G2 := (hl.block _ (Array.getElem?_eq_some_iff.1 G1).1).trans G1
  have O1 := hideA (And.intro o1 M1.size)
  have e7 := cell_of_heap B2 7
  have f7 := frozen_of_heap B2 7
  have HB2 := hideA B2
  have HG2 := hideA G2
  have y9 := cell_of_heap HG2.out 9
  clear o1 B1 B2 G1 G2
  go_wp2_with fail
  have B3 := set9_7 (.slice x m.mems.length c) HB2.out
  have M3 := M2.setCell ⟨b,7,none⟩ rfl (.slice x m.mems.length c)
  have o3 : (Y.setCell ⟨b,7,none⟩ (.slice x m.mems.length c)).ownsRow W1.heap.size 3 1 (.slice x m.mems.length c) m.mems.length (ints m.mems) := ownsRow_setCell_other O1.out.1 (blk_type HB2.out O1.out.1 (by decide)) _
  generalize Y.setCell ⟨b,7,none⟩ (.slice x m.mems.length c) = W3 at *
  have O3 := hideA o3
  have HB3 := hideA B3
  clear e7 f7 o3 B3 y9
  refine (HD.out W3 M3).mono ?_
  rintro e V ⟨x2,c2,rfl,o4,hl2⟩
  have M4 := M3.below hl2
  have B4 := (hl2.block _ (Array.getElem?_eq_some_iff.1 HB3.out).1).trans HB3.out
  have O4 := hideA (And.intro o4 M3.size)
  have O3' := hideA (owns_kept O3.out fun k _ hk => hl2.block k hk)
  have e8 := cell_of_heap B4 8
  have f8 := frozen_of_heap B4 8
  have HB4 := hideA B4
  clear o4 B4
  go_wp2_with fail
  go_end0
  have B5 := set9_8 (.slice x2 m.log.length c2) HB4.out
  have M5 := M4.setCell ⟨b,8,none⟩ rfl (.slice x2 m.log.length c2)
  have o5 : (V.setCell ⟨b,8,none⟩ (.slice x2 m.log.length c2)).ownsRow W3.heap.size 42 5 (.slice x2 m.log.length c2) m.log.length (ints (entsNums m.log)) := ownsRow_setCell_other O4.out.1 (blk_type HB4.out O4.out.1 (by decide)) _
  have o6 : (V.setCell ⟨b,8,none⟩ (.slice x2 m.log.length c2)).ownsRow W1.heap.size 3 1 (.slice x m.mems.length c) m.mems.length (ints m.mems) := ownsRow_setCell_other O3'.out (blk_type HB4.out O3'.out (by decide)) _
  refine ⟨⟨_,rfl⟩, ?_⟩
  rw [HT.out]
  exact HI.out.next M5 { p with vote := m.vote,mems := m.mems,log := m.log } _ _ _ rfl B5 (HI.out.beside M5 HI.out.ho (by decide)) (owns_base o6 (Nat.zero_le _)) (owns_base o5 (Nat.zero_le _)) (fun k e => .inl e) (fun k e => by obtain ⟨_,_,h3⟩ := ownBlock_cells o6 e; have := O1.out.2; exact .inr (by omega)) (fun k e => by obtain ⟨_,_,h3⟩ := ownBlock_cells o5 e; have := O4.out.2; exact .inr (by omega))
 ·have HT : Hid (p.learnVote m = p) := hideA (by rw [HL.out,if_neg hlt])
  go_quiet (fail)
  have hbD := below_drewN hbX nq
  clear gM s6
  go_wp2_with fail
  go_end0
  refine ⟨⟨_,rfl⟩, ?_⟩
  rw [HT.out]
  exact MasTo.still HA.out hbD
set_option maxRecDepth 100000 in
set_option maxHeartbeats 1000000 in
theorem learn_any (F : Nat → Prop) (b : Nat) (own : Int) (p : PMas) (m : Msg) (mm ml : Value) (w : World) (h : MasAt w F b own p) (hmm : IntOwn w mm m.mems) (hml : LogOwn w ml m.log) (hm5 : m.mems.length ≤ 5) (hl24 : m.log.length ≤ 24) (he : 0 ≤ m.epoch ∧ m.epoch ≤ 100000) :
  Calls Tryz.prog 243 #[.pointer (some ⟨b,0,none⟩),mval m mm ml] w fun e w' => (∃ v,e = .returned v) ∧ MasTo w w' F b own (p.learn m) := by
 have HA := hideA h
 have HR : Hid (∀ W,Below w.heap.size w W → Calls Tryz.prog 246 #[.pointer (some ⟨b,0,none⟩),mval m mm ml] W fun e w' => (∃ v,e = .returned v) ∧ MasTo W w' F b own (p.learnRegister m)) := hideA fun W hb => learnRegister_any F b own p m mm ml W (by obtain ⟨vw,vo,vm,vl,h⟩ := h; exact ⟨vw,vo,vm,vl,h.below hb⟩) (owns_kept hmm fun k _ hk => hb.block k hk) hm5 he
 have HV : Hid (∀ W,Below w.heap.size w W → Calls Tryz.prog 247 #[.pointer (some ⟨b,0,none⟩),mval m mm ml] W fun e w' => (∃ v,e = .returned v) ∧ MasTo W w' F b own (p.learnVote m)) := hideA fun W hb => learnVote_any F b own p m mm ml W (by obtain ⟨vw,vo,vm,vl,h⟩ := h; exact ⟨vw,vo,vm,vl,h.below hb⟩) (owns_kept hmm fun k _ hk => hb.block k hk) (owns_kept hml fun k _ hk => hb.block k hk) hm5 hl24
 have HTo : Hid (∀ W w' p',Below w.heap.size w W → MasTo W w' F b own p' → MasTo w w' F b own p') := hideA (by
  rintro W w' p' hb ⟨F',h1,h2,h3⟩
  refine ⟨F',h1,((Moved.refl w F).below hb).trans h2 (fun k _ hk => hk),fun k hk => ?_⟩
  rcases h3 k hk with h4 | h4
  ·exact .inl h4
  ·exact .inr (by have := hb.size; omega))
 obtain ⟨vw,vo,vm,vl,h⟩ := h
 have hbl : b < w.heap.size := h.lt b h.fb
 have HI := hideA h
 obtain ⟨a1,d1,rfl⟩ := owns_shape hmm
 obtain ⟨a2,d2,rfl⟩ := owns_shape hml
 have HD : Hid (∀ W,Below w.heap.size w W → Calls Tryz.prog 147 #[.slice a2 m.log.length d2] W fun e w' => ∃ x c,e = .returned (.slice x m.log.length c) ∧ w'.ownsRow W.heap.size 42 5 (.slice x m.log.length c) m.log.length (ints (entsNums m.log)) ∧ Below W.heap.size W w') := hideA fun W hb => cloneLog_any _ m.log W (owns_kept hml fun k _ hk => hb.block k hk) (by omega)
 have HL : Hid (p.learn m = if p.doing = 1 then p.learnRegister m else if p.doing = 2 then { p with log := m.log } else if p.doing = 3 then p.learnVote m else p) := hideA rfl
 clear h hmm hml
 unfold mval at *
 have hne : ¬ b = w.heap.size := by omega
 have hne' : ¬ w.heap.size = b := by omega
 generalize hd : p.doing = d at *
 have HDo := hideA hd
 clear hd
 go_enter Tryz.func243,Tryz.ntmps243
 go_upto_region 1 with fail
 obtain ⟨X,hX,hbX,hM⟩ := msg_box w m (.slice a1 m.mems.length d1) (.slice a2 m.log.length d2)
 rw [hX]
 clear hX
 have IX := hideA (HI.out.below hbX)
 have s2 : X.cell? ⟨b,2,none⟩ = some (.int .i64 d) := by rw [← HDo.out]; exact cell_of_heap IX.out.blk 2
 have s8 := cell_of_heap IX.out.blk 8
 have z8 := frozen_of_heap IX.out.blk 8
 have gM := fun j => cell_of_heap hM j
 have HM := hideA hM
 clear hM
 cases t1 : (d == 1) with
 | true =>
  have HT : Hid (p.learn m = p.learnRegister m) := hideA (by rw [HL.out,if_pos (by simpa using t1)])
  go_wp2_with fail
  refine (HR.out _ hbX).mono ?_
  rintro e Y ⟨⟨v,rfl⟩,hto⟩
  clear gM s2 s8 z8
  go_wp2_with fail
  go_end0
  refine ⟨⟨_,rfl⟩, ?_⟩
  rw [HT.out]
  exact HTo.out _ _ _ hbX hto
 | false =>
  have N1 : Hid (¬ d = 1) := hideA (by simpa using t1)
  cases t2 : (d == 2) with
  | true =>
   have HT : Hid (p.learn m = { p with log := m.log }) := hideA (by rw [HL.out,if_neg N1.out,if_pos (by simpa using t2),HDo.out])
   go_wp2_with fail
   refine (HD.out _ hbX).mono ?_
   rintro e Y ⟨x,c,rfl,o1,hl⟩
   have hbY := hbX.trans (hl.mono hbX.size)
   have IY := hideA (HI.out.below hbY)
   have O1 := hideA (And.intro o1 hbX.size)
   have e8 := cell_of_heap IY.out.blk 8
   have f8 := frozen_of_heap IY.out.blk 8
   clear o1 gM s2 s8 z8
   go_wp2_with fail
   go_end0
   have B3 := set9_8 (.slice x m.log.length c) IY.out.blk
   have M3 := ((Moved.refl w (fun k => k = b)).below hbY).setCell ⟨b,8,none⟩ rfl (.slice x m.log.length c)
   have o3 : (Y.setCell ⟨b,8,none⟩ (.slice x m.log.length c)).ownsRow X.heap.size 42 5 (.slice x m.log.length c) m.log.length (ints (entsNums m.log)) := ownsRow_setCell_other O1.out.1 (blk_type IY.out.blk O1.out.1 (by decide)) _
   refine ⟨⟨_,rfl⟩, ?_⟩
   rw [HT.out]
   exact HI.out.next M3 { p with log := m.log } _ _ _ rfl B3 (HI.out.beside M3 HI.out.ho (by decide)) (HI.out.beside M3 HI.out.hm (by decide)) (owns_base o3 (Nat.zero_le _)) (fun k e => .inl e) (fun k e => .inl e) (fun k e => by obtain ⟨_,_,h3⟩ := ownBlock_cells o3 e; have := O1.out.2; exact .inr (by omega))
  | false =>
   have N2 : Hid (¬ d = 2) := hideA (by simpa using t2)
   cases t3 : (d == 3) with
   | true =>
    have HT : Hid (p.learn m = p.learnVote m) := hideA (by rw [HL.out,if_neg N1.out,if_neg N2.out,if_pos (by simpa using t3)])
    go_wp2_with fail
    refine (HV.out _ hbX).mono ?_
    rintro e Y ⟨⟨v,rfl⟩,hto⟩
    clear gM s2 s8 z8
    go_wp2_with fail
    go_end0
    refine ⟨⟨_,rfl⟩, ?_⟩
    rw [HT.out]
    exact HTo.out _ _ _ hbX hto
   | false =>
    have N3 : Hid (¬ d = 3) := hideA (by simpa using t3)
    have HT : Hid (p.learn m = p) := hideA (by rw [HL.out,if_neg N1.out,if_neg N2.out,if_neg N3.out])
    go_wp2_with fail
    go_end0
    refine ⟨⟨_,rfl⟩, ?_⟩
    rw [HT.out]
    exact MasTo.still HA.out hbX
end Go.Proofs.YtgieeeeeiggoeaaGreat
