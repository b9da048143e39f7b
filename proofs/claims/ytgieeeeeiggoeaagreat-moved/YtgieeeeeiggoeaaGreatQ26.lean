import Derived.Test.YtgieeeeeiggoeaaGreatQ25
import Derived.Test.YtgieeeeeiggoeaaGreatQ06
import Derived.Test.YtgieeeeeiggoeaaGreatQ19
namespace Go.Proofs.YtgieeeeeiggoeaaGreat
open Go.RowKit Go.Shelf
def RepOut (w w' : World) (b : Nat) (own : Int) (vm vl : Value) (e : Ending) (p : Rep × List Msg) : Prop :=
 ∃ v,e = .returned v ∧ RepTo w w' b own vm vl p.1 ∧ MsgsOwn w' w.heap.size v p.2
theorem append_ent (W : World) (base : Nat) (v : Value) (es : List Ent) (x : Ent) (g : Nat) (hown : W.ownsRow base 42 5 v es.length (ints (entsNums es)))
  (hg : W.heap[g]? = some (.cells #[.int .i64 x.client, .int .i64 x.seq, .int .i64 x.kind, .int .i64 x.key, .int .i64 x.value] 42)) (hl : es.length ≤ 1000) (hb : base ≤ W.heap.size) :
  ∃ g' cap W',(∀ ty,(Builtin.append_ #[44,44] ty #[v, .slice (some ⟨g,0,none⟩) 1 1]).run Tryz.prog W = .ok (.slice (some ⟨g',0,none⟩) (es.length + 1) cap) W') ∧
   W'.ownsRow base 42 5 (.slice (some ⟨g',0,none⟩) (es.length + 1) cap) (es ++ [x]).length (ints (entsNums (es ++ [x]))) ∧ W.grownBy W' v.ownBlock ∧ (v.ownBlock = some g' ∨ g' = W.heap.size) := by
 obtain ⟨i0,hi,hz0,hz1,hz2⟩ := info_parts infoEnt
 have hA : ∀ ty, ∃ g' cap W',(Builtin.append_ #[44,44] ty #[v, .slice (some ⟨g,0,none⟩) 1 1]).run Tryz.prog W = .ok (.slice (some ⟨g',0,none⟩) (es.length + 1) cap) W' ∧
   W'.ownsRow base 42 5 (.slice (some ⟨g',0,none⟩) (es.length + 1) cap) (es ++ [x]).length (ints (entsNums (es ++ [x]))) ∧ W.grownBy W' v.ownBlock ∧ (v.ownBlock = some g' ∨ g' = W.heap.size) := fun ty => by
  obtain ⟨g',cap,W',hr,h2,h3,h4, -⟩ := run_append_lies (P := Tryz.prog) W 44 ty base 42 i0 _ 5 40 Tryz.underlying44 hi hz0 hz1 hz2 rfl (by decide) v es.length (ints (entsNums es)) hown ⟨g,0,none⟩ 1 1 (ints x.nums) rfl
   (World.news_of_block hg) (ints_one _) (by omega) (by unfold maxLen; omega) (by omega) hb _ rfl
  exact ⟨g',cap,W',hr,by rw [entsNums_append,entsNums_one,ints_append,List.length_append]; exact h2,h3,h4⟩
 obtain ⟨g',cap,W',hr,h2,h3,h4⟩ := hA 0
 refine ⟨g',cap,W',fun ty => ?_,h2,h3,h4⟩
 rw [← hr]
 rfl
theorem MsgsOwn.base {w : World} {base base' : Nat} {v : Value} {ms : List Msg} (h : MsgsOwn w base v ms) (hb : base' ≤ base) : MsgsOwn w base' v ms := by
 obtain ⟨ws,h1,h2,h3⟩ := h
 exact ⟨ws,h1,owns_base h2 hb,h3⟩
set_option maxRecDepth 100000 in
set_option maxHeartbeats 4000000 in
theorem put_any (b : Nat) (own : Int) (r : Rep) (vm vl : Value) (x : Ent) (w : World) (h : RepAt w b own r vm vl) (ok : RepOK r) (hlt : r.log.length < 24) (hcli : ∀ y ∈ r.log ++ [x],0 ≤ y.client ∧ y.client ≤ 3) :
  Calls Tryz.prog 278 #[.pointer (some ⟨b,0,none⟩),entV x] w fun e w' => RepOut w w' b own vm vl e (r.put own x) := by
 have mixed : Tryz.prog.follows Departure.mixedOrders = true := by kernel_rfl
 have hbl : b < w.heap.size := (Array.getElem?_eq_some_iff.1 h.blk).1
 have hm5 := ok.m
 have hcm := ok.c
 obtain ⟨al,cl,rfl⟩ := owns_shape h.hl
 obtain ⟨X,hX⟩ : ∃ X,X = ((w.alloc (.cells #[.int .i64 x.client, .int .i64 x.seq, .int .i64 x.kind, .int .i64 x.key, .int .i64 x.value] 42)).alloc (.cells #[.int .i64 x.client, .int .i64 x.seq, .int .i64 x.kind, .int .i64 x.key, .int .i64 x.value] 42)).drew := ⟨_,rfl⟩
 have hbX : Below w.heap.size w X := by rw [hX]; exact (((Below.refl _ w).alloc (Nat.le_refl _) _).alloc (by simp) _).drew
 have hsX : X.heap.size = w.heap.size + 2 := by rw [hX]; simp
 have hnX : X.heap[w.heap.size + 1]? = some (.cells #[.int .i64 x.client, .int .i64 x.seq, .int .i64 x.kind, .int .i64 x.key, .int .i64 x.value] 42) := by rw [hX]; exact heap_new2 _ _ _
 have hRX := h.below hbX
 obtain ⟨g',cap',W1,hrun,ho1,hg1,hwh⟩ := append_ent X 0 _ r.log x (w.heap.size + 1) hRX.hl hnX (by omega) (Nat.zero_le _)
 have nb : (Value.slice al r.log.length cl).ownBlock ≠ some b := blk_type h.blk h.hl (by decide)
 have hbW1 : W1.heap[b]? = some (.cells #[.int .i64 own, .int .i64 r.epoch, .int .i64 r.lock,vm, .slice al r.log.length cl, .int .i64 (r.base : Int), .int .i64 (r.commit : Int)] 219) := (hg1.block b (by omega) (fun e => nb e.symm)).trans hRX.blk
 have hmW1 : IntOwn W1 vm r.mems := by
  refine ⟨hRX.hm.1, ?_⟩
  rcases hRX.hm.2 with h0 | ⟨g,cap,cur,hv,hb,hgg,rest⟩
  ·exact .inl h0
  ·refine .inr ⟨g,cap,cur,hv,hb, ?_,rest⟩
   rw [hg1.block g (Array.getElem?_eq_some_iff.1 hgg).1 (fun e => owns_two hRX.hm hRX.hl (by decide) g (by rw [hv]; rfl) e.symm)]
   exact hgg
 have c4 : W1.cell? ⟨b,4,none⟩ = some (.slice al r.log.length cl) := cell_of_heap hbW1 4
 have f4 : W1.frozen? ⟨b,4,none⟩ = false := frozen_of_heap hbW1 4
 have RW1 : RepAt W1 b own r vm (.slice al r.log.length cl) → True := fun _ => trivial
 obtain ⟨W2,hW2⟩ : ∃ W2,W2 = W1.setCell ⟨b,4,none⟩ (.slice (some ⟨g',0,none⟩) (r.log.length + 1) cap') := ⟨_,rfl⟩
 have hl2 : (r.log ++ [x]).length = r.log.length + 1 := by simp
 have R2 : Hid (RepAt W2 b own { r with log := r.log ++ [x] } vm (.slice (some ⟨g',0,none⟩) (r.log.length + 1) cap')) := hideA (by
  rw [hW2]
  refine ⟨?_, ?_, ?_⟩
  ·rw [heap_setCell_same W1 b 4 _ _ _ hbW1]; rfl
  ·exact ownsRow_setCell_other hmW1 (blk_type hbW1 hmW1 (by decide)) _
  ·exact ownsRow_setCell_other ho1 (blk_type hbW1 ho1 (by decide)) _)
 have M2 : Hid (Moved w W2 (RepS b vm (.slice al r.log.length cl))) := hideA (by
  rw [hW2]
  refine Moved.setCell ?_ _ (.inl rfl) _
  exact ((Moved.refl w _).below hbX).grown hg1 (fun k _ e => .inr (.inr e)))
 have G2 : Hid (Grows w (.slice al r.log.length cl) (.slice (some ⟨g',0,none⟩) (r.log.length + 1) cap')) := hideA (by
  intro k hk
  have : g' = k := by simpa [Value.ownBlock] using hk
  subst this
  rcases hwh with h1 | h1
  ·exact .inl h1
  ·exact .inr (by omega))
 have Hput := hideA (show r.put own x = match nextOf r.mems own with
  | some nx => ({ r with log := r.log ++ [x] }, [Rep.forward { r with log := r.log ++ [x] } own nx r.log.length])
  | none => Rep.commitAll { r with log := r.log ++ [x] } own from rfl)
 have d4 : ∀ o,(w.alloc o).cell? ⟨b,4,none⟩ = some (.slice al r.log.length cl) := fun o => cell_later ((Below.refl _ w).alloc (Nat.le_refl _) o) (cell_of_heap h.blk 4)
 have hb2 : ∀ o o2,Below w.heap.size w ((w.alloc o).alloc o2) := fun o o2 => ((Below.refl _ w).alloc (Nat.le_refl _) o).alloc (by simp) o2
 have d4' : ∀ o o2,((w.alloc o).alloc o2).cell? ⟨b,4,none⟩ = some (.slice al r.log.length cl) := fun o o2 => cell_later (hb2 o o2) (cell_of_heap h.blk 4)
 rw [hX] at hrun
 clear hg1 hwh ho1 hbW1 hmW1 hnX hsX hRX hbX hX RW1
 unfold entV
 go_enter Tryz.func278,Tryz.ntmps278
 go_upto_region 1 with fail
 go_cut [7] (fun q wx => q = .pointer (some ⟨b,0,none⟩) ∧ wx = W2)
 case first =>
  go_region_law (first | (refine op_append rfl (.tmp 11) (.tmp 13) 44 rfl _ _ _ _ (by simp [Act.eval]) (by simp [Act.eval]) hrun ?_))
  all_goals
   go_wp2_with fail
   go_meet
  all_goals exact ⟨rfl,hW2.symm⟩
 case rest =>
  obtain ⟨rfl,hwx⟩ := hcut
  rw [hwx]
  clear hwx
  clear hrun c4 f4 hW2 d4 d4' hb2
  have ok2 : RepOK { r with log := r.log ++ [x] } := ⟨hm5,by show (r.log ++ [x]).length ≤ 24; omega,by show r.commit ≤ (r.log ++ [x]).length; omega⟩
  have hbh := behind_any b own _ vm _ W2 R2.out ok2
  have HM : ({ r with log := r.log ++ [x] } : Rep).mems = r.mems := rfl
  cases hnx : nextOf r.mems own with
  | none =>
   have hbh' : Calls Tryz.prog 270 #[.pointer (some ⟨b,0,none⟩)] W2 fun e w' => e = .returned (.tuple #[.int .i64 0, .bool false]) ∧ Below W2.heap.size W2 w' := by
    rw [HM,hnx] at hbh
    exact hbh
   have HP : Hid (r.put own x = Rep.commitAll { r with log := r.log ++ [x] } own) := hideA (by rw [Hput.out,hnx])
   clear hbh Hput
   go_wp2_with fail
   refine hbh'.mono ?_
   rintro e W3 ⟨rfl,hb3⟩
   clear hbh'
   go_wp2_with fail
   refine (callsIn_wide.1 (commitAll_in 6 (hideA (by omega)) b own _ vm _ W3 (R2.out.below hb3) ok2 hcli)).mono ?_
   rintro e W4 ⟨v,rfl,hto,hmo⟩
   obtain ⟨av,cv,hsh⟩ : ∃ a c,v = .slice a (Rep.commitAll { r with log := r.log ++ [x] } own).2.length c := by
    obtain ⟨ws, -,h2, -⟩ := hmo
    exact owns_shape h2
   subst hsh
   go_wp2_with fail
   go_ret
   have hm3 : Moved w W3 (RepS b vm (.slice al r.log.length cl)) := M2.out.below hb3
   refine ⟨_,rfl, ?_, ?_⟩
   ·rw [HP.out]
    exact RepTo.then hm3 (Grows.refl _ _) G2.out hto
   ·rw [HP.out]
    exact hmo.base (by have := hm3.size; omega)
  | some nx =>
   have hbh' : Calls Tryz.prog 270 #[.pointer (some ⟨b,0,none⟩)] W2 fun e w' => e = .returned (.tuple #[.int .i64 nx, .bool true]) ∧ Below W2.heap.size W2 w' := by
    rw [HM,hnx] at hbh
    exact hbh
   have HP : Hid (r.put own x = ({ r with log := r.log ++ [x] }, [Rep.forward { r with log := r.log ++ [x] } own nx r.log.length])) := hideA (by rw [Hput.out,hnx])
   clear hbh Hput
   go_wp2_with fail
   refine hbh'.mono ?_
   rintro e W3 ⟨rfl,hb3⟩
   clear hbh'
   have R3 := R2.out.below hb3
   have c4 : W3.cell? ⟨b,4,none⟩ = some (.slice (some ⟨g',0,none⟩) (r.log.length + 1) cap') := cell_of_heap R3.blk 4
   have hf := forward_any b own _ vm _ nx r.log.length W3 R3 ok2 (by show r.log.length < (r.log ++ [x]).length; omega)
   have Hmm : Hid ((Rep.forward { r with log := r.log ++ [x] } own nx r.log.length).mems = []) := hideA rfl
   generalize Rep.forward { r with log := r.log ++ [x] } own nx r.log.length = m at *
   unfold mval at hf
   clear R3
   go_wp2_with fail
   refine hf.mono ?_
   rintro e W4 ⟨vl',rfl,hlo,hb4⟩
   obtain ⟨a6,c6,rfl⟩ := owns_shape hlo
   go_wp2_with fail
   go_ret
   have hb34 := hb3.trans (hb4.mono hb3.size)
   have hb5 : Below W2.heap.size W2 (W4.alloc (.cells (mcells (m, .slice none 0 0, .slice a6 m.log.length c6)).toArray 134)) := hb34.alloc hb34.size _
   refine ⟨_,rfl, ?_, ?_⟩
   ·rw [HP.out]
    exact RepTo.then M2.out (Grows.refl _ _) G2.out (RepTo.still R2.out hb5)
   ·rw [HP.out]
    exact MsgsOwn.one m _ _ (heap_new _ _) (by have := M2.out.size; have := hb34.size; omega) (by rw [Hmm.out]; exact IntOwn.nil _) (hlo.alloc _)
theorem RepOut.still {w w' : World} {b : Nat} {own : Int} {r : Rep} {vm vl : Value} (h : RepAt w b own r vm vl) (hb : Below w.heap.size w w') : RepOut w w' b own vm vl (.returned (.slice none 0 0)) (r, []) :=
 ⟨_,rfl,RepTo.still h hb,MsgsOwn.nil _ _⟩
theorem MsgsOwn.shape {w : World} {base : Nat} {v : Value} {ms : List Msg} (h : MsgsOwn w base v ms) : ∃ a c,v = .slice a ms.length c := by
 obtain ⟨ws, -,h2, -⟩ := h
 exact owns_shape h2
theorem msg_box (w : World) (m : Msg) (mm ml : Value) : ∃ X,w.alloc (.cells #[.int .i64 m.kind, .int .i64 m.src, .int .i64 m.dst, .int .i64 m.epoch, .int .i64 m.ballot, .int .i64 m.vote, .int .i64 m.pos, .int .i64 m.value,mm,ml] 134) = X ∧ Below w.heap.size w X ∧ X.heap[w.heap.size]? = some (.cells #[.int .i64 m.kind, .int .i64 m.src, .int .i64 m.dst, .int .i64 m.epoch, .int .i64 m.ballot, .int .i64 m.vote, .int .i64 m.pos, .int .i64 m.value,mm,ml] 134) :=
 ⟨_,rfl,(Below.refl _ w).alloc (Nat.le_refl _) _,heap_new _ _⟩
set_option maxRecDepth 100000 in
set_option maxHeartbeats 600000 in
theorem takeAck_any (b : Nat) (own : Int) (r : Rep) (vm vl : Value) (m : Msg) (mm ml : Value) (w : World) (h : RepAt w b own r vm vl) (ok : RepOK r) :
  Calls Tryz.prog 267 #[.pointer (some ⟨b,0,none⟩),mval m mm ml] w fun e w' => RepOut w w' b own vm vl e (r.takeAck own m) := by
 have HT : Hid (r.takeAck own m = if r.live own ∧ nextOf r.mems own = some m.src ∧ m.epoch = r.epoch ∧ (r.commit : Int) < m.pos ∧ m.pos ≤ r.log.length then
  ({ r with commit := m.pos.toNat },Rep.acks { r with commit := m.pos.toNat } own) else (r, [])) := hideA rfl
 have hbl : b < w.heap.size := (Array.getElem?_eq_some_iff.1 h.blk).1
 have HOF : Hid (∀ W,Below w.heap.size w W → Calls Tryz.prog 276 #[.pointer (some ⟨b,0,none⟩), .agg #[.int .i64 m.kind, .int .i64 m.src, .int .i64 m.dst, .int .i64 m.epoch, .int .i64 m.ballot, .int .i64 m.vote, .int .i64 m.pos, .int .i64 m.value,mm,ml]] W fun e w' => e = .returned (.bool (r.live own && decide (m.epoch = r.epoch))) ∧ Below W.heap.size W w') := hideA fun W hb => isOfNow_any b own r vm vl m mm ml W (h.below hb) ok
 have HB1 : Hid (∀ W,Below w.heap.size w W → Calls Tryz.prog 270 #[.pointer (some ⟨b,0,none⟩)] W fun e w' => e = .returned (.tuple #[.int .i64 ((nextOf r.mems own).getD 0), .bool (nextOf r.mems own).isSome]) ∧ Below W.heap.size W w') := hideA fun W hb => behind_any b own r vm vl W (h.below hb) ok
 have HR := hideA h
 have HO := hideA ok
 clear h ok
 unfold mval
 go_enter Tryz.func267,Tryz.ntmps267
 go_wp2_with fail
 obtain ⟨X,hX,hbX,hBX⟩ := msg_box w m mm ml
 rw [hX]
 clear hX
 refine (HB1.out _ hbX).mono ?_
 rintro e W2 ⟨rfl,hb2⟩
 have hb2' := hbX.trans (hb2.mono hbX.size)
 have hB2 := hideA ((hb2.block _ (Array.getElem?_eq_some_iff.1 hBX).1).trans hBX)
 clear hBX hb2 hbX
 cases hnx : nextOf r.mems own with
 | none =>
  have HN : Hid (r.takeAck own m = (r, [])) := hideA (by rw [HT.out,if_neg]; rintro ⟨-,h2, -⟩; rw [hnx] at h2; cases h2)
  go_wp2_with fail
  go_ret
  rw [HN.out]
  exact RepOut.still HR.out hb2'
 | some nx =>
  have Hnx := hideA hnx
  clear hnx
  have g0 := cell_of_heap hB2.out 0
  have g1 := cell_of_heap hB2.out 1
  have g2 := cell_of_heap hB2.out 2
  have g3 := cell_of_heap hB2.out 3
  have g4 := cell_of_heap hB2.out 4
  have g5 := cell_of_heap hB2.out 5
  have g6 := cell_of_heap hB2.out 6
  have g7 := cell_of_heap hB2.out 7
  have g8 := cell_of_heap hB2.out 8
  have g9 := cell_of_heap hB2.out 9
  cases hsd : (m.src != nx) with
  | true =>
   have HN : Hid (r.takeAck own m = (r, [])) := hideA (by rw [HT.out,if_neg]; rintro ⟨-,h2, -⟩; rw [Hnx.out] at h2; injection h2 with h2; rw [h2] at hsd; simp at hsd)
   go_wp2_with fail
   go_ret
   rw [HN.out]
   exact RepOut.still HR.out hb2'
  | false =>
   have Hsrc : Hid (m.src = nx) := hideA (by simpa using hsd)
   go_wp2_with fail
   refine (HOF.out _ hb2').mono ?_
   rintro e W3 ⟨rfl,hb3⟩
   have hb3' := hb2'.trans (hb3.mono hb2'.size)
   have hB3 := hideA ((hb3.block _ (Array.getElem?_eq_some_iff.1 hB2.out).1).trans hB2.out)
   clear g0 g1 g2 g3 g4 g5 g6 g7 g8 g9 hb3 hb2' hB2 hsd
   cases hnow : (r.live own && decide (m.epoch = r.epoch)) with
   | false =>
    have HN : Hid (r.takeAck own m = (r, [])) := hideA (by rw [HT.out,if_neg]; rintro ⟨h1, -,h2, -⟩; rw [h1,h2] at hnow; simp at hnow)
    clear hnow
    go_wp2_with fail
    go_ret
    rw [HN.out]
    exact RepOut.still HR.out hb3'
   | true =>
    have Hno : Hid (r.live own = true ∧ m.epoch = r.epoch) := hideA (by simpa using hnow)
    clear hnow
    have R3 := hideA (HR.out.below hb3')
    obtain ⟨al,cl,hvl⟩ := owns_shape HR.out.hl
    have g6 := cell_of_heap hB3.out 6
    have c6 : W3.cell? ⟨b,6,none⟩ = some (.int .i64 (r.commit : Int)) := cell_of_heap R3.out.blk 6
    have c4 : W3.cell? ⟨b,4,none⟩ = some (.slice al r.log.length cl) := by rw [← hvl]; exact cell_of_heap R3.out.blk 4
    have f6 : W3.frozen? ⟨b,6,none⟩ = false := frozen_of_heap R3.out.blk 6
    have Hvl := hideA hvl
    clear hvl
    by_cases hp1 : m.pos ≤ (r.commit : Int)
    ·have HN : Hid (r.takeAck own m = (r, [])) := hideA (by rw [HT.out,if_neg]; rintro ⟨-, -, -,h3, -⟩; omega)
     go_wp2_with fail
     go_quiet (fail)
     go_wp2_with fail
     go_ret
     rw [HN.out]
     exact RepOut.still HR.out (below_drewN hb3' _)
    ·have hp1d : decide (m.pos ≤ (r.commit : Int)) = false := decide_eq_false hp1
     by_cases hp2 : (r.log.length : Int) < m.pos
     ·have HN : Hid (r.takeAck own m = (r, [])) := hideA (by rw [HT.out,if_neg]; rintro ⟨-, -, -, -,h3⟩; omega)
      go_wp2_with fail
      go_quiet (fail)
      go_wp2_with fail
      go_ret
      rw [HN.out]
      exact RepOut.still HR.out (below_drewN hb3' _)
     ·have hp2d : decide ((r.log.length : Int) < m.pos) = false := decide_eq_false hp2
      obtain ⟨P,hP⟩ : ∃ P : Nat,m.pos = P := ⟨m.pos.toNat,by omega⟩
      have HN : Hid (r.takeAck own m = ({ r with commit := P },Rep.acks { r with commit := P } own)) := hideA (by
       rw [HT.out,if_pos ⟨Hno.out.1,by rw [Hnx.out,Hsrc.out],Hno.out.2,by omega,by omega⟩,hP]
       rfl)
      have HP := hideA hP
      have HPl : Hid (P ≤ r.log.length) := hideA (by omega)
      clear hP
      go_wp2_with fail
      go_quiet (fail)
      go_wp2_with fail
      rw [HP.out]
      have R4 : RepAt ((W3.drewN nq).setCell ⟨b,6,none⟩ (.int .i64 (P : Int))) b own { r with commit := P } vm vl := by
       have R3' := R3.out.below (below_drewN (Below.refl _ W3) nq)
       exact R3'.set 6 _ { r with commit := P } vm vl rfl R3'.hm R3'.hl
      have M4 : Moved w ((W3.drewN nq).setCell ⟨b,6,none⟩ (.int .i64 (P : Int))) (RepS b vm vl) := ((Moved.refl w _).below (below_drewN hb3' nq)).setCell ⟨b,6,none⟩ (.inl rfl) _
      refine (ackAhead_any b own { r with commit := P } vm vl _ R4 ⟨HO.out.m,HO.out.l,HPl.out⟩).mono ?_
      rintro e W5 ⟨v,rfl,hmo,hb5⟩
      obtain ⟨av,cv,rfl⟩ := hmo.shape
      go_wp2_with fail
      go_ret
      rw [HN.out]
      exact ⟨_,rfl,RepTo.then M4 (Grows.refl _ _) (Grows.refl _ _) (RepTo.still R4 hb5),hmo.base M4.size⟩
def ListIn (w : World) (v : Value) (l : List Int) : Prop := IntsAt w v l ∧ ∃ a c,v = .slice a l.length c ∧ l.length ≤ c
theorem head_at {w : World} {a : Option Addr} {c : Nat} {l : List Int} (h : IntsAt w (.slice a l.length c) l) (k : Nat) (hk : k ≤ l.length) : IntsAt w (.slice a k c) (l.take k) := by
 obtain ⟨a',c',e,hc⟩ := h
 cases e
 refine ⟨a,c,by rw [List.length_take,Nat.min_eq_left hk],fun i hi => ?_⟩
 rw [List.length_take,Nat.min_eq_left hk] at hi
 obtain ⟨b,off,rfl,h1⟩ := hc i (by omega)
 refine ⟨b,off,rfl, ?_⟩
 rw [List.getD_eq_getElem?_getD,List.getElem?_take_of_lt hi, ← List.getD_eq_getElem?_getD]
 exact h1
theorem memsOk_no {l : List Int} {n : Nat} (h : ¬ (∀ x ∈ l,0 ≤ x ∧ x < (n : Int)) ∨ ¬ l.Nodup ∨ l = []) : memsOk l n = false := by
 cases hm : memsOk l n with
 | false => rfl
 | true =>
  obtain ⟨h1,h2,h3⟩ := (memsOk_iff _ _).1 hm
  rcases h with h | h | h
  ·exact absurd h1 h
  ·exact absurd h2 h
  ·exact absurd h h3
theorem getD_mem_at {l : List Int} {k : Nat} (hk : k < l.length) : l.getD k 0 ∈ l := by
 rw [List.getD_eq_getElem?_getD,List.getElem?_eq_getElem hk]
 exact List.getElem_mem hk
theorem not_nodup_at {l : List Int} {k : Nat} (hk : k < l.length) (h : l.getD k 0 ∈ l.take k) : ¬ l.Nodup := by
 intro hnd
 rw [List.mem_take_iff_getElem] at h
 obtain ⟨i,hi,e⟩ := h
 have h1 : l[i]? = some (l.getD k 0) := by rw [List.getElem?_eq_getElem (by omega),e]
 have h2 : l[k]? = some (l.getD k 0) := by rw [List.getD_eq_getElem?_getD,List.getElem?_eq_getElem hk]; rfl
 have := nodup_at hnd h1 h2
 omega
set_option maxRecDepth 100000 in
set_option maxHeartbeats 1000000 in
theorem areMembers_any (v : Value) (l : List Int) (n : Nat) (w : World) (hv : ListIn w v l) (hl : l.length ≤ 1000000) :
  Calls Tryz.prog 66 #[v, .int .i64 (n : Int)] w fun e w' => e = .returned (.bool (memsOk l n)) ∧ w' = w := by
 obtain ⟨hI,a,c,rfl,hcap⟩ := hv
 have HH : Hid (∀ k,k ≤ l.length → ∀ y,Calls Tryz.prog 121 #[.slice a k c, .int .i64 y] w fun e w' => e = .returned (.bool (decide (y ∈ l.take k))) ∧ w' = w) := hideA fun k hk y => contains_ints _ (l.take k) y w (head_at hI k hk) (by rw [List.length_take]; omega)
 obtain ⟨a',c',e,hc⟩ := hI
 cases e
 have Hc := hideA hc
 clear hc
 by_cases h0 : l.length < 1
 ·have HV : Hid (memsOk l n = false) := hideA (memsOk_no (.inr (.inr (List.eq_nil_of_length_eq_zero (by omega)))))
  have h0' : (l.length : Int) < 1 := by omega
  go_enter Tryz.func66,Tryz.ntmps66
  go_wp2_with fail
  go_ret
  exact ⟨by rw [HV.out]; rfl,rfl⟩
 ·have h0' : ¬ (l.length : Int) < 1 := by omega
  by_cases h1 : n < l.length
  ·have HV : Hid (memsOk l n = false) := hideA (by
    cases hm : memsOk l n with
    | false => rfl
    | true => have := memsOk_length hm; omega)
   have h1' : (n : Int) < (l.length : Int) := by omega
   go_enter Tryz.func66,Tryz.ntmps66
   go_wp2_with fail
   go_ret
   exact ⟨by rw [HV.out]; rfl,rfl⟩
  ·have h1' : ¬ (n : Int) < (l.length : Int) := by omega
   go_enter Tryz.func66,Tryz.ntmps66
   go_wp2_with fail
   go_loopw [18] (fun i wr => ∃ k : Nat,k ≤ l.length ∧ i = .int .i64 k ∧ wr = w ∧ (∀ y ∈ l.take k,0 ≤ y ∧ y < (n : Int)) ∧ (l.take k).Nodup) (fun i _ => l.length - (intOf i).toNat)
   case atStart => exact ⟨0,Nat.zero_le _,rfl,rfl,by simp,by simp⟩
   case round =>
    obtain ⟨k,hk,rfl,rfl,hr,hnd⟩ := hrel
    by_cases hlt : k < l.length
    ·obtain ⟨b,off,rfl,ck⟩ := Hc.out k hlt
     have hk1 : (k : Int) < (l.length : Int) := by omega
     have hkc : k ≤ c := by omega
     have ht : Hid (l.take (k + 1) = l.take k ++ [l.getD k 0]) := take_snoc_ints l k hlt
     have hmem := hideA (getD_mem_at hlt)
     have hnn := hideA (fun h => not_nodup_at hlt h)
     have HHk := hideA (fun y => HH.out k hk y)
     have HR := hideA (And.intro hr hnd)
     clear hr hnd
     generalize l.getD k 0 = y at *
     by_cases hy0 : y < 0
     ·have HV : Hid (memsOk l n = false) := hideA (memsOk_no (.inl fun h => by have := h y hmem.out; omega))
      go_wp2_with fail
      go_ret
      exact ⟨by rw [HV.out]; rfl,rfl⟩
     ·by_cases hyn : (n : Int) ≤ y
      ·have HV : Hid (memsOk l n = false) := hideA (memsOk_no (.inl fun h => by have := h y hmem.out; omega))
       go_wp2_with fail
       go_ret
       exact ⟨by rw [HV.out]; rfl,rfl⟩
      ·go_wp2_with fail
       refine (HHk.out y).mono ?_
       rintro e w9 ⟨rfl,rfl⟩
       by_cases hin : y ∈ l.take k
       ·have HV : Hid (memsOk l n = false) := hideA (memsOk_no (.inr (.inl (hnn.out hin))))
        have hd : decide (y ∈ l.take k) = true := by simp [hin]
        rw [hd]
        clear hd
        have HIN := hideA hin
        clear hin
        go_wp2_with fail
        go_ret
        exact ⟨by rw [HV.out]; rfl,rfl⟩
       ·have hd : decide (y ∈ l.take k) = false := by simp [hin]
        rw [hd]
        clear hd
        have HIN := hideA hin
        clear hin
        go_wp2_with fail
        go_roundw
        case rel =>
         refine ⟨k + 1,by omega,by go_num,by trivial, ?_, ?_⟩
         ·rw [ht.out]
          intro z hz
          rcases List.mem_append.1 hz with h | h
          ·exact HR.out.1 z h
          ·rw [List.mem_singleton] at h
           subst h
           omega
         ·rw [ht.out,List.nodup_append]
          refine ⟨HR.out.2,by simp, ?_⟩
          intro z hz z' hz' e
          rw [List.mem_singleton] at hz'
          subst hz'
          exact HIN.out (e ▸ hz)
        case measure => simp [intOf]; omega
    ·obtain rfl : k = l.length := by omega
     have HV : Hid (memsOk l n = true) := hideA ((memsOk_iff _ _).2 ⟨by rwa [List.take_length] at hr,by rwa [List.take_length] at hnd,fun e => by rw [e] at h0; simp at h0⟩)
     clear hr hnd
     go_wp2_with fail
     go_ret
     exact ⟨by rw [HV.out]; rfl,rfl⟩
end Go.Proofs.YtgieeeeeiggoeaaGreat
namespace Go.Proofs.YtgieeeeeiggoeaaGreat
open Go.RowKit
def POK (c : Clu) : Prop := (∃ E g,Good c E g) ∧ c.told.length ≤ 2999999999999
def After (At : World → (Nat → Prop) → Nat → Clu → Prop) (w : World) (F : Nat → Prop) (x : Nat) (c' : Clu) (w' : World) : Prop :=
 ∃ F',At w' F' x c' ∧ Moved w w' F ∧ ∀ k,F' k → F k ∨ w.heap.size ≤ k
structure Api (At : World → (Nat → Prop) → Nat → Clu → Prop) : Prop where
 keep : ∀ {w w' : World} {F : Nat → Prop} {x : Nat} {c : Clu},At w F x c → (∀ k,F k → w'.heap[k]? = w.heap[k]?) → At w' F x c
 lt : ∀ {w : World} {F : Nat → Prop} {x : Nat} {c : Clu} {k : Nat},At w F x c → F k → k < w.heap.size
 new : ∀ (n : Nat) (w : World),1 ≤ n → n ≤ 5 → Calls Tryz.prog 26 #[.agg #[.int .i64 (n : Int)]] w fun e w' => ∃ x F,e = .returned (.tuple #[.pointer (some ⟨x,0,none⟩), .int .i64 0]) ∧ At w' F x (Clu.first n) ∧ (∀ k,F k → w.heap.size ≤ k) ∧ Below w.heap.size w w'
 ask : ∀ {w : World} {F : Nat → Prop} {x : Nat} {c : Clu} (d : Int) (e : Ent),At w F x c → POK c → Calls Tryz.prog 28 #[.pointer (some ⟨x,0,none⟩), .int .i64 d,e.val] w fun r w' => r = .returned (.int .i64 (c.ask d e).2) ∧ After At w F x (c.ask d e).1 w'
 change : ∀ {w : World} {F : Nat → Prop} {x : Nat} {c : Clu} (d : Int) (v : Value) (l : List Int),At w F x c → POK c → ListIn w v l → l.length ≤ 1000000 → (∀ k,v.ownBlock = some k → ¬ F k) → Calls Tryz.prog 18 #[.pointer (some ⟨x,0,none⟩), .int .i64 d,v] w fun r w' => r = .returned (.int .i64 (c.change d l).2) ∧ After At w F x (c.change d l).1 w'
 tick : ∀ {w : World} {F : Nat → Prop} {x : Nat} {c : Clu} (d : Int),At w F x c → POK c → Calls Tryz.prog 73 #[.pointer (some ⟨x,0,none⟩), .int .i64 d] w fun r w' => r = .returned (.int .i64 (c.tick d).2) ∧ After At w F x (c.tick d).1 w'
 deliver : ∀ {w : World} {F : Nat → Prop} {x : Nat} {c : Clu} (d : Int),At w F x c → POK c → Calls Tryz.prog 31 #[.pointer (some ⟨x,0,none⟩), .int .i64 d] w fun r w' => r = .returned (.int .i64 (c.deliver d).2) ∧ After At w F x (c.deliver d).1 w'
 drop : ∀ {w : World} {F : Nat → Prop} {x : Nat} {c : Clu} (d : Int),At w F x c → POK c → Calls Tryz.prog 78 #[.pointer (some ⟨x,0,none⟩), .int .i64 d] w fun r w' => r = .returned (.int .i64 (c.drop d).2) ∧ After At w F x (c.drop d).1 w'
 double : ∀ {w : World} {F : Nat → Prop} {x : Nat} {c : Clu} (d : Int),At w F x c → POK c → Calls Tryz.prog 79 #[.pointer (some ⟨x,0,none⟩), .int .i64 d] w fun r w' => r = .returned (.int .i64 (c.double d).2) ∧ After At w F x (c.double d).1 w'
 crash : ∀ {w : World} {F : Nat → Prop} {x : Nat} {c : Clu} (d : Int),At w F x c → POK c → Calls Tryz.prog 75 #[.pointer (some ⟨x,0,none⟩), .int .i64 d] w fun r w' => r = .returned (.int .i64 (c.crash d).2) ∧ After At w F x (c.crash d).1 w'
 restart : ∀ {w : World} {F : Nat → Prop} {x : Nat} {c : Clu} (d : Int),At w F x c → POK c → Calls Tryz.prog 76 #[.pointer (some ⟨x,0,none⟩), .int .i64 d] w fun r w' => r = .returned (.int .i64 (c.restart d).2) ∧ After At w F x (c.restart d).1 w'
 bag : ∀ {w : World} {F : Nat → Prop} {x : Nat} {c : Clu},At w F x c → POK c → Calls Tryz.prog 61 #[.pointer (some ⟨x,0,none⟩)] w fun r w' => ∃ v,r = .returned v ∧ w'.ownsRow w.heap.size 9 1 v c.bag.length (c.bag.map (fun f => Value.string (bs f.1))) ∧ Below w.heap.size w w'
 status : ∀ {w : World} {F : Nat → Prop} {x : Nat} {c : Clu} (d : Int),At w F x c → POK c → c.isRep d → Calls Tryz.prog 54 #[.pointer (some ⟨x,0,none⟩), .int .i64 d] w fun r w' => ∃ vm vl,r = .returned (.tuple #[.agg #[.bool (c.rep d).up, .int .i64 (c.rep d).epoch, .int .i64 (c.rep d).lock, .int .i64 ((c.rep d).commit : Int),vm,vl], .int .i64 0]) ∧
   w'.ownsRow w.heap.size 3 1 vm (c.rep d).mems.length (ints (c.rep d).mems) ∧ w'.ownsRow w.heap.size 42 5 vl (c.rep d).log.length (ints (entsNums (c.rep d).log)) ∧ Below w.heap.size w w'
 answers : ∀ {w : World} {F : Nat → Prop} {x : Nat} {c : Clu},At w F x c → POK c → Calls Tryz.prog 103 #[.pointer (some ⟨x,0,none⟩)] w fun r w' => ∃ v,r = .returned v ∧ w'.ownsRow w.heap.size 113 3 v c.told.length (ints (ansNums c.told)) ∧ Below w.heap.size w w'
theorem ansAt_of {w : World} {base : Nat} {v : Value} {l : List Ans} (h : w.ownsRow base 113 3 v l.length (ints (ansNums l))) : ∃ a c,v = .slice a l.length c ∧ AnsAt w a l := by
 obtain ⟨a,c,rfl⟩ := owns_shape h
 refine ⟨a,c,rfl, ?_⟩
 intro i x hx
 have hi := (List.getElem?_eq_some_iff.1 hx).1
 obtain ⟨g,cap,hv,_,_⟩ := h.form (by omega)
 cases hv
 have at_ : ∀ j,j < 3 → ∀ z,x.nums[j]? = some z → w.cell? ⟨g,i * 3 + j,none⟩ = some (.int .i64 z) := by
  intro j hj z hz
  rw [World.ownsRow.cellAt h (i * 3 + j) (by omega)]
  unfold ints
  rw [List.getElem?_map,ansNums_at l i j x hx hj,hz]
  rfl
 exact ⟨g,rfl,at_ 0 (by omega) _ rfl,at_ 1 (by omega) _ rfl,at_ 2 (by omega) _ rfl⟩
end Go.Proofs.YtgieeeeeiggoeaaGreat
