import Derived.Test.YtgieeeeeiggoeaaGreatQ29
import Derived.Test.YtgieeeeeiggoeaaGreatQ12
namespace Go.Proofs.YtgieeeeeiggoeaaGreat
open Go.RowKit Go.Shelf
theorem accTake_eq (a : Acc) (own : Int) (m : Msg) (hd : m.dst = own) : a.take m = if m.kind = 5 then (a, [{ kind := 6,src := own,dst := m.src,epoch := a.epoch,ballot := m.ballot,mems := a.mems }]) else if m.kind = 9 then a.takePrepare own m else if m.kind = 11 then a.takeAccept own m else if m.kind = 15 then a.takeWrite own m else (a, []) := by
 subst hd
 rfl
theorem AccOut.before {w W w' : World} {F : Nat → Prop} {b : Nat} {own : Int} {e : Ending} {p : Acc × List Msg} (hb : Below w.heap.size w W) (h : AccOut W w' F b own e p) : AccOut w w' F b own e p := by
 obtain ⟨v,F',rfl,h1,h2,h3,h4⟩ := h
 refine ⟨v,F',rfl,h1,⟨h2.os.trans hb.os,h2.tape.trans hb.tape,h2.output.trans hb.output,Nat.le_trans hb.size h2.size,fun k hk hF => (h2.block k (Nat.lt_of_lt_of_le hk hb.size) hF).trans (hb.block k hk)⟩,fun k hk => ?_,h4.base hb.size⟩
 rcases h3 k hk with h | h
 ·exact .inl h
 ·exact .inr (Nat.le_trans hb.size h)
theorem AccAt.below {w w' : World} {F : Nat → Prop} {b : Nat} {own : Int} {a : Acc} (h : AccAt w F b own a) (hb : Below w.heap.size w w') : AccAt w' F b own a := by
 obtain ⟨vm,g,l,h⟩ := h
 exact ⟨vm,g,l,h.below hb⟩
set_option maxRecDepth 100000 in
set_option maxHeartbeats 1000000 in
theorem accTake_any (F : Nat → Prop) (b : Nat) (own : Int) (a : Acc) (m : Msg) (mm ml : Value) (w : World) (h : AccAt w F b own a) (ok : AccOK a) (h1 : IntOwn w mm m.mems) (h2 : LogOwn w ml m.log) (hm1 : m.mems.length ≤ 5) (hm2 : m.log.length ≤ 24) (hd : m.dst = own) :
  Calls Tryz.prog 250 #[.pointer (some ⟨b,0,none⟩),mval m mm ml] w fun e w' => AccOut w w' F b own e (a.take m) := by
 have HT := hideA (accTake_eq a own m hd)
 have HK : ∀ W,Below w.heap.size w W → AccAt W F b own a ∧ IntOwn W mm m.mems ∧ LogOwn W ml m.log := fun W hb => ⟨h.below hb,owns_kept h1 fun k _ hk => hb.block k hk,owns_kept h2 fun k _ hk => hb.block k hk⟩
 have HA := hideA h
 have K5 : Hid (∀ W,Below w.heap.size w W → Calls Tryz.prog 252 #[.pointer (some ⟨b,0,none⟩), .agg #[.int .i64 m.kind, .int .i64 m.src, .int .i64 m.dst, .int .i64 m.epoch, .int .i64 m.ballot, .int .i64 m.vote, .int .i64 m.pos, .int .i64 m.value,mm,ml]] W fun e w' => AccOut W w' F b own e (a, [{ kind := 6,src := own,dst := m.src,epoch := a.epoch,ballot := m.ballot,mems := a.mems }])) := hideA fun W hb => takeRead_any F b own a m mm ml W (HK W hb).1 ok
 have K9 : Hid (∀ W,Below w.heap.size w W → Calls Tryz.prog 253 #[.pointer (some ⟨b,0,none⟩), .agg #[.int .i64 m.kind, .int .i64 m.src, .int .i64 m.dst, .int .i64 m.epoch, .int .i64 m.ballot, .int .i64 m.vote, .int .i64 m.pos, .int .i64 m.value,mm,ml]] W fun e w' => AccOut W w' F b own e (a.takePrepare own m)) := hideA fun W hb => takePrepare_any F b own a m mm ml W (HK W hb).1 ok
 have K11 : Hid (∀ W,Below w.heap.size w W → Calls Tryz.prog 254 #[.pointer (some ⟨b,0,none⟩), .agg #[.int .i64 m.kind, .int .i64 m.src, .int .i64 m.dst, .int .i64 m.epoch, .int .i64 m.ballot, .int .i64 m.vote, .int .i64 m.pos, .int .i64 m.value,mm,ml]] W fun e w' => AccOut W w' F b own e (a.takeAccept own m)) := hideA fun W hb => takeAccept_any F b own a m mm ml W (HK W hb).1 (HK W hb).2.1 (HK W hb).2.2 hm1 hm2
 have K15 : Hid (∀ W,Below w.heap.size w W → Calls Tryz.prog 255 #[.pointer (some ⟨b,0,none⟩), .agg #[.int .i64 m.kind, .int .i64 m.src, .int .i64 m.dst, .int .i64 m.epoch, .int .i64 m.ballot, .int .i64 m.vote, .int .i64 m.pos, .int .i64 m.value,mm,ml]] W fun e w' => AccOut W w' F b own e (a.takeWrite own m)) := hideA fun W hb => takeWrite_any F b own a m mm ml W (HK W hb).1 (HK W hb).2.1 hm1
 clear h ok h1 h2 HK hd
 unfold mval
 go_enter Tryz.func250,Tryz.ntmps250
 go_upto_region 1 with fail
 obtain ⟨X,hX,hbX,hBX⟩ := msg_box w m mm ml
 rw [hX]
 clear hX
 have g0 := cell_of_heap hBX 0
 have g1 := cell_of_heap hBX 1
 have g2 := cell_of_heap hBX 2
 have g3 := cell_of_heap hBX 3
 have g4 := cell_of_heap hBX 4
 have g5 := cell_of_heap hBX 5
 have g6 := cell_of_heap hBX 6
 have g7 := cell_of_heap hBX 7
 have g8 := cell_of_heap hBX 8
 have g9 := cell_of_heap hBX 9
 cases t5 : (m.kind == 5) with
 | true =>
  have P5 : Hid (m.kind = 5) := hideA (by simpa using t5)
  have HN : Hid (a.take m = (a, [{ kind := 6,src := own,dst := m.src,epoch := a.epoch,ballot := m.ballot,mems := a.mems }])) := hideA (by rw [HT.out,if_pos P5.out])
  go_wp2_with fail
  refine (K5.out _ hbX).mono ?_
  rintro e Z ⟨v,F',rfl,hA,hM,hFF,hmo⟩
  obtain ⟨av,cv,hsh⟩ := hmo.shape
  subst hsh
  go_wp2_with fail
  go_ret
  rw [HN.out]
  exact AccOut.before hbX ⟨_,F',rfl,hA,hM,hFF,hmo⟩
 | false =>
  have N5 : Hid (¬ m.kind = 5) := hideA (by simpa using t5)
  cases t9 : (m.kind == 9) with
  | true =>
   have P9 : Hid (m.kind = 9) := hideA (by simpa using t9)
   have HN : Hid (a.take m = a.takePrepare own m) := hideA (by rw [HT.out,if_neg N5.out,if_pos P9.out])
   go_wp2_with fail
   refine (K9.out _ hbX).mono ?_
   rintro e Z ⟨v,F',rfl,hA,hM,hFF,hmo⟩
   obtain ⟨av,cv,hsh⟩ := hmo.shape
   subst hsh
   generalize hpl : (a.takePrepare own m).2.length = pl at *
   go_wp2_with fail
   go_ret
   rw [HN.out]
   exact AccOut.before hbX ⟨_,F',rfl,hA,hM,hFF,hmo⟩
  | false =>
   have N9 : Hid (¬ m.kind = 9) := hideA (by simpa using t9)
   cases t11 : (m.kind == 11) with
   | true =>
    have P11 : Hid (m.kind = 11) := hideA (by simpa using t11)
    have HN : Hid (a.take m = a.takeAccept own m) := hideA (by rw [HT.out,if_neg N5.out,if_neg N9.out,if_pos P11.out])
    go_wp2_with fail
    refine (K11.out _ hbX).mono ?_
    rintro e Z ⟨v,F',rfl,hA,hM,hFF,hmo⟩
    obtain ⟨av,cv,hsh⟩ := hmo.shape
    subst hsh
    generalize hpl : (a.takeAccept own m).2.length = pl at *
    go_wp2_with fail
    go_ret
    rw [HN.out]
    exact AccOut.before hbX ⟨_,F',rfl,hA,hM,hFF,hmo⟩
   | false =>
    have N11 : Hid (¬ m.kind = 11) := hideA (by simpa using t11)
    cases t15 : (m.kind == 15) with
    | true =>
     have P15 : Hid (m.kind = 15) := hideA (by simpa using t15)
     have HN : Hid (a.take m = a.takeWrite own m) := hideA (by rw [HT.out,if_neg N5.out,if_neg N9.out,if_neg N11.out,if_pos P15.out])
     go_wp2_with fail
     refine (K15.out _ hbX).mono ?_
     rintro e Z ⟨v,F',rfl,hA,hM,hFF,hmo⟩
     obtain ⟨av,cv,hsh⟩ := hmo.shape
     subst hsh
     generalize hpl : (a.takeWrite own m).2.length = pl at *
     go_wp2_with fail
     go_ret
     rw [HN.out]
     exact AccOut.before hbX ⟨_,F',rfl,hA,hM,hFF,hmo⟩
    | false =>
     have N15 : Hid (¬ m.kind = 15) := hideA (by simpa using t15)
     have HN : Hid (a.take m = (a, [])) := hideA (by rw [HT.out,if_neg N5.out,if_neg N9.out,if_neg N11.out,if_neg N15.out])
     go_wp2_with fail
     go_ret
     rw [HN.out]
     exact AccOut.still HA.out hbX (MsgsOwn.nil _ _)
set_option maxRecDepth 100000 in
theorem accTick_any (F : Nat → Prop) (b : Nat) (own : Int) (a : Acc) (w : World) (h : AccAt w F b own a) :
  Calls Tryz.prog 251 #[.pointer (some ⟨b,0,none⟩)] w fun e w' => AccOut w w' F b own e (a, []) := by
 have HA := hideA h
 clear h
 go_enter Tryz.func251,Tryz.ntmps251
 go_wp2_with fail
 go_ret
 exact AccOut.still HA.out (Below.refl _ _) (MsgsOwn.nil _ _)
set_option maxRecDepth 100000 in
theorem accCrash_any (b : Nat) (w : World) : Calls Tryz.prog 248 #[.pointer (some ⟨b,0,none⟩)] w fun e w' => (∃ v,e = .returned v) ∧ w' = w := by
 go_enter Tryz.func248,Tryz.ntmps248
 go_wp2_with fail
 go_end0
 exact ⟨⟨_,rfl⟩,rfl⟩
set_option maxRecDepth 100000 in
theorem accRestart_any (b : Nat) (w : World) : Calls Tryz.prog 249 #[.pointer (some ⟨b,0,none⟩)] w fun e w' => (∃ v,e = .returned v) ∧ w' = w := by
 go_enter Tryz.func249,Tryz.ntmps249
 go_wp2_with fail
 go_end0
 exact ⟨⟨_,rfl⟩,rfl⟩
set_option maxRecDepth 100000 in
set_option maxHeartbeats 1000000 in
theorem accNew_any (own : Int) (l : List Int) (v : Value) (w : World) (hv : IntOwn w v l) (hl : l.length ≤ 5) :
  Calls Tryz.prog 109 #[.int .i64 own,v] w fun e w' => ∃ b F,e = .returned (.pointer (some ⟨b,0,none⟩)) ∧ AccAt w' F b own { up := true,epoch := 0,mems := l,votes := fun _ => AVote.none } ∧ (∀ k,F k → w.heap.size ≤ k) ∧ Below w.heap.size w w' := by
 have hc := cloneMems_any v l w hv (by omega)
 obtain ⟨a0,c0,rfl⟩ := owns_shape hv
 clear hv
 have hmm := @run_makeMap Tryz.prog
 go_enter Tryz.func109,Tryz.ntmps109
 go_wp2_with fail
 refine hc.mono ?_
 rintro e W ⟨x,c,rfl,ho,hb⟩
 clear hc
 have HO := hideA ho
 go_wp2_with fail
 go_ret
 have hs := hb.size
 refine ⟨_,fun k => w.heap.size ≤ k ∧ k < W.heap.size + 1 + 1,rfl,⟨.slice x l.length c,W.heap.size, [],heap_new2 _ _ _,((owns_base HO.out (Nat.zero_le _)).alloc _).alloc _,⟨#[],0,(Below.heap_alloc _ _ _ (by simp)).trans (heap_new _ _),rfl⟩,fun _ => rfl,⟨by omega,by omega⟩,⟨by omega,by omega⟩,fun k e => ?_,fun k h => ?_⟩,fun k h => h.1,(hb.alloc hb.size _).alloc (by simp; omega) _⟩
 ·obtain ⟨_,h2,h3⟩ := ownBlock_cells HO.out e
  have := (Array.getElem?_eq_some_iff.1 h2).1
  exact ⟨h3,by omega⟩
 ·simpa using h.2
set_option maxRecDepth 100000 in
set_option maxHeartbeats 1000000 in
theorem accBallots_any (F : Nat → Prop) (b : Nat) (own : Int) (a : Acc) (w : World) (h : AccAt w F b own a) (ok : AccOK a) :
  Calls Tryz.prog 39 #[.pointer (some ⟨b,0,none⟩)] w fun e w' => ∃ x c,e = .returned (.agg #[.bool false, .int .i64 a.epoch, .slice x a.mems.length c]) ∧ w'.ownsRow w.heap.size 3 1 (.slice x a.mems.length c) a.mems.length (ints a.mems) ∧ Below w.heap.size w w' := by
 obtain ⟨vm,g,l,h⟩ := h
 have hbl : b < w.heap.size := h.lt b h.fb
 have hne1 : ¬ b = w.heap.size := by omega
 have hne2 : ¬ w.heap.size = b := by omega
 obtain ⟨am,cm,rfl⟩ := owns_shape h.hm
 have HI := hideA h
 have hm5 := ok.m
 have HS : Hid (∀ W,Below w.heap.size w W → W.cell? ⟨b,1,none⟩ = some (.int .i64 a.epoch) ∧ W.cell? ⟨b,2,none⟩ = some (.slice am a.mems.length cm)) := hideA fun W hb => ⟨cell_of_heap (HI.out.below hb).blk 1,cell_of_heap (HI.out.below hb).blk 2⟩
 have HC : Hid (∀ W,Below w.heap.size w W → W.heap[w.heap.size]? = some (.cells #[.bool false, .int .i64 0, .slice none 0 0] 53) → Calls Tryz.prog 69 #[.slice am a.mems.length cm] W fun e w' => ∃ x c,e = .returned (.slice x a.mems.length c) ∧ w'.ownsRow (w.heap.size + 1) 3 1 (.slice x a.mems.length c) a.mems.length (ints a.mems) ∧ Below w.heap.size w w' ∧ w'.heap[w.heap.size]? = some (.cells #[.bool false, .int .i64 0, .slice none 0 0] 53)) := hideA fun W hb hB => (cloneMems_any _ a.mems W (HI.out.below hb).hm (by omega)).mono (by
  rintro e w' ⟨x,c,rfl,h1,h2⟩
  exact ⟨x,c,rfl,owns_base h1 (by have := (Array.getElem?_eq_some_iff.1 hB).1; omega),hb.trans (h2.mono hb.size),(h2.block _ (Array.getElem?_eq_some_iff.1 hB).1).trans hB⟩)
 clear h ok
 go_enter Tryz.func39,Tryz.ntmps39
 go_wp2_with fail
 obtain ⟨X,hX,hb0,hB0⟩ := box_more1 w #[.bool false, .int .i64 0, .slice none 0 0] 53
 rw [hX]
 clear hX
 obtain ⟨s1,s2⟩ := HS.out X hb0
 have HB0 := hideA hB0
 clear hB0
 go_region_held3 (fun w' => w'.cell? ⟨b,1,none⟩ = some (.int .i64 a.epoch) ∧ w'.cell? ⟨b,2,none⟩ = some (.slice am a.mems.length cm)) (first | (simp [go_sem]; done) | (simp [go_sem, *]; done) | go_keep)
  (first
   | (go_at_call 69; refine (HC.out _ hb0.drew HB0.out).mono ?_; rintro e Y1 ⟨a1,c1,rfl,o1,hb1,B1⟩; obtain ⟨u1,u2⟩ := HS.out Y1 hb1; have HB1 := hideA B1; have O1 := hideA o1; have gM := fun j => cell_of_heap B1 j; have gF := fun j => frozen_of_heap B1 j; clear B1 o1))
 all_goals (
  go_wp2_with fail
  refine bodyPost_ret (v := .agg #[.bool false, .int .i64 a.epoch, .slice a1 a.mems.length c1]) (by simp [results,Tryz.results39,go_sem,gM]) rfl ?_
  have hz : w.heap.size < w.heap.size + 1 := Nat.lt_succ_self _
  refine ⟨a1,c1,rfl,owns_base (ownsRow_setCell_below (ownsRow_setCell_below (ownsRow_setCell_below O1.out hz _) hz _) hz _) (Nat.le_succ _), ?_⟩
  iterate 3 refine Below.setCell ?_ (by exact Nat.le_refl _) _
  exact hb1)
structure MasIn (w : World) (F : Nat → Prop) (b : Nat) (own : Int) (p : PMas) (vw vo vm vl : Value) : Prop where
 blk : w.heap[b]? = some (.cells #[.int .i64 own, .int .i64 (p.begun : Int), .int .i64 p.doing,vw, .int .i64 p.epoch,vo, .int .i64 p.vote,vm,vl] 146)
 hw : IntOwn w vw p.waits
 ho : IntOwn w vo p.old
 hm : IntOwn w vm p.mems
 hl : LogOwn w vl p.log
 fb : F b
 fw : ∀ k,vw.ownBlock = some k → F k
 fo : ∀ k,vo.ownBlock = some k → F k
 fm : ∀ k,vm.ownBlock = some k → F k
 fl : ∀ k,vl.ownBlock = some k → F k
 ap : ∀ k,vw.ownBlock = some k → vo.ownBlock ≠ some k ∧ vm.ownBlock ≠ some k
 lt : ∀ k,F k → k < w.heap.size
def MasAt (w : World) (F : Nat → Prop) (b : Nat) (own : Int) (p : PMas) : Prop := ∃ vw vo vm vl,MasIn w F b own p vw vo vm vl
structure MasOK (p : PMas) (own : Int) : Prop where
 w : p.waits.length ≤ 5
 o : p.old.length ≤ 5
 m : p.mems.length ≤ 5
 l : p.log.length ≤ 24
 b : p.begun ≤ 1000
 d : 0 ≤ p.doing ∧ p.doing ≤ 6
 n : 200 ≤ own ∧ own ≤ 201
theorem MasIn.keep {w w' : World} {F : Nat → Prop} {b : Nat} {own : Int} {p : PMas} {vw vo vm vl : Value} (h : MasIn w F b own p vw vo vm vl) (hk : ∀ k,F k → w'.heap[k]? = w.heap[k]?) : MasIn w' F b own p vw vo vm vl where
 blk := (hk b h.fb).trans h.blk
 hw := owns_only h.hw fun k e => hk k (h.fw k e)
 ho := owns_only h.ho fun k e => hk k (h.fo k e)
 hm := owns_only h.hm fun k e => hk k (h.fm k e)
 hl := owns_only h.hl fun k e => hk k (h.fl k e)
 fb := h.fb
 fw := h.fw
 fo := h.fo
 fm := h.fm
 fl := h.fl
 ap := h.ap
 lt := fun k hF => by
  have h1 := h.lt k hF
  have h2 := hk k hF
  rw [Array.getElem?_eq_getElem h1] at h2
  exact (Array.getElem?_eq_some_iff.1 h2).1
theorem MasIn.below {w w' : World} {F : Nat → Prop} {b : Nat} {own : Int} {p : PMas} {vw vo vm vl : Value} (h : MasIn w F b own p vw vo vm vl) (hb : Below w.heap.size w w') : MasIn w' F b own p vw vo vm vl :=
 h.keep fun k hF => hb.block k (h.lt k hF)
set_option maxRecDepth 100000 in
set_option maxHeartbeats 1000000 in
theorem ballot_any (F : Nat → Prop) (b : Nat) (own : Int) (p : PMas) (vw vo vm vl : Value) (w : World) (h : MasIn w F b own p vw vo vm vl) (hp : p.begun ≤ 1000) (hn : 200 ≤ own ∧ own ≤ 201) :
  Calls Tryz.prog 183 #[.pointer (some ⟨b,0,none⟩)] w fun e w' => e = .returned (.int .i64 (p.ballot own)) ∧ ∃ q,w' = w.drewN q := by
 have c0 := cell_of_heap h.blk 0
 have c1 := cell_of_heap h.blk 1
 have H1 : Hid (p.ballot own = 2 * (p.begun : Int) + own - 200) := hideA rfl
 clear h
 generalize hB : (p.begun : Int) = B at *
 have hB0 : 0 ≤ B := by omega
 have hB1 : B ≤ 1000 := by omega
 clear hB hp
 have e1 : IntKind.i64.wrap (2 * B) = 2 * B := by rw [IntKind.wrap_i64]; omega
 have e2 : IntKind.i64.wrap (2 * B + own) = 2 * B + own := by rw [IntKind.wrap_i64]; omega
 have e3 : IntKind.i64.wrap (2 * B + own - 200) = 2 * B + own - 200 := by rw [IntKind.wrap_i64]; omega
 go_enter Tryz.func183,Tryz.ntmps183
 go_wp2_with fail
 go_quiet (fail)
 go_wp2_with fail
 go_ret
 refine ⟨?_,_,rfl⟩
 rw [H1.out]
 rfl
set_option maxRecDepth 100000 in
set_option maxHeartbeats 4000000 in
theorem question_any (F : Nat → Prop) (b : Nat) (own : Int) (p : PMas) (vw vo vm vl : Value) (w : World) (h : MasIn w F b own p vw vo vm vl) (ok : MasOK p own) :
  Calls Tryz.prog 159 #[.pointer (some ⟨b,0,none⟩)] w fun e w' => ∃ xm xl,e = .returned (mval (p.question own) xm xl) ∧ IntOwn w' xm (p.question own).mems ∧ LogOwn w' xl (p.question own).log ∧ Below w.heap.size w w' := by
 have hbl : b < w.heap.size := h.lt b h.fb
 have hne1 : ¬ b = w.heap.size := by omega
 have hne2 : ¬ w.heap.size = b := by omega
 obtain ⟨am,cm,rfl⟩ := owns_shape h.hm
 obtain ⟨al,cl,rfl⟩ := owns_shape h.hl
 have HI := hideA h
 have hd := ok.d
 have hm5 := ok.m
 have hl24 := ok.l
 have HQ : Hid (∀ W,Below w.heap.size w W → Hid (W.heap[w.heap.size]? = some (.cells #[.int .i64 0, .int .i64 0, .int .i64 0, .int .i64 0, .int .i64 0, .int .i64 0, .int .i64 0, .int .i64 0, .slice none 0 0, .slice none 0 0] 134)) → Calls Tryz.prog 183 #[.pointer (some ⟨b,0,none⟩)] W fun e w' => e = .returned (.int .i64 (p.ballot own)) ∧ Below W.heap.size W w' ∧ Below w.heap.size w w' ∧ Hid (w'.heap[w.heap.size]? = some (.cells #[.int .i64 0, .int .i64 0, .int .i64 0, .int .i64 0, .int .i64 0, .int .i64 0, .int .i64 0, .int .i64 0, .slice none 0 0, .slice none 0 0] 134))) := hideA fun W hb hB => (ballot_any F b own p _ _ _ _ W (HI.out.below hb) ok.b ok.n).mono (by
  rintro e w' ⟨rfl,q,rfl⟩
  exact ⟨rfl,below_drewN (Below.refl _ _) q,below_drewN hb q,hB⟩)
 have HC1 : Hid (∀ W,Below w.heap.size w W → Hid (W.heap[w.heap.size]? = some (.cells #[.int .i64 0, .int .i64 0, .int .i64 0, .int .i64 0, .int .i64 0, .int .i64 0, .int .i64 0, .int .i64 0, .slice none 0 0, .slice none 0 0] 134)) → Calls Tryz.prog 69 #[.slice am p.mems.length cm] W fun e w' => ∃ x c,e = .returned (.slice x p.mems.length c) ∧ w'.ownsRow (w.heap.size + 1) 3 1 (.slice x p.mems.length c) p.mems.length (ints p.mems) ∧ Below W.heap.size W w' ∧ Below w.heap.size w w' ∧ Hid (w'.heap[w.heap.size]? = some (.cells #[.int .i64 0, .int .i64 0, .int .i64 0, .int .i64 0, .int .i64 0, .int .i64 0, .int .i64 0, .int .i64 0, .slice none 0 0, .slice none 0 0] 134))) := hideA fun W hb hB => (cloneMems_any _ p.mems W (HI.out.below hb).hm (by omega)).mono (by
  rintro e w' ⟨x,c,rfl,h1,h2⟩
  exact ⟨x,c,rfl,owns_base h1 (by have := (Array.getElem?_eq_some_iff.1 hB.out).1; omega),h2,hb.trans (h2.mono hb.size),hideA ((h2.block _ (Array.getElem?_eq_some_iff.1 hB.out).1).trans hB.out)⟩)
 have HC2 : Hid (∀ W,Below w.heap.size w W → Hid (W.heap[w.heap.size]? = some (.cells #[.int .i64 0, .int .i64 0, .int .i64 0, .int .i64 0, .int .i64 0, .int .i64 0, .int .i64 0, .int .i64 0, .slice none 0 0, .slice none 0 0] 134)) → Calls Tryz.prog 147 #[.slice al p.log.length cl] W fun e w' => ∃ x c,e = .returned (.slice x p.log.length c) ∧ w'.ownsRow (w.heap.size + 1) 42 5 (.slice x p.log.length c) p.log.length (ints (entsNums p.log)) ∧ Below W.heap.size W w' ∧ Below w.heap.size w w' ∧ Hid (w'.heap[w.heap.size]? = some (.cells #[.int .i64 0, .int .i64 0, .int .i64 0, .int .i64 0, .int .i64 0, .int .i64 0, .int .i64 0, .int .i64 0, .slice none 0 0, .slice none 0 0] 134))) := hideA fun W hb hB => (cloneLog_any _ p.log W (HI.out.below hb).hl (by omega)).mono (by
  rintro e w' ⟨x,c,rfl,h1,h2⟩
  exact ⟨x,c,rfl,owns_base h1 (by have := (Array.getElem?_eq_some_iff.1 hB.out).1; omega),h2,hb.trans (h2.mono hb.size),hideA ((h2.block _ (Array.getElem?_eq_some_iff.1 hB.out).1).trans hB.out)⟩)
 have HS : Hid (∀ W,Below w.heap.size w W → W.cell? ⟨b,2,none⟩ = some (.int .i64 p.doing) ∧ W.cell? ⟨b,4,none⟩ = some (.int .i64 p.epoch) ∧ W.cell? ⟨b,7,none⟩ = some (.slice am p.mems.length cm) ∧ W.cell? ⟨b,8,none⟩ = some (.slice al p.log.length cl)) := hideA fun W hb =>
  ⟨cell_of_heap (HI.out.below hb).blk 2,cell_of_heap (HI.out.below hb).blk 4,cell_of_heap (HI.out.below hb).blk 7,cell_of_heap (HI.out.below hb).blk 8⟩
 clear h ok
 generalize hqq : p.question own = qq
 unfold PMas.question at hqq
 generalize p.ballot own = bal at *
 generalize p.doing = doing at *
 rcases (by omega : doing = 0 ∨ doing = 1 ∨ doing = 2 ∨ doing = 3 ∨ doing = 4 ∨ doing = 5 ∨ doing = 6) with rfl | rfl | rfl | rfl | rfl | rfl | rfl
 all_goals simp only [Int.reduceEq,if_true,if_false] at hqq
 all_goals subst hqq
 ·go_enter Tryz.func159,Tryz.ntmps159
  go_upto_region 1 with fail
  obtain ⟨X,hX,hb0,hB0⟩ := box_more1 w #[.int .i64 0, .int .i64 0, .int .i64 0, .int .i64 0, .int .i64 0, .int .i64 0, .int .i64 0, .int .i64 0, .slice none 0 0, .slice none 0 0] 134
  rw [hX]
  clear hX
  have hbd := hb0.drew
  have HB0 := hideA hB0
  have HBd : Hid (X.drew.heap[w.heap.size]? = some (.cells #[.int .i64 0, .int .i64 0, .int .i64 0, .int .i64 0, .int .i64 0, .int .i64 0, .int .i64 0, .int .i64 0, .slice none 0 0, .slice none 0 0] 134)) := HB0
  obtain ⟨s1,s2,s3,s4⟩ := HS.out X hb0
  have gN := fun j => cell_of_heap hB0 j
  have gG := fun j => frozen_of_heap hB0 j
  clear hB0
  go_wp2_with fail
  go_region_held3 (fun w' => w'.cell? ⟨b,4,none⟩ = some (.int .i64 p.epoch) ∧ w'.cell? ⟨b,7,none⟩ = some (.slice am p.mems.length cm) ∧ w'.cell? ⟨b,8,none⟩ = some (.slice al p.log.length cl)) (first | (simp [go_sem]; done) | (simp [go_sem, *]; done) | go_keep)
   (first
    | (go_at_call 69; refine (HC1.out _ (by assumption) (by assumption)).mono ?_; rintro e Y1 ⟨x1,c1,rfl,o1,hl1,hbN,B⟩; obtain ⟨u1,u2,u3,u4⟩ := HS.out Y1 hbN; (try (have O1 := hideA (owns_kept O1.out fun k _ hk => hl1.block k hk))); (try (have O2 := hideA (owns_kept O2.out fun k _ hk => hl1.block k hk))); have HBn := B; have gN := fun j => cell_of_heap B.out j; have gG := fun j => frozen_of_heap B.out j; clear B; have O1 := hideA o1; clear o1))
  all_goals (
   go_wp2_with fail
   refine bodyPost_ret (v := .agg #[.int .i64 15, .int .i64 0, .int .i64 0, .int .i64 p.epoch, .int .i64 0, .int .i64 0, .int .i64 0, .int .i64 0, .slice x1 p.mems.length c1, .slice none 0 0]) (by simp [results,Tryz.results159,go_sem,gN]) rfl ?_
   have hz : w.heap.size < w.heap.size + 1 := Nat.lt_succ_self _
   refine ⟨.slice x1 p.mems.length c1, .slice none 0 0,rfl,owns_base (ownsRow_setCell_below (ownsRow_setCell_below (ownsRow_setCell_below (ownsRow_setCell_below (ownsRow_setCell_below (ownsRow_setCell_below (ownsRow_setCell_below (ownsRow_setCell_below (ownsRow_setCell_below (ownsRow_setCell_below O1.out hz _) hz _) hz _) hz _) hz _) hz _) hz _) hz _) hz _) hz _) (Nat.zero_le _),World.ownsRow_nil _ _ _ _, ?_⟩
   iterate 10 refine Below.setCell ?_ (by exact Nat.le_refl _) _
   exact hbN)
 ·go_enter Tryz.func159,Tryz.ntmps159
  go_upto_region 1 with fail
  obtain ⟨X,hX,hb0,hB0⟩ := box_more1 w #[.int .i64 0, .int .i64 0, .int .i64 0, .int .i64 0, .int .i64 0, .int .i64 0, .int .i64 0, .int .i64 0, .slice none 0 0, .slice none 0 0] 134
  rw [hX]
  clear hX
  have hbd := hb0.drew
  have HB0 := hideA hB0
  have HBd : Hid (X.drew.heap[w.heap.size]? = some (.cells #[.int .i64 0, .int .i64 0, .int .i64 0, .int .i64 0, .int .i64 0, .int .i64 0, .int .i64 0, .int .i64 0, .slice none 0 0, .slice none 0 0] 134)) := HB0
  obtain ⟨s1,s2,s3,s4⟩ := HS.out X hb0
  have gN := fun j => cell_of_heap hB0 j
  have gG := fun j => frozen_of_heap hB0 j
  clear hB0
  go_wp2_with fail
  refine (HQ.out _ (by assumption) (by assumption)).mono ?_
  rintro e YB ⟨rfl,hlB,hbN,B⟩
  obtain ⟨t1,t2,t3,t4⟩ := HS.out YB hbN
  have gN := fun j => cell_of_heap B.out j
  have gG := fun j => frozen_of_heap B.out j
  clear B
  go_wp2_with fail
  refine bodyPost_ret (v := .agg #[.int .i64 5, .int .i64 0, .int .i64 0, .int .i64 0, .int .i64 bal, .int .i64 0, .int .i64 0, .int .i64 0, .slice none 0 0, .slice none 0 0]) (by simp [results,Tryz.results159,go_sem,gN]) rfl ?_
  have hz : w.heap.size < w.heap.size + 1 := Nat.lt_succ_self _
  refine ⟨.slice none 0 0, .slice none 0 0,rfl,World.ownsRow_nil _ _ _ _,World.ownsRow_nil _ _ _ _, ?_⟩
  iterate 10 refine Below.setCell ?_ (by exact Nat.le_refl _) _
  exact hbN
 ·go_enter Tryz.func159,Tryz.ntmps159
  go_upto_region 1 with fail
  obtain ⟨X,hX,hb0,hB0⟩ := box_more1 w #[.int .i64 0, .int .i64 0, .int .i64 0, .int .i64 0, .int .i64 0, .int .i64 0, .int .i64 0, .int .i64 0, .slice none 0 0, .slice none 0 0] 134
  rw [hX]
  clear hX
  have hbd := hb0.drew
  have HB0 := hideA hB0
  have HBd : Hid (X.drew.heap[w.heap.size]? = some (.cells #[.int .i64 0, .int .i64 0, .int .i64 0, .int .i64 0, .int .i64 0, .int .i64 0, .int .i64 0, .int .i64 0, .slice none 0 0, .slice none 0 0] 134)) := HB0
  obtain ⟨s1,s2,s3,s4⟩ := HS.out X hb0
  have gN := fun j => cell_of_heap hB0 j
  have gG := fun j => frozen_of_heap hB0 j
  clear hB0
  go_wp2_with fail
  go_region_held3 (fun w' => w'.cell? ⟨b,4,none⟩ = some (.int .i64 p.epoch) ∧ w'.cell? ⟨b,7,none⟩ = some (.slice am p.mems.length cm) ∧ w'.cell? ⟨b,8,none⟩ = some (.slice al p.log.length cl)) (first | (simp [go_sem]; done) | (simp [go_sem, *]; done) | go_keep)
   (first
    | (go_at_call 183; refine (HQ.out _ (by assumption) (by assumption)).mono ?_; rintro e YB ⟨rfl,hlB,hbN,B⟩; obtain ⟨t1,t2,t3,t4⟩ := HS.out YB hbN; (try (have O1 := hideA (owns_kept O1.out fun k _ hk => hlB.block k hk))); (try (have O2 := hideA (owns_kept O2.out fun k _ hk => hlB.block k hk))); have HBn := B; have gN := fun j => cell_of_heap B.out j; have gG := fun j => frozen_of_heap B.out j; clear B))
  all_goals (
   go_wp2_with fail
   refine bodyPost_ret (v := .agg #[.int .i64 7, .int .i64 0, .int .i64 0, .int .i64 p.epoch, .int .i64 bal, .int .i64 0, .int .i64 0, .int .i64 0, .slice none 0 0, .slice none 0 0]) (by simp [results,Tryz.results159,go_sem,gN]) rfl ?_
   have hz : w.heap.size < w.heap.size + 1 := Nat.lt_succ_self _
   refine ⟨.slice none 0 0, .slice none 0 0,rfl,World.ownsRow_nil _ _ _ _,World.ownsRow_nil _ _ _ _, ?_⟩
   iterate 10 refine Below.setCell ?_ (by exact Nat.le_refl _) _
   exact hbN)
 ·go_enter Tryz.func159,Tryz.ntmps159
  go_upto_region 1 with fail
  obtain ⟨X,hX,hb0,hB0⟩ := box_more1 w #[.int .i64 0, .int .i64 0, .int .i64 0, .int .i64 0, .int .i64 0, .int .i64 0, .int .i64 0, .int .i64 0, .slice none 0 0, .slice none 0 0] 134
  rw [hX]
  clear hX
  have hbd := hb0.drew
  have HB0 := hideA hB0
  have HBd : Hid (X.drew.heap[w.heap.size]? = some (.cells #[.int .i64 0, .int .i64 0, .int .i64 0, .int .i64 0, .int .i64 0, .int .i64 0, .int .i64 0, .int .i64 0, .slice none 0 0, .slice none 0 0] 134)) := HB0
  obtain ⟨s1,s2,s3,s4⟩ := HS.out X hb0
  have gN := fun j => cell_of_heap hB0 j
  have gG := fun j => frozen_of_heap hB0 j
  clear hB0
  go_wp2_with fail
  go_region_held3 (fun w' => w'.cell? ⟨b,4,none⟩ = some (.int .i64 p.epoch) ∧ w'.cell? ⟨b,7,none⟩ = some (.slice am p.mems.length cm) ∧ w'.cell? ⟨b,8,none⟩ = some (.slice al p.log.length cl)) (first | (simp [go_sem]; done) | (simp [go_sem, *]; done) | go_keep)
   (first
    | (go_at_call 183; refine (HQ.out _ (by assumption) (by assumption)).mono ?_; rintro e YB ⟨rfl,hlB,hbN,B⟩; obtain ⟨t1,t2,t3,t4⟩ := HS.out YB hbN; (try (have O1 := hideA (owns_kept O1.out fun k _ hk => hlB.block k hk))); (try (have O2 := hideA (owns_kept O2.out fun k _ hk => hlB.block k hk))); have HBn := B; have gN := fun j => cell_of_heap B.out j; have gG := fun j => frozen_of_heap B.out j; clear B))
  all_goals (
   go_wp2_with fail
   refine bodyPost_ret (v := .agg #[.int .i64 9, .int .i64 0, .int .i64 0, .int .i64 p.epoch, .int .i64 bal, .int .i64 0, .int .i64 0, .int .i64 0, .slice none 0 0, .slice none 0 0]) (by simp [results,Tryz.results159,go_sem,gN]) rfl ?_
   have hz : w.heap.size < w.heap.size + 1 := Nat.lt_succ_self _
   refine ⟨.slice none 0 0, .slice none 0 0,rfl,World.ownsRow_nil _ _ _ _,World.ownsRow_nil _ _ _ _, ?_⟩
   iterate 10 refine Below.setCell ?_ (by exact Nat.le_refl _) _
   exact hbN)
 ·go_enter Tryz.func159,Tryz.ntmps159
  go_upto_region 1 with fail
  obtain ⟨X,hX,hb0,hB0⟩ := box_more1 w #[.int .i64 0, .int .i64 0, .int .i64 0, .int .i64 0, .int .i64 0, .int .i64 0, .int .i64 0, .int .i64 0, .slice none 0 0, .slice none 0 0] 134
  rw [hX]
  clear hX
  have hbd := hb0.drew
  have HB0 := hideA hB0
  have HBd : Hid (X.drew.heap[w.heap.size]? = some (.cells #[.int .i64 0, .int .i64 0, .int .i64 0, .int .i64 0, .int .i64 0, .int .i64 0, .int .i64 0, .int .i64 0, .slice none 0 0, .slice none 0 0] 134)) := HB0
  obtain ⟨s1,s2,s3,s4⟩ := HS.out X hb0
  have gN := fun j => cell_of_heap hB0 j
  have gG := fun j => frozen_of_heap hB0 j
  clear hB0
  go_wp2_with fail
  go_region_held3 (fun w' => w'.cell? ⟨b,4,none⟩ = some (.int .i64 p.epoch) ∧ w'.cell? ⟨b,7,none⟩ = some (.slice am p.mems.length cm) ∧ w'.cell? ⟨b,8,none⟩ = some (.slice al p.log.length cl)) (first | (simp [go_sem]; done) | (simp [go_sem, *]; done) | go_keep)
   (first
    | (go_at_call 183; refine (HQ.out _ (by assumption) (by assumption)).mono ?_; rintro e YB ⟨rfl,hlB,hbN,B⟩; obtain ⟨t1,t2,t3,t4⟩ := HS.out YB hbN; (try (have O1 := hideA (owns_kept O1.out fun k _ hk => hlB.block k hk))); (try (have O2 := hideA (owns_kept O2.out fun k _ hk => hlB.block k hk))); have HBn := B; have gN := fun j => cell_of_heap B.out j; have gG := fun j => frozen_of_heap B.out j; clear B)
    | (go_at_call 69; refine (HC1.out _ (by assumption) (by assumption)).mono ?_; rintro e Y1 ⟨x1,c1,rfl,o1,hl1,hbN,B⟩; obtain ⟨u1,u2,u3,u4⟩ := HS.out Y1 hbN; (try (have O1 := hideA (owns_kept O1.out fun k _ hk => hl1.block k hk))); (try (have O2 := hideA (owns_kept O2.out fun k _ hk => hl1.block k hk))); have HBn := B; have gN := fun j => cell_of_heap B.out j; have gG := fun j => frozen_of_heap B.out j; clear B; have O1 := hideA o1; clear o1)
    | (go_at_call 147; refine (HC2.out _ (by assumption) (by assumption)).mono ?_; rintro e Y2 ⟨x2,c2,rfl,o2,hl2,hbN,B⟩; obtain ⟨v1,v2,v3,v4⟩ := HS.out Y2 hbN; (try (have O1 := hideA (owns_kept O1.out fun k _ hk => hl2.block k hk))); (try (have O2 := hideA (owns_kept O2.out fun k _ hk => hl2.block k hk))); have HBn := B; have gN := fun j => cell_of_heap B.out j; have gG := fun j => frozen_of_heap B.out j; clear B; have O2 := hideA o2; clear o2))
  all_goals (
   go_wp2_with fail
   refine bodyPost_ret (v := .agg #[.int .i64 11, .int .i64 0, .int .i64 0, .int .i64 p.epoch, .int .i64 bal, .int .i64 0, .int .i64 0, .int .i64 0, .slice x1 p.mems.length c1, .slice x2 p.log.length c2]) (by simp [results,Tryz.results159,go_sem,gN]) rfl ?_
   have hz : w.heap.size < w.heap.size + 1 := Nat.lt_succ_self _
   refine ⟨.slice x1 p.mems.length c1, .slice x2 p.log.length c2,rfl,owns_base (ownsRow_setCell_below (ownsRow_setCell_below (ownsRow_setCell_below (ownsRow_setCell_below (ownsRow_setCell_below (ownsRow_setCell_below (ownsRow_setCell_below (ownsRow_setCell_below (ownsRow_setCell_below (ownsRow_setCell_below O1.out hz _) hz _) hz _) hz _) hz _) hz _) hz _) hz _) hz _) hz _) (Nat.zero_le _),owns_base (ownsRow_setCell_below (ownsRow_setCell_below (ownsRow_setCell_below (ownsRow_setCell_below (ownsRow_setCell_below (ownsRow_setCell_below (ownsRow_setCell_below (ownsRow_setCell_below (ownsRow_setCell_below (ownsRow_setCell_below O2.out hz _) hz _) hz _) hz _) hz _) hz _) hz _) hz _) hz _) hz _) (Nat.zero_le _), ?_⟩
   iterate 10 refine Below.setCell ?_ (by exact Nat.le_refl _) _
   exact hbN)
 ·go_enter Tryz.func159,Tryz.ntmps159
  go_upto_region 1 with fail
  obtain ⟨X,hX,hb0,hB0⟩ := box_more1 w #[.int .i64 0, .int .i64 0, .int .i64 0, .int .i64 0, .int .i64 0, .int .i64 0, .int .i64 0, .int .i64 0, .slice none 0 0, .slice none 0 0] 134
  rw [hX]
  clear hX
  have hbd := hb0.drew
  have HB0 := hideA hB0
  have HBd : Hid (X.drew.heap[w.heap.size]? = some (.cells #[.int .i64 0, .int .i64 0, .int .i64 0, .int .i64 0, .int .i64 0, .int .i64 0, .int .i64 0, .int .i64 0, .slice none 0 0, .slice none 0 0] 134)) := HB0
  obtain ⟨s1,s2,s3,s4⟩ := HS.out X hb0
  have gN := fun j => cell_of_heap hB0 j
  have gG := fun j => frozen_of_heap hB0 j
  clear hB0
  go_wp2_with fail
  go_region_held3 (fun w' => w'.cell? ⟨b,4,none⟩ = some (.int .i64 p.epoch) ∧ w'.cell? ⟨b,7,none⟩ = some (.slice am p.mems.length cm) ∧ w'.cell? ⟨b,8,none⟩ = some (.slice al p.log.length cl)) (first | (simp [go_sem]; done) | (simp [go_sem, *]; done) | go_keep)
   (first
    | (go_at_call 69; refine (HC1.out _ (by assumption) (by assumption)).mono ?_; rintro e Y1 ⟨x1,c1,rfl,o1,hl1,hbN,B⟩; obtain ⟨u1,u2,u3,u4⟩ := HS.out Y1 hbN; (try (have O1 := hideA (owns_kept O1.out fun k _ hk => hl1.block k hk))); (try (have O2 := hideA (owns_kept O2.out fun k _ hk => hl1.block k hk))); have HBn := B; have gN := fun j => cell_of_heap B.out j; have gG := fun j => frozen_of_heap B.out j; clear B; have O1 := hideA o1; clear o1)
    | (go_at_call 147; refine (HC2.out _ (by assumption) (by assumption)).mono ?_; rintro e Y2 ⟨x2,c2,rfl,o2,hl2,hbN,B⟩; obtain ⟨v1,v2,v3,v4⟩ := HS.out Y2 hbN; (try (have O1 := hideA (owns_kept O1.out fun k _ hk => hl2.block k hk))); (try (have O2 := hideA (owns_kept O2.out fun k _ hk => hl2.block k hk))); have HBn := B; have gN := fun j => cell_of_heap B.out j; have gG := fun j => frozen_of_heap B.out j; clear B; have O2 := hideA o2; clear o2))
  all_goals (
   go_wp2_with fail
   refine bodyPost_ret (v := .agg #[.int .i64 13, .int .i64 0, .int .i64 0, .int .i64 p.epoch, .int .i64 0, .int .i64 0, .int .i64 0, .int .i64 0, .slice x1 p.mems.length c1, .slice x2 p.log.length c2]) (by simp [results,Tryz.results159,go_sem,gN]) rfl ?_
   have hz : w.heap.size < w.heap.size + 1 := Nat.lt_succ_self _
   refine ⟨.slice x1 p.mems.length c1, .slice x2 p.log.length c2,rfl,owns_base (ownsRow_setCell_below (ownsRow_setCell_below (ownsRow_setCell_below (ownsRow_setCell_below (ownsRow_setCell_below (ownsRow_setCell_below (ownsRow_setCell_below (ownsRow_setCell_below (ownsRow_setCell_below (ownsRow_setCell_below O1.out hz _) hz _) hz _) hz _) hz _) hz _) hz _) hz _) hz _) hz _) (Nat.zero_le _),owns_base (ownsRow_setCell_below (ownsRow_setCell_below (ownsRow_setCell_below (ownsRow_setCell_below (ownsRow_setCell_below (ownsRow_setCell_below (ownsRow_setCell_below (ownsRow_setCell_below (ownsRow_setCell_below (ownsRow_setCell_below O2.out hz _) hz _) hz _) hz _) hz _) hz _) hz _) hz _) hz _) hz _) (Nat.zero_le _), ?_⟩
   iterate 10 refine Below.setCell ?_ (by exact Nat.le_refl _) _
   exact hbN)
 ·go_enter Tryz.func159,Tryz.ntmps159
  go_upto_region 1 with fail
  obtain ⟨X,hX,hb0,hB0⟩ := box_more1 w #[.int .i64 0, .int .i64 0, .int .i64 0, .int .i64 0, .int .i64 0, .int .i64 0, .int .i64 0, .int .i64 0, .slice none 0 0, .slice none 0 0] 134
  rw [hX]
  clear hX
  have hbd := hb0.drew
  have HB0 := hideA hB0
  have HBd : Hid (X.drew.heap[w.heap.size]? = some (.cells #[.int .i64 0, .int .i64 0, .int .i64 0, .int .i64 0, .int .i64 0, .int .i64 0, .int .i64 0, .int .i64 0, .slice none 0 0, .slice none 0 0] 134)) := HB0
  obtain ⟨s1,s2,s3,s4⟩ := HS.out X hb0
  have gN := fun j => cell_of_heap hB0 j
  have gG := fun j => frozen_of_heap hB0 j
  clear hB0
  go_wp2_with fail
  go_region_held3 (fun w' => w'.cell? ⟨b,4,none⟩ = some (.int .i64 p.epoch) ∧ w'.cell? ⟨b,7,none⟩ = some (.slice am p.mems.length cm) ∧ w'.cell? ⟨b,8,none⟩ = some (.slice al p.log.length cl)) (first | (simp [go_sem]; done) | (simp [go_sem, *]; done) | go_keep)
   (first
    | (go_at_call 69; refine (HC1.out _ (by assumption) (by assumption)).mono ?_; rintro e Y1 ⟨x1,c1,rfl,o1,hl1,hbN,B⟩; obtain ⟨u1,u2,u3,u4⟩ := HS.out Y1 hbN; (try (have O1 := hideA (owns_kept O1.out fun k _ hk => hl1.block k hk))); (try (have O2 := hideA (owns_kept O2.out fun k _ hk => hl1.block k hk))); have HBn := B; have gN := fun j => cell_of_heap B.out j; have gG := fun j => frozen_of_heap B.out j; clear B; have O1 := hideA o1; clear o1))
  all_goals (
   go_wp2_with fail
   refine bodyPost_ret (v := .agg #[.int .i64 15, .int .i64 0, .int .i64 0, .int .i64 p.epoch, .int .i64 0, .int .i64 0, .int .i64 0, .int .i64 0, .slice x1 p.mems.length c1, .slice none 0 0]) (by simp [results,Tryz.results159,go_sem,gN]) rfl ?_
   have hz : w.heap.size < w.heap.size + 1 := Nat.lt_succ_self _
   refine ⟨.slice x1 p.mems.length c1, .slice none 0 0,rfl,owns_base (ownsRow_setCell_below (ownsRow_setCell_below (ownsRow_setCell_below (ownsRow_setCell_below (ownsRow_setCell_below (ownsRow_setCell_below (ownsRow_setCell_below (ownsRow_setCell_below (ownsRow_setCell_below (ownsRow_setCell_below O1.out hz _) hz _) hz _) hz _) hz _) hz _) hz _) hz _) hz _) hz _) (Nat.zero_le _),World.ownsRow_nil _ _ _ _, ?_⟩
   iterate 10 refine Below.setCell ?_ (by exact Nat.le_refl _) _
   exact hbN)
end Go.Proofs.YtgieeeeeiggoeaaGreat
