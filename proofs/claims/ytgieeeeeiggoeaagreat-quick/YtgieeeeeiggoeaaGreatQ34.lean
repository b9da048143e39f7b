import Derived.Test.YtgieeeeeiggoeaaGreatQ33
import Derived.Test.YtgieeeeeiggoeaaGreatQ27
namespace Go.Proofs.YtgieeeeeiggoeaaGreat
open Go.RowKit Go.Shelf
theorem MasIn.lessen {w D Y : World} {F : Nat → Prop} {b : Nat} {own : Int} {p : PMas} {vo vm vl : Value} {g cap : Nat} (h : MasIn w F b own p (.slice (some ⟨g,0,none⟩) p.waits.length cap) vo vm vl) (hD : Below w.heap.size w D) (hT : OneTurned D Y g) (p' : PMas) (v' : Value)
  (hv : v'.ownBlock = some g) (hb : p'.begun = p.begun) (hd : p'.doing = p.doing) (he : p'.epoch = p.epoch) (ho : p'.old = p.old) (hvt : p'.vote = p.vote) (hm : p'.mems = p.mems) (hl : p'.log = p.log) (hr : IntOwn Y v' p'.waits) :
  MasIn (Y.setCell ⟨b,3,none⟩ v') (More F w (Y.setCell ⟨b,3,none⟩ v')) b own p' v' vo vm vl ∧ Moved w (Y.setCell ⟨b,3,none⟩ v') F := by
 have hbl : b < w.heap.size := h.lt b h.fb
 have hgF : F g := h.fw g rfl
 have hgb : g ≠ b := fun e => blk_type h.blk h.hw (by decide) (by rw [← e]; rfl)
 have hYb : Y.heap[b]? = some (.cells #[.int .i64 own, .int .i64 (p.begun : Int), .int .i64 p.doing, .slice (some ⟨g,0,none⟩) p.waits.length cap, .int .i64 p.epoch,vo, .int .i64 p.vote,vm,vl] 146) := (hT.block b (Ne.symm hgb)).trans ((hD.block b hbl).trans h.blk)
 have B3 := set9_3 v' hYb
 have hMY : Moved w Y F := ⟨hT.os.trans hD.os,hT.tape.trans hD.tape,hT.output.trans hD.output,by rw [hT.size]; exact hD.size,fun k hk hF => (hT.block k (fun e => hF (e ▸ hgF))).trans (hD.block k hk)⟩
 have hM : Moved w (Y.setCell ⟨b,3,none⟩ v') F := hMY.setCell ⟨b,3,none⟩ h.fb _
 have hrow : ∀ {base size n : Nat} {e : TypeId} {v : Value} {xs : List Value},w.ownsRow base e size v n xs → e ≠ 146 → v.ownBlock ≠ some g → (Y.setCell ⟨b,3,none⟩ v').ownsRow base e size v n xs := by
  intro base size n e v xs hv h1 h2
  have hY : Y.ownsRow base e size v n xs := owns_only hv fun k e => (hT.block k (fun e2 => h2 (e2 ▸ e))).trans (hD.block k (Array.getElem?_eq_some_iff.1 (ownBlock_cells hv e).choose_spec.1).1)
  exact ownsRow_setCell_other hY (blk_type h.blk hv h1) _
 refine ⟨h.turn p' v' vo vm vl ?_ hM.size ?_ ?_ ?_ ?_ (fun k e => .inl (by rw [hv] at e; cases e; exact hgF)) (fun k e => .inl (h.fo k e)) (fun k e => .inl (h.fm k e)) (fun k e => .inl (h.fl k e)) (fun k e => by rw [hv] at e; cases e; exact h.ap g rfl),hM⟩
 ·rw [hb,hd,he,hvt]
  exact B3
 ·exact ownsRow_setCell_other hr (blk_type hYb hr (by decide)) _
 ·rw [ho]; exact hrow h.ho (by decide) (h.ap g rfl).1
 ·rw [hm]; exact hrow h.hm (by decide) (h.ap g rfl).2
 ·rw [hl]; exact hrow h.hl (by decide) (fun e => owns_two h.hw h.hl (by decide) g rfl e)
set_option maxRecDepth 100000 in
set_option maxHeartbeats 2000000 in
theorem masTake_any (F : Nat → Prop) (b : Nat) (own : Int) (p : PMas) (m : Msg) (mm ml : Value) (w : World) (h : MasAt w F b own p) (ok : MasOK p own) (hmm : IntOwn w mm m.mems) (hml : LogOwn w ml m.log) (hm5 : m.mems.length ≤ 5) (hl24 : m.log.length ≤ 24) (he : 0 ≤ m.epoch ∧ m.epoch ≤ 100000)
  (hmF : ∀ k,mm.ownBlock = some k → ¬ F k) (hlF : ∀ k,ml.ownBlock = some k → ¬ F k) :
  Calls Tryz.prog 239 #[.pointer (some ⟨b,0,none⟩),mval m mm ml] w fun e w' => MasOut w w' F b own e (p.take own m) := by
 have HA := hideA h
 have HQ : Hid (∀ W,Below w.heap.size w W → Calls Tryz.prog 241 #[.pointer (some ⟨b,0,none⟩),mval m mm ml] W fun e w' => e = .returned (.bool (p.isAnswer own m)) ∧ Below W.heap.size W w') := hideA fun W hb => isAnswer_any F b own p m mm ml W (h.below hb) ok
 have HL : Hid (∀ W F' p',MasAt W F' b own p' → IntOwn W mm m.mems → LogOwn W ml m.log → Calls Tryz.prog 243 #[.pointer (some ⟨b,0,none⟩),mval m mm ml] W fun e w' => (∃ v,e = .returned v) ∧ MasTo W w' F' b own (p'.learn m)) := hideA fun W F' p' h1 h2 h3 => learn_any F' b own p' m mm ml W h1 h2 h3 hm5 hl24 he
 have HE : Hid (∀ W F' p',MasAt W F' b own p' → Calls Tryz.prog 244 #[.pointer (some ⟨b,0,none⟩)] W fun e w' => e = .returned (.bool p'.enough) ∧ w' = W) := hideA fun W F' p' h1 => hasEnough_any F' b own p' W h1
 have HG : Hid (∀ W F' p',MasAt W F' b own p' → MasOK p' own → Calls Tryz.prog 245 #[.pointer (some ⟨b,0,none⟩)] W fun e w' => MasOut W w' F' b own e (p'.goOn own)) := hideA fun W F' p' h1 h2 => goOn_any F' b own p' W h1 h2
 have HT : Hid (p.take own m = if m.src ∈ p.waits ∧ p.isAnswer own m = true then (if ((p.less m.src).learn m).enough = true then ((p.less m.src).learn m).goOn own else ((p.less m.src).learn m, [])) else (p, [])) := hideA rfl
 have HOK := hideA ok
 obtain ⟨vw,vo,vm,vl,h⟩ := h
 have hbl : b < w.heap.size := h.lt b h.fb
 obtain ⟨aw,cw,rfl⟩ := owns_shape h.hw
 have HI := hideA h
 obtain ⟨a1,d1,rfl⟩ := owns_shape hmm
 obtain ⟨a2,d2,rfl⟩ := owns_shape hml
 have HX : Hid (∀ W,Below w.heap.size w W → Calls Tryz.prog 152 #[.slice aw p.waits.length cw, .int .i64 m.src] W fun e w' => e = .returned (.int .i64 (idxI p.waits m.src)) ∧ w' = W) := hideA fun W hb => index_ints _ p.waits m.src W (IntsAt.of_owns (owns_base (h.below hb).hw (Nat.le_refl _))) (by have := ok.w; omega)
 have HM0 := hideA (And.intro hmm hml)
 have hw5 := ok.w
 have hne : ¬ b = w.heap.size := by omega
 have hne' : ¬ w.heap.size = b := by omega
 clear h ok hmm hml
 unfold mval at *
 by_cases hin : m.src ∈ p.waits
 ·have hix : idxI p.waits m.src = ((p.waits.idxOf m.src : Nat) : Int) := by unfold idxI; rw [if_pos hin]
  rw [hix] at HX
  have hil : p.waits.idxOf m.src < p.waits.length := List.idxOf_lt_length_of_mem hin
  obtain ⟨g,cap,hsl, -, -⟩ := HI.out.hw.form (by omega)
  cases hsl
  have HLe : Hid (∀ W,Below w.heap.size w W → Calls Tryz.prog 242 #[.slice (some ⟨g,0,none⟩) p.waits.length cw, .int .i64 ((p.waits.idxOf m.src : Nat) : Int), .int .i64 (((p.waits.idxOf m.src : Nat) : Int) + 1)] W fun e w' => e = .returned (.slice (some ⟨g,0,none⟩) (p.waits.length - 1) cw) ∧ w'.ownsRow 0 3 1 (.slice (some ⟨g,0,none⟩) (p.waits.length - 1) cw) (p.waits.length - 1) ((ints p.waits).eraseIdx (p.waits.idxOf m.src)) ∧ OneTurned W w' g) := hideA fun W hb => delete_ints 0 g p.waits.length cw (p.waits.idxOf m.src) (ints p.waits) W (HI.out.below hb).hw (ints_one _) hil
  have HLS : Hid (((ints p.waits).eraseIdx (p.waits.idxOf m.src)) = ints (p.less m.src).waits ∧ p.waits.length - 1 = (p.less m.src).waits.length) := hideA ⟨ints_erase _ _,by unfold PMas.less; simp only; rw [List.length_eraseIdx,if_pos hil]⟩
  have HOK2 : Hid (MasOK ((p.less m.src).learn m) own) := hideA (learn_ok HOK.out hm5 hl24 (by rw [List.length_eraseIdx]; split <;> omega))
  have HIN := hideA hin
  clear hix hin
  generalize hii : p.waits.idxOf m.src = i at *
  have hwr : IntKind.i64.wrap ((i : Int) + 1) = (i : Int) + 1 := by rw [IntKind.wrap_i64]; omega
  have hi0 : ¬ (i : Int) < 0 := by omega
  go_enter Tryz.func239,Tryz.ntmps239
  go_upto_region 1 with fail
  obtain ⟨X,hX,hbX,hM⟩ := msg_box w m (.slice a1 m.mems.length d1) (.slice a2 m.log.length d2)
  rw [hX]
  clear hX
  have IX := hideA (HI.out.below hbX)
  have s3 := cell_of_heap IX.out.blk 3
  have gM := fun j => cell_of_heap hM j
  have HM := hideA hM
  clear hM
  go_quiet ((go_at_call 152; refine (HX.out _ (below_drewN hbX _)).mono ?_; rintro e w9 ⟨rfl,rfl⟩; exact ⟨rfl,_,rfl⟩))
  have hbD := below_drewN hbX nq
  have HD2 : Hid ((X.drewN nq).heap[w.heap.size]? = some (.cells #[.int .i64 m.kind, .int .i64 m.src, .int .i64 m.dst, .int .i64 m.epoch, .int .i64 m.ballot, .int .i64 m.vote, .int .i64 m.pos, .int .i64 m.value, .slice a1 m.mems.length d1, .slice a2 m.log.length d2] 134)) := HM
  generalize X.drewN nq = D at *
  clear gM s3 HM IX
  have gD := fun j => cell_of_heap HD2.out j
  go_wp2_with fail
  refine (HQ.out D hbD).mono ?_
  rintro e Y ⟨rfl,hbY⟩
  have hbWY := hbD.trans (hbY.mono hbD.size)
  have HDY : Hid (Y.heap[w.heap.size]? = some (.cells #[.int .i64 m.kind, .int .i64 m.src, .int .i64 m.dst, .int .i64 m.epoch, .int .i64 m.ballot, .int .i64 m.vote, .int .i64 m.pos, .int .i64 m.value, .slice a1 m.mems.length d1, .slice a2 m.log.length d2] 134)) := hideA ((hbY.block _ (Array.getElem?_eq_some_iff.1 HD2.out).1).trans HD2.out)
  clear gD HD2
  cases hans : p.isAnswer own m with
  | false =>
   have HV : Hid (p.take own m = (p, [])) := hideA (by rw [HT.out,if_neg (by rw [hans]; simp)])
   go_wp2_with fail
   go_ret
   rw [HV.out]
   exact MasOut.still HA.out hbWY
  | true =>
   have HV : Hid (p.take own m = if ((p.less m.src).learn m).enough = true then ((p.less m.src).learn m).goOn own else ((p.less m.src).learn m, [])) := hideA (by rw [HT.out,if_pos ⟨HIN.out,hans⟩])
   have IY := hideA (HI.out.below hbWY)
   have y3 := cell_of_heap IY.out.blk 3
   go_wp2_with fail
   refine (HLe.out Y hbWY).mono ?_
   rintro e Z ⟨rfl,hrow,hturn⟩
   rw [HLS.out.1,HLS.out.2] at hrow
   have hgb : g ≠ b := fun e => blk_type HI.out.blk HI.out.hw (by decide) (by rw [← e]; rfl)
   have HZb := hideA ((hturn.block b (Ne.symm hgb)).trans IY.out.blk)
   have z3 := cell_of_heap HZb.out 3
   have zf3 := frozen_of_heap HZb.out 3
   have HLen := HI.out.lessen hbWY hturn (p.less m.src) (.slice (some ⟨g,0,none⟩) (p.less m.src).waits.length cw) rfl rfl rfl rfl rfl rfl rfl rfl hrow
   rw [HLS.out.2]
   have gZ := fun j => cell_of_heap ((hturn.block _ (fun e => by have := HI.out.lt g (HI.out.fw g rfl); omega)).trans HDY.out) j
   have HRm := hideA hrow
   clear y3 hrow hturn IY HDY
   go_wp2_with fail
   obtain ⟨HIn3,HMv3⟩ := HLen
   generalize Z.setCell ⟨b,3,none⟩ (.slice (some ⟨g,0,none⟩) (p.less m.src).waits.length cw) = W3 at *
   clear z3 zf3
   clear gZ
   have HI3 := hideA (And.intro HIn3 HMv3)
   clear HIn3 HMv3
   refine (HL.out W3 _ (p.less m.src) ⟨_,_,_,_,HI3.out.1⟩ (HI3.out.2.owns HM0.out.1 hmF) (HI3.out.2.owns HM0.out.2 hlF)).mono ?_
   rintro e V ⟨⟨v,rfl⟩,F1,t1,t2,t3⟩
   have HTo := hideA (And.intro t1 (And.intro t2 t3))
   clear t1 t2 t3
   go_wp2_with fail
   refine (HE.out V F1 _ HTo.out.1).mono ?_
   rintro e V' ⟨rfl,rfl⟩
   have hAft : Moved w V' F ∧ ∀ k,F1 k → F k ∨ w.heap.size ≤ k := by
    have hs := HI3.out.2.size
    refine ⟨HI3.out.2.trans HTo.out.2.1 (fun k hk h5 => ?_),fun k hk => ?_⟩
    ·rcases h5 with h6 | h6
     ·exact h6
     ·omega
    ·rcases HTo.out.2.2 k hk with h6 | h6
     ·rcases h6 with h7 | h7
      ·exact .inl h7
      ·exact .inr h7.1
     ·exact .inr (by omega)
   have HAft := hideA hAft
   clear hAft
   generalize hq9 : (p.less m.src).learn m = q9 at *
   cases hen : q9.enough with
   | false =>
    have HV2 : Hid (p.take own m = (q9, [])) := hideA (by rw [HV.out,if_neg (by rw [hen]; simp)])
    go_wp2_with fail
    go_ret
    rw [HV2.out]
    exact ⟨_,F1,rfl,HTo.out.1,HAft.out.1,HAft.out.2,MsgsOwn.nil _ _⟩
   | true =>
    have HV2 : Hid (p.take own m = q9.goOn own) := hideA (by rw [HV.out,if_pos hen])
    go_wp2_with fail
    refine (HG.out V' F1 q9 HTo.out.1 HOK2.out).mono ?_
    intro e Z2 hO
    obtain ⟨v2,F2,rfl,r1,r2,r3,r4⟩ := hO
    obtain ⟨a8,c8,rfl⟩ := r4.shape
    have HR := hideA (And.intro r1 (And.intro r2 (And.intro r3 r4)))
    clear r1 r2 r3 r4
    generalize hpl : (q9.goOn own).2.length = pl at *
    go_wp2_with fail
    go_ret
    rw [HV2.out]
    exact MasOut.after HAft.out.1 HAft.out.2 ⟨_,F2,rfl,HR.out.1,HR.out.2.1,HR.out.2.2.1,HR.out.2.2.2⟩
 ·have hix : idxI p.waits m.src = -1 := by unfold idxI; rw [if_neg hin]
  rw [hix] at HX
  have HV : Hid (p.take own m = (p, [])) := hideA (by rw [HT.out,if_neg (fun e => hin e.1)])
  have HIN := hideA hin
  clear hin hix
  go_enter Tryz.func239,Tryz.ntmps239
  go_upto_region 1 with fail
  obtain ⟨X,hX,hbX,hM⟩ := msg_box w m (.slice a1 m.mems.length d1) (.slice a2 m.log.length d2)
  rw [hX]
  clear hX
  have IX := hideA (HI.out.below hbX)
  have s3 := cell_of_heap IX.out.blk 3
  have gM := fun j => cell_of_heap hM j
  clear hM
  go_quiet ((go_at_call 152; refine (HX.out _ (below_drewN hbX _)).mono ?_; rintro e w9 ⟨rfl,rfl⟩; exact ⟨rfl,_,rfl⟩))
  have hbD := below_drewN hbX nq
  clear gM s3
  go_wp2_with fail
  go_ret
  rw [HV.out]
  exact MasOut.still HA.out hbD
theorem owns_set {w : World} {b j : Nat} {cs : Array Value} {T : TypeId} {base size n : Nat} {e : TypeId} {v : Value} {xs : List Value} (hb : w.heap[b]? = some (.cells cs T)) (hv : w.ownsRow base e size v n xs) (he : e ≠ T) (u : Value) : (w.setCell ⟨b,j,none⟩ u).ownsRow base e size v n xs :=
 ownsRow_setCell_other hv (blk_type hb hv he) u
set_option maxRecDepth 100000 in
set_option maxHeartbeats 1000000 in
theorem begin_any (b : Nat) (own : Int) (r : Rep) (vm vl : Value) (m : Msg) (mm ml : Value) (w : World) (h : RepAt w b own r vm vl) (h1 : IntOwn w mm m.mems) (h2 : LogOwn w ml m.log) (hm1 : m.mems.length ≤ 5) (hm2 : m.log.length ≤ 24) :
  Calls Tryz.prog 279 #[.pointer (some ⟨b,0,none⟩),mval m mm ml] w fun e w' => (∃ v,e = .returned v) ∧ RepTo w w' b own vm vl { r with epoch := m.epoch,mems := m.mems,log := m.log,base := m.log.length,commit := m.log.length } := by
 have hbl : b < w.heap.size := (Array.getElem?_eq_some_iff.1 h.blk).1
 obtain ⟨am,cm,rfl⟩ := owns_shape h1
 obtain ⟨al,cl,rfl⟩ := owns_shape h2
 have HR := hideA h
 have H1 := hideA h1
 have H2 := hideA h2
 clear h h1 h2
 unfold mval
 go_enter Tryz.func279,Tryz.ntmps279
 go_upto_region 1 with fail
 obtain ⟨X,hX,hbX,hBX⟩ := msg_box w m (.slice am m.mems.length cm) (.slice al m.log.length cl)
 rw [hX]
 clear hX
 have RX := hideA (HR.out.below hbX)
 have g3 := cell_of_heap hBX 3
 have g8 := cell_of_heap hBX 8
 have c1 : X.cell? ⟨b,1,none⟩ = some (.int .i64 r.epoch) := cell_of_heap RX.out.blk 1
 have f1 : X.frozen? ⟨b,1,none⟩ = false := frozen_of_heap RX.out.blk 1
 have hXl : w.heap.size < X.heap.size := (Array.getElem?_eq_some_iff.1 hBX).1
 have HB1 : Hid ((X.setCell ⟨b,1,none⟩ (.int .i64 m.epoch)).heap[w.heap.size]? = some (.cells #[.int .i64 m.kind, .int .i64 m.src, .int .i64 m.dst, .int .i64 m.epoch, .int .i64 m.ballot, .int .i64 m.vote, .int .i64 m.pos, .int .i64 m.value, .slice am m.mems.length cm, .slice al m.log.length cl] 134)) := hideA ((Below.heap_setCell _ _ _ _ (by show w.heap.size ≠ b; omega)).trans hBX)
 have g8' := cell_of_heap HB1.out 8
 have R1 := hideA (RX.out.set 1 (.int .i64 m.epoch) { r with epoch := m.epoch } vm vl rfl RX.out.hm RX.out.hl)
 have M1 := hideA (((Moved.refl w (RepS b vm vl)).below hbX).setCell ⟨b,1,none⟩ (.inl rfl) (.int .i64 m.epoch))
 have I1 : Hid (IntOwn (X.setCell ⟨b,1,none⟩ (.int .i64 m.epoch)) (.slice am m.mems.length cm) m.mems) := hideA (owns_set RX.out.blk (owns_kept H1.out fun k _ hk => hbX.block k hk) (by decide) _)
 have L1 : Hid (LogOwn (X.setCell ⟨b,1,none⟩ (.int .i64 m.epoch)) (.slice al m.log.length cl) m.log) := hideA (owns_set RX.out.blk (owns_kept H2.out fun k _ hk => hbX.block k hk) (by decide) _)
 go_wp2_with fail
 refine (cloneMems_any _ m.mems _ I1.out (by omega)).mono ?_
 rintro e W2 ⟨a2,c2,rfl,ho2,hb2⟩
 have R2 := hideA (R1.out.below hb2)
 have M2 := hideA (M1.out.below hb2)
 have HB2 := hideA ((hb2.block _ (Array.getElem?_eq_some_iff.1 HB1.out).1).trans HB1.out)
 have L2 := hideA (owns_kept L1.out fun k _ hk => hb2.block k hk)
 have O2 := hideA ho2
 clear g3 g8 c1 f1 g8' hBX ho2 hXl
 have c3 : W2.cell? ⟨b,3,none⟩ = some vm := cell_of_heap R2.out.blk 3
 have f3 : W2.frozen? ⟨b,3,none⟩ = false := frozen_of_heap R2.out.blk 3
 have g9 := cell_of_heap HB2.out 9
 have HB3 : Hid ((W2.setCell ⟨b,3,none⟩ (.slice a2 m.mems.length c2)).heap[w.heap.size]? = _) := hideA ((Below.heap_setCell _ _ _ _ (by show w.heap.size ≠ b; omega)).trans HB2.out)
 have g9' := cell_of_heap HB3.out 9
 have R3 := hideA (R2.out.set 3 (.slice a2 m.mems.length c2) { r with epoch := m.epoch,mems := m.mems } (.slice a2 m.mems.length c2) vl rfl (owns_base O2.out (Nat.zero_le _)) R2.out.hl)
 have M3 := hideA (M2.out.setCell ⟨b,3,none⟩ (.inl rfl) (.slice a2 m.mems.length c2))
 have L3 := hideA (owns_set (j := 3) R2.out.blk L2.out (by decide) (.slice a2 m.mems.length c2))
 have G3 : Hid (Grows w vm (.slice a2 m.mems.length c2)) := hideA (fun k hk => by
  obtain ⟨_,_,h'⟩ := ownBlock_cells O2.out hk
  have hx := M1.out.size
  exact .inr (by omega))
 go_wp2_with fail
 refine (cloneLog_any _ m.log _ L3.out (by omega)).mono ?_
 rintro e W4 ⟨a4,c4,rfl,ho4,hb4⟩
 have R4 := hideA (R3.out.below hb4)
 have M4 := hideA (M3.out.below hb4)
 have O4 := hideA ho4
 clear c3 f3 g9 g9' ho4
 have c4' : W4.cell? ⟨b,4,none⟩ = some vl := cell_of_heap R4.out.blk 4
 have f4 : W4.frozen? ⟨b,4,none⟩ = false := frozen_of_heap R4.out.blk 4
 have G4 : Hid (Grows w vl (.slice a4 m.log.length c4)) := hideA (fun k hk => by
  obtain ⟨_,_,h'⟩ := ownBlock_cells O4.out hk
  have hx := M3.out.size
  exact .inr (by omega))
 have R5 := hideA (R4.out.set 4 (.slice a4 m.log.length c4) { r with epoch := m.epoch,mems := m.mems,log := m.log } (.slice a2 m.mems.length c2) (.slice a4 m.log.length c4) rfl R4.out.hm (owns_base O4.out (Nat.zero_le _)))
 have M5 := hideA (M4.out.setCell ⟨b,4,none⟩ (.inl rfl) (.slice a4 m.log.length c4))
 have R6 := hideA (R5.out.set 5 (.int .i64 (m.log.length : Int)) { r with epoch := m.epoch,mems := m.mems,log := m.log,base := m.log.length } (.slice a2 m.mems.length c2) (.slice a4 m.log.length c4) rfl R5.out.hm R5.out.hl)
 have M6 := hideA (M5.out.setCell ⟨b,5,none⟩ (.inl rfl) (.int .i64 (m.log.length : Int)))
 have R7 := hideA (R6.out.set 6 (.int .i64 (m.log.length : Int)) { r with epoch := m.epoch,mems := m.mems,log := m.log,base := m.log.length,commit := m.log.length } (.slice a2 m.mems.length c2) (.slice a4 m.log.length c4) rfl R6.out.hm R6.out.hl)
 have M7 := hideA (M6.out.setCell ⟨b,6,none⟩ (.inl rfl) (.int .i64 (m.log.length : Int)))
 have d4 : (W4.setCell ⟨b,4,none⟩ (.slice a4 m.log.length c4)).cell? ⟨b,4,none⟩ = some (.slice a4 m.log.length c4) := cell_of_heap R5.out.blk 4
 have d5 : (W4.setCell ⟨b,4,none⟩ (.slice a4 m.log.length c4)).cell? ⟨b,5,none⟩ = some (.int .i64 (r.base : Int)) := cell_of_heap R5.out.blk 5
 have d5f : (W4.setCell ⟨b,4,none⟩ (.slice a4 m.log.length c4)).frozen? ⟨b,5,none⟩ = false := frozen_of_heap R5.out.blk 5
 have e4 : ((W4.setCell ⟨b,4,none⟩ (.slice a4 m.log.length c4)).setCell ⟨b,5,none⟩ (.int .i64 (m.log.length : Int))).cell? ⟨b,4,none⟩ = some (.slice a4 m.log.length c4) := cell_of_heap R6.out.blk 4
 have e6 : ((W4.setCell ⟨b,4,none⟩ (.slice a4 m.log.length c4)).setCell ⟨b,5,none⟩ (.int .i64 (m.log.length : Int))).cell? ⟨b,6,none⟩ = some (.int .i64 (r.commit : Int)) := cell_of_heap R6.out.blk 6
 have e6f : ((W4.setCell ⟨b,4,none⟩ (.slice a4 m.log.length c4)).setCell ⟨b,5,none⟩ (.int .i64 (m.log.length : Int))).frozen? ⟨b,6,none⟩ = false := frozen_of_heap R6.out.blk 6
 have q5 : W4.cell? ⟨b,5,none⟩ = some (.int .i64 (r.base : Int)) := cell_of_heap R4.out.blk 5
 have q6 : W4.cell? ⟨b,6,none⟩ = some (.int .i64 (r.commit : Int)) := cell_of_heap R4.out.blk 6
 have q5f : W4.frozen? ⟨b,5,none⟩ = false := frozen_of_heap R4.out.blk 5
 have q6f : W4.frozen? ⟨b,6,none⟩ = false := frozen_of_heap R4.out.blk 6
 go_wp2_with fail
 go_end0
 exact ⟨⟨_,rfl⟩,_,_,R7.out,M7.out,G3.out,G4.out⟩
set_option maxRecDepth 100000 in
set_option maxHeartbeats 1000000 in
theorem takeInstall_any (b : Nat) (own : Int) (r : Rep) (vm vl : Value) (m : Msg) (mm ml : Value) (w : World) (h : RepAt w b own r vm vl) (h1 : IntOwn w mm m.mems) (h2 : LogOwn w ml m.log) (hm1 : m.mems.length ≤ 5) (hm2 : m.log.length ≤ 24) :
  Calls Tryz.prog 269 #[.pointer (some ⟨b,0,none⟩),mval m mm ml] w fun e w' => RepOut w w' b own vm vl e (r.takeInstall own m) := by
 have HT : Hid (r.takeInstall own m = (if r.epoch < m.epoch then { r with epoch := m.epoch,mems := m.mems,log := m.log,base := m.log.length,commit := m.log.length } else r, [{ kind := 14,src := own,dst := m.src,epoch := m.epoch }])) := hideA rfl
 have hbl : b < w.heap.size := (Array.getElem?_eq_some_iff.1 h.blk).1
 have HG : Hid (∀ W,Below w.heap.size w W → Calls Tryz.prog 279 #[.pointer (some ⟨b,0,none⟩), .agg #[.int .i64 m.kind, .int .i64 m.src, .int .i64 m.dst, .int .i64 m.epoch, .int .i64 m.ballot, .int .i64 m.vote, .int .i64 m.pos, .int .i64 m.value,mm,ml]] W fun e w' => (∃ v,e = .returned v) ∧ RepTo W w' b own vm vl { r with epoch := m.epoch,mems := m.mems,log := m.log,base := m.log.length,commit := m.log.length }) := hideA fun W hb => begin_any b own r vm vl m mm ml W (h.below hb) (owns_kept h1 fun k _ hk => hb.block k hk) (owns_kept h2 fun k _ hk => hb.block k hk) hm1 hm2
 have HR := hideA h
 clear h h1 h2
 unfold mval
 go_enter Tryz.func269,Tryz.ntmps269
 go_wp2_with fail
 obtain ⟨X,hX,hbX,hBX⟩ := msg_box w m mm ml
 rw [hX]
 clear hX
 have RX := hideA (HR.out.below hbX)
 have c1 : X.cell? ⟨b,1,none⟩ = some (.int .i64 r.epoch) := cell_of_heap RX.out.blk 1
 have g3 := cell_of_heap hBX 3
 have HBX := hideA hBX
 clear hBX
 by_cases he : r.epoch < m.epoch
 ·have HN : Hid (r.takeInstall own m = ({ r with epoch := m.epoch,mems := m.mems,log := m.log,base := m.log.length,commit := m.log.length }, [{ kind := 14,src := own,dst := m.src,epoch := m.epoch }])) := hideA (by rw [HT.out,if_pos he])
  go_quiet (fail)
  have hbY := below_drewN hbX nq
  have RY := hideA (HR.out.below hbY)
  have HBY : Hid ((X.drewN nq).heap[w.heap.size]? = some (.cells #[.int .i64 m.kind, .int .i64 m.src, .int .i64 m.dst, .int .i64 m.epoch, .int .i64 m.ballot, .int .i64 m.vote, .int .i64 m.pos, .int .i64 m.value,mm,ml] 134)) := HBX
  generalize X.drewN nq = Y at *
  clear c1 g3 RX HBX
  have y0 := cell_of_heap HBY.out 0
  have y1 := cell_of_heap HBY.out 1
  have y2 := cell_of_heap HBY.out 2
  have y3 := cell_of_heap HBY.out 3
  have y4 := cell_of_heap HBY.out 4
  have y5 := cell_of_heap HBY.out 5
  have y6 := cell_of_heap HBY.out 6
  have y7 := cell_of_heap HBY.out 7
  have y8 := cell_of_heap HBY.out 8
  have y9 := cell_of_heap HBY.out 9
  go_wp2_with fail
  refine (HG.out _ hbY).mono ?_
  rintro e Z ⟨⟨v0,rfl⟩,hto⟩
  obtain ⟨vm',vl',RZ,MZ,G1,G2⟩ := hto
  clear y0 y1 y2 y3 y4 y5 y6 y7 y8 y9
  have hBZ : Z.heap[w.heap.size]? = some (.cells #[.int .i64 m.kind, .int .i64 m.src, .int .i64 m.dst, .int .i64 m.epoch, .int .i64 m.ballot, .int .i64 m.vote, .int .i64 m.pos, .int .i64 m.value,mm,ml] 134) := by
   rw [MZ.block _ (Array.getElem?_eq_some_iff.1 HBY.out).1]
   ·exact HBY.out
   ·rintro (e1 | e1 | e1)
    ·omega
    ·exact blk_type HBY.out RY.out.hm (by decide) e1
    ·exact blk_type HBY.out RY.out.hl (by decide) e1
  have MW : Moved w Z (RepS b vm vl) := ((Moved.refl w _).below hbY).trans MZ (fun _ _ h => h)
  have GA := hideA (show Grows w vm vm' from (Grows.refl w vm).trans G1 hbY.size)
  have GB := hideA (show Grows w vl vl' from (Grows.refl w vl).trans G2 hbY.size)
  have z0 : Z.cell? ⟨b,0,none⟩ = some (.int .i64 own) := cell_of_heap RZ.blk 0
  have z1 := cell_of_heap hBZ 1
  have z3 := cell_of_heap hBZ 3
  have HRZ := hideA RZ
  clear RZ hBZ G1 G2
  go_wp2_with fail
  go_region_held3 (fun w' => w'.cell? ⟨b,0,none⟩ = some (.int .i64 own) ∧ w'.cell? ⟨w.heap.size,1,none⟩ = some (.int .i64 m.src) ∧ w'.cell? ⟨w.heap.size,3,none⟩ = some (.int .i64 m.epoch)) (first | (simp [go_sem]; done) | (simp [go_sem, *]; done) | go_keep) (fail)
  all_goals
   go_wp2_with fail
   go_ret
   rw [HN.out]
   have hMs := MW.size
   exact ⟨_,rfl,RepTo.then MW GA.out GB.out (RepTo.still HRZ.out (((Below.refl _ Z).alloc (Nat.le_refl _) _).drew)),MsgsOwn.one { kind := 14,src := own,dst := m.src,epoch := m.epoch } (.slice none 0 0) (.slice none 0 0) (heap_new _ _) hMs (IntOwn.nil _) (LogOwn.nil _)⟩
 ·have hed : decide (r.epoch < m.epoch) = false := decide_eq_false he
  have HN : Hid (r.takeInstall own m = (r, [{ kind := 14,src := own,dst := m.src,epoch := m.epoch }])) := hideA (by rw [HT.out,if_neg he])
  go_quiet (fail)
  have hbY := below_drewN hbX nq
  have RY := hideA (HR.out.below hbY)
  have HBY : Hid ((X.drewN nq).heap[w.heap.size]? = some (.cells #[.int .i64 m.kind, .int .i64 m.src, .int .i64 m.dst, .int .i64 m.epoch, .int .i64 m.ballot, .int .i64 m.vote, .int .i64 m.pos, .int .i64 m.value,mm,ml] 134)) := HBX
  generalize X.drewN nq = Z at *
  clear c1 g3 RX HBX
  have z0 : Z.cell? ⟨b,0,none⟩ = some (.int .i64 own) := cell_of_heap RY.out.blk 0
  have z1 := cell_of_heap HBY.out 1
  have z3 := cell_of_heap HBY.out 3
  go_wp2_with fail
  go_region_held3 (fun w' => w'.cell? ⟨b,0,none⟩ = some (.int .i64 own) ∧ w'.cell? ⟨w.heap.size,1,none⟩ = some (.int .i64 m.src) ∧ w'.cell? ⟨w.heap.size,3,none⟩ = some (.int .i64 m.epoch)) (first | (simp [go_sem]; done) | (simp [go_sem, *]; done) | go_keep) (fail)
  all_goals
   go_wp2_with fail
   go_ret
   rw [HN.out]
   exact ⟨_,rfl,RepTo.still HR.out ((hbY.alloc hbY.size _).drew),MsgsOwn.one { kind := 14,src := own,dst := m.src,epoch := m.epoch } (.slice none 0 0) (.slice none 0 0) (heap_new _ _) hbY.size (IntOwn.nil _) (LogOwn.nil _)⟩
end Go.Proofs.YtgieeeeeiggoeaaGreat
