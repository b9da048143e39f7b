import Derived.Test.YtgieeeeeiggoeaaGreatQ51
import Derived.Test.YtgieeeeeiggoeaaGreatQ14
import Derived.Test.YtgieeeeeiggoeaaGreatQ50
namespace Go.Proofs.YtgieeeeeiggoeaaGreat
open Go.RowKit Go.Shelf
structure Fine (r : Run) (B : Nat) : Prop where
 ri : ∃ E g,RI r E g
 wl : r.wishes.length ≤ 900000
 fl : r.fixed.length ≤ 24
 tl : r.x.told.length ≤ B
set_option maxRecDepth 100000 in
set_option maxHeartbeats 2000000 in
theorem kdrain_any {w0 w : World} {p x : Nat} {r : Run} {B : Nat} (h : RunAt w0 w p x r) (hf : Fine r B) (hB : B + 5000 ≤ 2999999999999) :
  Calls Tryz.prog 16 #[.pointer (some ⟨p,0,none⟩)] w fun z w' => (∃ v,z = .returned v) ∧ RunAt w0 w' p x (Run.drain 5000 r) ∧ Fine (Run.drain 5000 r) (B + 5000) := by
 have H0 := hideA (And.intro h hf)
 clear h
 go_enter Tryz.func16,Tryz.ntmps16
 go_wp2_with fail
 go_loopw [2] (fun i wr => ∃ k : Nat,k ≤ 5000 ∧ i = .int .i64 k ∧ ∃ r',RunAt w0 wr p x r' ∧ Fine r' (B + k) ∧ Run.drain (5000 - k) r' = Run.drain 5000 r) (fun i _ => 5000 - (intOf i).toNat)
 case atStart => exact ⟨0,Nat.zero_le _,rfl,r,H0.out.1,H0.out.2,rfl⟩
 case round =>
  obtain ⟨k,hk,rfl,r',hA,hF,hD⟩ := hrel
  obtain ⟨E,g,hri⟩ := hF.ri
  have hA2 := hA
  obtain ⟨FX,FR,vW,vF,vL,hR,hn,hb0⟩ := hA2
  have HR := hideA (And.intro hR (And.intro hn hb0))
  have HF := hideA hF
  have HA := hideA hA
  have HD := hideA hD
  have hpok : POK r'.x := ⟨⟨_,_,hri.mid.good⟩,by have := hF.tl; omega⟩
  by_cases hlt : k < 5000
  ·have hk1 : (k : Int) < 5000 := by omega
   have q0 : wr.cell? ⟨p,0,none⟩ = some (.pointer (some ⟨x,0,none⟩)) := cell_of_heap hR.blk 0
   have HBg := hideA (bagLen_any cApi p x FX r'.x wr q0 hR.clu hpok)
   clear hR hn hb0 hA hF hD
   go_wp2_with fail
   refine HBg.out.mono ?_
   rintro z V ⟨rfl,hbV⟩
   have hRV := HR.out.1.below hbV
   by_cases hbag : r'.x.bag.length = 0
   ·have hfin : Hid (Run.drain 5000 r = r') := hideA (by rw [← HD.out]; exact drain_stop hbag _)
    have hz : ((r'.x.bag.length : Nat) : Int) = 0 := by omega
    rw [hz]
    clear hz q0
    go_wp2_with fail
    go_end0
    rw [hfin.out]
    exact ⟨⟨_,rfl⟩,HA.out.below hbV,HF.out.ri,HF.out.wl,HF.out.fl,by have := HF.out.tl; omega⟩
   ·have hz : (0 : Int) < (r'.x.bag.length : Int) := by omega
    obtain ⟨d0,⟨E',g',hmid⟩,dk⟩ := drain_step hri hbag
    have v0 : V.cell? ⟨p,0,none⟩ = some (.pointer (some ⟨x,0,none⟩)) := cell_of_heap hRV.blk 0
    have v9 : V.cell? ⟨p,9,none⟩ = some (.bool true) := by
     have := cell_of_heap hRV.blk 9
     rw [show (runCells r' x vW vF vL)[9]? = some (.bool r'.ok) from rfl,hri.mid.flags.1] at this
     exact this
    have HDl := hideA (cApi.deliver 0 hRV.clu hpok)
    rw [d0] at HDl
    have HRV := hideA hRV
    clear hRV q0
    go_wp2_with fail
    refine HDl.out.mono ?_
    rintro z U ⟨rfl,hAf⟩
    have hAU := RunAt.after HRV.out HR.out.2.1 (HR.out.2.2.trans (hbV.mono HR.out.2.2.size)) _ hAf
    obtain ⟨F',r1,r2,r3⟩ := HRV.out.after _ hAf
    have u9 : U.cell? ⟨p,9,none⟩ = some (.bool true) := by
     have := cell_of_heap r1.blk 9
     rw [show (runCells { r' with x := (r'.x.deliver 0).1 } x vW vF vL)[9]? = some (.bool r'.ok) from rfl,hri.mid.flags.1] at this
     exact this
    have f9 := frozen_of_heap r1.blk 9
    have hsame : U.setCell ⟨p,9,none⟩ (.bool true) = U := setCell_same r1.blk (by rw [show (runCells { r' with x := (r'.x.deliver 0).1 } x vW vF vL)[9]? = some (.bool r'.ok) from rfl,hri.mid.flags.1])
    have HLk := hideA (look_any hAU hmid HF.out.wl HF.out.fl (by have := deliver_told r'.x 0; have := HF.out.tl; show (r'.x.deliver 0).1.told.length ≤ _; omega))
    clear hAf r1 r2 r3 v0 v9
    go_wp2_with fail
    refine HLk.out.mono ?_
    rintro z T ⟨⟨v,rfl⟩,hAT⟩
    have HAT := hideA hAT
    clear hAT u9 f9 hsame
    go_wp2_with fail
    go_roundw
    case rel =>
     refine ⟨k + 1,by omega,by go_num,_,HAT.out,⟨⟨_,_,hmid.look.1⟩, ?_,look_small hmid HF.out.fl, ?_⟩, ?_⟩
     ·rw [hmid.look.2.2.2.1]
      exact HF.out.wl
     ·rw [hmid.look.2.1]
      have := deliver_told r'.x 0
      have := HF.out.tl
      show (r'.x.deliver 0).1.told.length ≤ _
      omega
     ·rw [← HD.out,show 5000 - k = (5000 - (k + 1)) + 1 by omega,dk]
    case measure => simp [intOf]; omega
  ·obtain rfl : k = 5000 := by omega
   have hfin : Hid (Run.drain 5000 r = r') := hideA (by rw [← HD.out]; rfl)
   clear hR hn hb0 hA hF hD
   go_wp2_with fail
   go_end0
   rw [hfin.out]
   exact ⟨⟨_,rfl⟩,HA.out,HF.out⟩
theorem infoWish : (Tryz.prog.info? 78).map (fun i => (i.zero,i.size,i.bytes)) = some (some (.agg #[.int .i64 0, .int .i64 0, .int .i64 0, .int .i64 0, .int .i64 0, .int .i64 0]),6,48) := by kernel_rfl
theorem set14_2 {W : World} {p x : Nat} {r : Run} {vW vF vL : Value} (v : Value) (ws : List Wish) (h : W.heap[p]? = some (.cells (runCells r x vW vF vL) 40)) : (W.setCell ⟨p,2,none⟩ v).heap[p]? = some (.cells (runCells { r with wishes := ws } x v vF vL) 40) := heap_setCell_same _ _ _ _ _ _ h
theorem RunIn.wish {w w' : World} {p x : Nat} {FX FR : Nat → Prop} {r : Run} {vW vF vL : Value} (h : RunIn w p x FX FR r vW vF vL) (ws : List Wish) (vW' : Value)
  (hblk : w'.heap[p]? = some (.cells (runCells { r with wishes := ws } x vW' vF vL) 40)) (hrow : w'.ownsRow 0 78 6 vW' ws.length (ints (wishNums ws))) (hM : Moved w w' (fun k => k = p ∨ vW.ownBlock = some k)) (hg : Grows w vW vW') :
  RunIn w' p x FX FR { r with wishes := ws } vW' vF vL ∧ ∀ k,OwnR p vW' vF vL FR k → OwnR p vW vF vL FR k ∨ w.heap.size ≤ k := by
 have hX : ∀ k,FX k → w'.heap[k]? = w.heap[k]? := fun k hk => hM.block k (cApi.lt h.clu hk) (fun e => h.off k hk (e.imp id .inl))
 have hrow2 : ∀ {base size n : Nat} {e : TypeId} {v : Value} {xs : List Value},w.ownsRow base e size v n xs → e ≠ 78 → e ≠ 40 → w'.ownsRow base e size v n xs := by
  intro base size n e v xs hv h1 h2
  refine hM.owns hv fun k hk hS => ?_
  rcases hS with e1 | e1
  ·exact blk_type h.blk hv h2 (e1 ▸ hk)
  ·exact owns_two hv h.hW h1 k hk e1
 have hO : ∀ k,OwnR p vW' vF vL FR k → OwnR p vW vF vL FR k ∨ w.heap.size ≤ k := by
  rintro k (e | e | e | e | e)
  ·exact .inl (.inl e)
  ·exact (hg k e).imp (fun e => .inr (.inl e)) id
  ·exact .inl (.inr (.inr (.inl e)))
  ·exact .inl (.inr (.inr (.inr (.inl e))))
  ·exact .inl (.inr (.inr (.inr (.inr e))))
 refine ⟨⟨hblk,cApi.keep h.clu hX,hrow,hrow2 h.hF (by decide) (by decide), ?_,fun k hk hk2 => ?_,fun k e => ?_⟩,hO⟩
 ·obtain ⟨ws,h1,h2,h3⟩ := h.hL
  exact ⟨ws,h1,hrow2 h2 (by decide) (by decide),fun t ht => ⟨hrow2 (h3 t ht).1 (by decide) (by decide),hrow2 (h3 t ht).2.1 (by decide) (by decide),(h3 t ht).2.2.1,(h3 t ht).2.2.2⟩⟩
 ·rcases hO k hk2 with e | e
  ·exact h.off k hk e
  ·have := cApi.lt h.clu hk; omega
 ·have := h.lt k e
  have := hM.size
  omega
theorem wish_snoc (l : List Wish) (x : Wish) : ints (wishNums (l ++ [x])) = ints (wishNums l) ++ [.int .i64 x.e.client, .int .i64 x.e.seq, .int .i64 x.e.kind, .int .i64 x.e.key, .int .i64 x.e.value, .int .i64 x.floor] := by
 unfold wishNums ints
 rw [List.flatMap_append,List.map_append]
 rfl
set_option maxRecDepth 100000 in
set_option maxHeartbeats 4000000 in
theorem kask_in {w0 w : World} {p x : Nat} {FX FR : Nat → Prop} {r : Run} {vW vF vL : Value} {E : Int} {g : Gh} (d : Int) (e : Ent) (h : RunIn w p x FX FR r vW vF vL) (hn : ∀ k,FX k ∨ OwnR p vW vF vL FR k → w0.heap.size ≤ k) (hb0 : Below w0.heap.size w0 w) (hm : Mid r E g) (hd : r.x.isRep d) (he : e.ok = true) (hwl : r.wishes.length ≤ 900000) (htl : r.x.told.length ≤ 2999999999999) :
  Calls Tryz.prog 13 #[.pointer (some ⟨p,0,none⟩), .int .i64 d, .agg #[.int .i64 e.client, .int .i64 e.seq, .int .i64 e.kind, .int .i64 e.key, .int .i64 e.value]] w fun z w' => (∃ v,z = .returned v) ∧ RunAt w0 w' p x (r.ask d e) ∧ KeepB w w' p FX FR vW vF vL := by
 obtain ⟨hgood2,hzero⟩ := hm.good.ask d e hd he
 have hok := hm.flags.1
 have HR : Hid (r.ask d e = { r with x := (r.x.ask d e).1,wishes := if r.wishes.any (fun w => decide (w.e = e)) then r.wishes else r.wishes ++ [⟨e,r.top⟩] }) := hideA (by unfold Run.ask; rw [hzero,hok]; rfl)
 have HC : Hid (∀ W,Below w.heap.size w W → Calls Tryz.prog 28 #[.pointer (some ⟨x,0,none⟩), .int .i64 d, .agg #[.int .i64 e.client, .int .i64 e.seq, .int .i64 e.kind, .int .i64 e.key, .int .i64 e.value]] W fun z w' => z = .returned (.int .i64 0) ∧ CAfter W FX x (r.x.ask d e).1 w') := hideA fun W hb => by
  refine (cApi.ask d e (cApi.keep h.clu fun k hk => hb.block k (cApi.lt h.clu hk)) ⟨⟨_,_,hm.good⟩,htl⟩).mono ?_
  rintro z w' ⟨rfl,ha⟩
  rw [hzero]
  exact ⟨rfl,ha⟩
 obtain ⟨X,hX,hbX,hM⟩ := ent_box w e
 have HI := hideA (And.intro h (And.intro hn hb0))
 have HIX := hideA (h.below hbX.drew)
 have hpl : p < w.heap.size := h.ownLt (.inl rfl)
 have hp1 : ¬ p = w.heap.size := by omega
 have hp2 : ¬ w.heap.size = p := by omega
 have c0 := cell_of_heap (h.below hbX).blk 0
 have g0 := cell_of_heap hM 0
 have g1 := cell_of_heap hM 1
 have g2 := cell_of_heap hM 2
 have g3 := cell_of_heap hM 3
 have g4 := cell_of_heap hM 4
 have HM := hideA hM
 have hbd := hbX.drew
 have HBK : Hid (∀ W,Moved X.drew W FX → W.heap[w.heap.size]? = some (.cells #[.int .i64 e.client, .int .i64 e.seq, .int .i64 e.kind, .int .i64 e.key, .int .i64 e.value] 42)) := hideA fun W hMv => (hMv.block w.heap.size (Array.getElem?_eq_some_iff.1 HM.out).1 (fun q => by have := cApi.lt h.clu q; omega)).trans HM.out
 clear hM h hn hb0
 go_enter Tryz.func13,Tryz.ntmps13
 go_wp2_with fail
 go_region_held3 (fun w' => w'.cell? ⟨p,0,none⟩ = some (.pointer (some ⟨x,0,none⟩)) ∧ w'.cell? ⟨w.heap.size,0,none⟩ = some (.int .i64 e.client) ∧ w'.cell? ⟨w.heap.size,1,none⟩ = some (.int .i64 e.seq) ∧ w'.cell? ⟨w.heap.size,2,none⟩ = some (.int .i64 e.kind) ∧ w'.cell? ⟨w.heap.size,3,none⟩ = some (.int .i64 e.key) ∧ w'.cell? ⟨w.heap.size,4,none⟩ = some (.int .i64 e.value)) (first | (refine ⟨?_, ?_, ?_, ?_, ?_, ?_⟩ <;> first | assumption | (simp [go_sem, *]; done)) | (simp [go_sem]; done) | go_keep)
  (first | (go_at_call 28; refine (HC.out _ hbd).mono ?_; rintro z W ⟨rfl,hA⟩; obtain ⟨F',r1,r2,r3⟩ := HIX.out.after _ hA; have hbx := HBK.out W r2; have HW := hideA (And.intro r1 (And.intro r2 (And.intro r3 hbx))); have k0 := cell_of_heap r1.blk 0; have b0 := cell_of_heap hbx 0; have b1 := cell_of_heap hbx 1; have b2 := cell_of_heap hbx 2; have b3 := cell_of_heap hbx 3; have b4 := cell_of_heap hbx 4; clear hA r1 r2 r3 hbx))
 clear c0 g0 g1 g2 g3 g4 k0 HC
 have hnew : ∀ k,F' k ∨ OwnR p vW vF vL FR k → w0.heap.size ≤ k := fun k hk => by
  rcases hk with q | q
  ·rcases HW.out.2.2.1 k q with q | q
   ·exact HI.out.2.1 k (.inl q)
   ·have := HI.out.2.2.size
    have q' : X.heap.size ≤ k := q
    have := hbX.size
    omega
  ·exact HI.out.2.1 k (.inr q)
 have hbW : Below w0.heap.size w0 W := (HI.out.2.2.trans (hbd.mono HI.out.2.2.size)).trans (HW.out.2.1.to_below (fun k q => HI.out.2.1 k (.inl q)) (by have := HI.out.2.2.size; have := hbX.size; show w0.heap.size ≤ X.heap.size; omega))
 have HKp : Hid (KeepB w W p FX FR vW vF vL) := hideA fun k hk hno => (HW.out.2.1.block k (by have := hbX.size; show k < X.heap.size; omega) (fun q => hno (.inl q))).trans (hbd.block k hk)
 obtain ⟨aW,cW,hvW,hWat⟩ := wishAt_of HW.out.1.hW
 subst hvW
 have HWat := hideA hWat
 have k2 : W.cell? ⟨p,2,none⟩ = some (.slice aW r.wishes.length cW) := cell_of_heap HW.out.1.blk 2
 have k8 : W.cell? ⟨p,8,none⟩ = some (.int .i64 r.top) := cell_of_heap HW.out.1.blk 8
 have k9 : W.cell? ⟨p,9,none⟩ = some (.bool true) := by
  have := cell_of_heap HW.out.1.blk 9
  rw [show (runCells { r with x := (r.x.ask d e).1 } x (.slice aW r.wishes.length cW) vF vL)[9]? = some (.bool r.ok) from rfl,hok] at this
  exact this
 have f9 := frozen_of_heap HW.out.1.blk 9
 have hsame : W.setCell ⟨p,9,none⟩ (.bool true) = W := setCell_same HW.out.1.blk (by rw [show (runCells { r with x := (r.x.ask d e).1 } x (.slice aW r.wishes.length cW) vF vL)[9]? = some (.bool r.ok) from rfl,hok])
 clear hWat
 go_wp2_with fail
 go_loopw [7] (fun i wr => ∃ m dn : Nat,m ≤ r.wishes.length ∧ i = .int .i64 m ∧ wr = W.drewN dn ∧ ∀ y ∈ r.wishes.take m,y.e ≠ e) (fun i _ => r.wishes.length - (intOf i).toNat)
 case atStart => exact ⟨0,0,Nat.zero_le _,rfl,rfl,by simp⟩
 case round =>
  obtain ⟨m,dn,hm1,rfl,rfl,hno⟩ := hrel
  by_cases hlm : m < r.wishes.length
  ·have hwm : r.wishes[m]? = some r.wishes[m] := List.getElem?_eq_getElem hlm
   obtain ⟨bW,rfl,w0_,w1,w2,w3,w4,w5⟩ := HWat.out m _ hwm
   have w0 := w0_
   clear w0_
   have hm2 : (m : Int) < (r.wishes.length : Int) := by omega
   have hmem : Hid (r.wishes[m] ∈ r.wishes) := hideA (List.getElem_mem hlm)
   have htk : Hid (r.wishes.take (m + 1) = r.wishes.take m ++ [r.wishes[m]]) := hideA (List.take_succ_eq_append_getElem hlm)
   have HNo := hideA hno
   clear hno
   generalize r.wishes[m] = y at *
   clear hwm
   by_cases he3 : y.e = e
   ·have HV : Hid (r.ask d e = { r with x := (r.x.ask d e).1 }) := hideA (by
     rw [HR.out,if_pos]
     rw [List.any_eq_true]
     exact ⟨y,hmem.out,by simp [he3]⟩)
    rw [he3] at w0 w1 w2 w3 w4
    clear he3
    go_wp2_with fail
    go_quiet (fail)
    have hbq := below_drewN (Below.refl W.heap.size W) nq
    go_wp2_with fail
    (try simp only [Exit.inBlock,Exit.then]); refine bodyPost_ret (results_none rfl _ _ _) rfl ?_
    rw [HV.out]
    refine ⟨⟨_,rfl⟩,⟨F',FR,_,vF,vL,HW.out.1.below ?_,hnew, ?_⟩, ?_⟩
    ·first | exact hbq | exact below_drewN (Below.refl _ _) _ | exact below_drewN (below_drewN (Below.refl _ _) _) _
    ·first | exact below_drewN hbW _ | exact below_drewN (below_drewN hbW _) _
    ·exact HKp.out
   ·have HNx : Hid (∀ z ∈ r.wishes.take (m + 1),z.e ≠ e) := hideA (by
     rw [htk.out]
     intro z hz
     rcases List.mem_append.1 hz with q | q
     ·exact HNo.out z q
     ·rw [List.mem_singleton] at q
      rw [q]
      exact he3)
    have he2 := hideA he3
    clear he3
    by_cases h0 : y.e.client = e.client
    ·rw [h0] at w0
     by_cases h1 : y.e.seq = e.seq
     ·rw [h1] at w1
      by_cases h2 : y.e.kind = e.kind
      ·rw [h2] at w2
       by_cases h3 : y.e.key = e.key
       ·rw [h3] at w3
        by_cases h4 : y.e.value = e.value
        ·rw [h4] at w4
         exact absurd (ent_ext h0 h1 h2 h3 h4) he2.out
        ·have hdd : (y.e.value == e.value) = false := by simpa using h4
         go_wp2_with fail
         go_quiet (fail)
         go_wp2_with fail
         go_roundw
         case rel => exact ⟨m + 1,_,by omega,by go_num,rfl,HNx.out⟩
         case measure => simp [intOf]; omega
       ·have hdd : (y.e.key == e.key) = false := by simpa using h3
        go_wp2_with fail
        go_quiet (fail)
        go_wp2_with fail
        go_roundw
        case rel => exact ⟨m + 1,_,by omega,by go_num,rfl,HNx.out⟩
        case measure => simp [intOf]; omega
      ·have hdd : (y.e.kind == e.kind) = false := by simpa using h2
       go_wp2_with fail
       go_quiet (fail)
       go_wp2_with fail
       go_roundw
       case rel => exact ⟨m + 1,_,by omega,by go_num,rfl,HNx.out⟩
       case measure => simp [intOf]; omega
     ·have hdd : (y.e.seq == e.seq) = false := by simpa using h1
      go_wp2_with fail
      go_quiet (fail)
      go_wp2_with fail
      go_roundw
      case rel => exact ⟨m + 1,_,by omega,by go_num,rfl,HNx.out⟩
      case measure => simp [intOf]; omega
    ·have hdd : (y.e.client == e.client) = false := by simpa using h0
     go_wp2_with fail
     go_quiet (fail)
     go_wp2_with fail
     go_roundw
     case rel => exact ⟨m + 1,_,by omega,by go_num,rfl,HNx.out⟩
     case measure => simp [intOf]; omega
  ·obtain rfl : m = r.wishes.length := by omega
   have HV : Hid (r.ask d e = { r with x := (r.x.ask d e).1,wishes := r.wishes ++ [⟨e,r.top⟩] }) := hideA (by
    rw [HR.out,if_neg]
    rw [List.any_eq_true]
    rintro ⟨y,hy,hye⟩
    exact hno y (by rwa [List.take_length]) (by simpa using hye))
   clear hno
   have mixed : Tryz.prog.follows Departure.mixedOrders = true := by kernel_rfl
   obtain ⟨D,hD⟩ : ∃ D,D = W.drewN dn := ⟨_,rfl⟩
   have hbD : Below W.heap.size W D := by rw [hD]; exact below_drewN (Below.refl _ _) dn
   have ID := HW.out.1.below hbD
   have kD2 : D.cell? ⟨p,2,none⟩ = some (.slice aW r.wishes.length cW) := cell_of_heap ID.blk 2
   have kD8 : D.cell? ⟨p,8,none⟩ = some (.int .i64 r.top) := cell_of_heap ID.blk 8
   have hbxD := (hbD.block w.heap.size (Array.getElem?_eq_some_iff.1 HW.out.2.2.2).1).trans HW.out.2.2.2
   have t0 := cell_of_heap hbxD 0
   have t1 := cell_of_heap hbxD 1
   have t2 := cell_of_heap hbxD 2
   have t3 := cell_of_heap hbxD 3
   have t4 := cell_of_heap hbxD 4
   obtain ⟨Z,hZ⟩ : ∃ Z,Z = (D.alloc (.cells #[.int .i64 e.client, .int .i64 e.seq, .int .i64 e.kind, .int .i64 e.key, .int .i64 e.value, .int .i64 r.top] 78)).drew := ⟨_,rfl⟩
   have hbZ : Below D.heap.size D Z := by rw [hZ]; exact ((Below.refl _ D).alloc (Nat.le_refl _) _).drew
   have IZ := ID.below hbZ
   have hsZ : Z.heap.size = D.heap.size + 1 := by rw [hZ]; simp
   obtain ⟨g',cap',W1,hrun,ho1,hg1,hwh⟩ := append_row (t := 35) infoWish Tryz.underlying35 rfl (by decide) Z 0 (.slice aW r.wishes.length cW) r.wishes.length (ints (wishNums r.wishes)) [.int .i64 e.client, .int .i64 e.seq, .int .i64 e.kind, .int .i64 e.key, .int .i64 e.value, .int .i64 r.top] D.heap.size IZ.hW (by rw [hZ]; exact heap_new _ _) rfl (by intro u hu; simp at hu; rcases hu with rfl | rfl | rfl | rfl | rfl | rfl <;> rfl) (by omega) (by decide) (Nat.zero_le _)
   have nb : (Value.slice aW r.wishes.length cW).ownBlock ≠ some p := blk_type ID.blk ID.hW (by decide)
   have hpD : p < D.heap.size := ID.ownLt (.inl rfl)
   have hpW : W1.heap[p]? = some (.cells (runCells { r with x := (r.x.ask d e).1 } x (.slice aW r.wishes.length cW) vF vL) 40) := (hg1.block p (by omega) (fun e => nb e.symm)).trans IZ.blk
   have d2 : W1.cell? ⟨p,2,none⟩ = some (.slice aW r.wishes.length cW) := cell_of_heap hpW 2
   have e2 := frozen_of_heap hpW 2
   have z2 : ∀ o,(D.alloc o).cell? ⟨p,2,none⟩ = some (.slice aW r.wishes.length cW) := fun o => cell_later ((Below.refl _ D).alloc (Nat.le_refl _) o) kD2
   have M1 : Moved D W1 (fun k => k = p ∨ (Value.slice aW r.wishes.length cW).ownBlock = some k) := ((Moved.refl D _).below hbZ).grown hg1 (fun k _ e => .inr e)
   have HFin : Hid (RunAt w0 (W1.setCell ⟨p,2,none⟩ (.slice (some ⟨g',0,none⟩) (r.wishes.length + 1) cap')) p x { r with x := (r.x.ask d e).1,wishes := r.wishes ++ [⟨e,r.top⟩] }) := hideA (by
    have M2 := M1.setCell ⟨p,2,none⟩ (.inl rfl) (.slice (some ⟨g',0,none⟩) (r.wishes.length + 1) cap')
    obtain ⟨q1,q2⟩ := ID.wish (r.wishes ++ [⟨e,r.top⟩]) (.slice (some ⟨g',0,none⟩) (r.wishes.length + 1) cap') (set14_2 _ (r.wishes ++ [⟨e,r.top⟩]) hpW) (by
     rw [List.length_append,wish_snoc]
     exact ownsRow_setCell_other ho1 (blk_type hpW ho1 (by decide)) _) M2 (by
     intro k hk
     have : g' = k := by simpa [Value.ownBlock] using hk
     subst this
     rcases hwh with h5 | h5
     ·exact .inl h5
     ·exact .inr (by omega))
    have hsD := hbD.size
    have hs0 := hbW.size
    refine ⟨F',FR,_,vF,vL,q1,fun k hk => ?_,(hbW.trans (hbD.mono hs0)).trans (M2.to_below (fun k hk => hnew k (.inr (hk.imp id .inl))) (by omega))⟩
    rcases hk with q | q
    ·exact hnew k (.inl q)
    ·rcases q2 k q with q | q
     ·exact hnew k (.inr q)
     ·omega)
   have HKf : Hid (KeepB w (W1.setCell ⟨p,2,none⟩ (.slice (some ⟨g',0,none⟩) (r.wishes.length + 1) cap')) p FX FR (.slice aW r.wishes.length cW) vF vL) := hideA fun k hk hno => by
    have M2 := M1.setCell ⟨p,2,none⟩ (.inl rfl) (.slice (some ⟨g',0,none⟩) (r.wishes.length + 1) cap')
    have hkW : k < W.heap.size := by
     have := HW.out.2.1.size
     have h1 : X.heap.size ≤ W.heap.size := this
     have := hbX.size
     omega
    exact ((M2.block k (by have := hbD.size; omega) (fun q => hno (.inr (q.imp id .inl)))).trans (hbD.block k hkW)).trans (HKp.out k hk hno)
   rw [hZ] at hrun
   rw [← hD]
   clear hD hg1 hwh ho1 hpW M1 IZ hbZ hsZ hZ ID hbxD k2 k8 b0 b1 b2 b3 b4 hsame k9 f9
   go_upto_region 7 with fail
   go_region_law (first | (refine op_append rfl (.tmp 49) (.tmp 56) 35 rfl _ _ _ _ (by simp [Act.eval]) (by simp [Act.eval]) hrun ?_))
   all_goals (
    go_wp2_with fail
    go_end0
    rw [HV.out]
    exact ⟨⟨_,rfl⟩,HFin.out,HKf.out⟩)
theorem kask_any {w0 w : World} {p x : Nat} {r : Run} {E : Int} {g : Gh} (d : Int) (e : Ent) (h : RunAt w0 w p x r) (hm : Mid r E g) (hd : r.x.isRep d) (he : e.ok = true) (hwl : r.wishes.length ≤ 900000) (htl : r.x.told.length ≤ 2999999999999) :
  Calls Tryz.prog 13 #[.pointer (some ⟨p,0,none⟩), .int .i64 d, .agg #[.int .i64 e.client, .int .i64 e.seq, .int .i64 e.kind, .int .i64 e.key, .int .i64 e.value]] w fun z w' => (∃ v,z = .returned v) ∧ RunAt w0 w' p x (r.ask d e) := by
 obtain ⟨FX,FR,vW,vF,vL,h,hn,hb0⟩ := h
 exact (kask_in d e h hn hb0 hm hd he hwl htl).mono fun _ _ q => ⟨q.1,q.2.1⟩
theorem first_RunIn {W X : World} {p x n : Nat} {F : Nat → Prop} (hC : CAt W F x (Clu.first n)) (hb : Below W.heap.size W X) (hp : p = W.heap.size) (hM : X.heap[p]? = some (.cells (runCells (Run.first n) x (.slice none 0 0) (.slice none 0 0) (.slice none 0 0)) 40)) :
  RunIn X p x F (fun _ => False) (Run.first n) (.slice none 0 0) (.slice none 0 0) (.slice none 0 0) := by
 refine ⟨hM,cApi.keep hC fun k hk => hb.block k (cApi.lt hC hk),World.ownsRow_nil _ _ _ _,World.ownsRow_nil _ _ _ _,LastOwn.nil _ _,fun k hk hO => ?_,fun k e => e.elim⟩
 have := cApi.lt hC hk
 rcases hO with e | e | e | e | e
 ·omega
 ·exact no_row e
 ·exact no_row e
 ·exact no_row e
 ·exact e
set_option maxRecDepth 100000 in
set_option maxHeartbeats 2000000 in
theorem kbegin_any (z : Int) (w : World) (n : Nat) (hnz : 1 + pickI z 5 = (n : Int)) (i0 : -9223372036854775808 ≤ z) (i1 : z ≤ 9223372036854775807) :
  Calls Tryz.prog 12 #[.int .i64 z] w fun e w' => ∃ p x,e = .returned (.pointer (some ⟨p,0,none⟩)) ∧ RunAt w w' p x (Run.begin n) ∧ Fine (Run.begin n) 5000 := by
 have hp := pickI_lt z 5 (by omega)
 have h1 : 1 ≤ n := by omega
 have h5 : n ≤ 5 := by omega
 have HP := hideA (pick_any z 5 w (by omega) (by omega) i0 i1)
 have hwr : IntKind.i64.wrap (1 + pickI z 5) = (n : Int) := by rw [IntKind.wrap_i64]; omega
 have HN := hideA (cApi.new n w h1 h5)
 obtain ⟨fl1,fl2,fl3,fl4,fl5,fl6,_,_⟩ := first_look n h1 h5
 have hmid := first_mid n h1 h5
 have hrep : ((Run.first n).look).x.isRep 0 := by rw [fl2]; exact first_isRep.2 ⟨Int.le_refl _,by omega⟩
 have hri := fl1.ask' 0 firstEntry hrep rfl
 have hbe : Run.begin n = Run.drain 5000 (((Run.first n).look).ask 0 firstEntry) := rfl
 obtain ⟨bf1,bf2,bf3,bf4,bf5⟩ := begin_facts n h1 h5
 obtain ⟨Eb,gb,hrb⟩ := begin_ok n h1 h5
 go_enter Tryz.func12,Tryz.ntmps12
 go_wp2_with fail
 refine HP.out.mono ?_
 rintro e w1 ⟨rfl,rfl⟩
 go_wp2_with fail
 refine HN.out.mono ?_
 rintro e W ⟨x,F,rfl,hC,hF,hbW⟩
 have HC := hideA (And.intro hC hF)
 clear hC hF
 go_upto_region 6 with fail
 obtain ⟨X,hX,hbX,hM⟩ := box_more1 W #[.pointer (some ⟨x,0,none⟩), .int .i64 (n : Int), .slice none 0 0, .slice none 0 0, .slice none 0 0, .int .i64 0, .int .i64 0, .int .i64 0, .int .i64 (-1), .bool true, .bool true, .bool true, .bool true, .bool true] 40
 rw [hX]
 clear hX
 have hwW := hbW.size
 have hA0 : RunAt w1 X W.heap.size x (Run.first n) := by
  refine ⟨F,fun _ => False,_,_,_,first_RunIn HC.out.1 hbX rfl hM,fun k hk => ?_,hbW.trans (hbX.mono hwW)⟩
  rcases hk with e | e
  ·exact HC.out.2 k e
  ·rcases e with e | e | e | e | e
   ·omega
   ·exact absurd e no_row
   ·exact absurd e no_row
   ·exact absurd e no_row
   ·exact e.elim
 have HL := hideA (look_any hA0 hmid (by simp [Run.first]) (by simp [Run.first]) (by simp [Run.first,Clu.first]))
 clear hM hA0 hbX
 generalize hpp : W.heap.size = p at *
 go_wp2_with fail
 refine HL.out.mono ?_
 rintro e V ⟨⟨v,rfl⟩,hAV⟩
 have HAs : Hid (Calls Tryz.prog 13 #[.pointer (some ⟨p,0,none⟩), .int .i64 0, .agg #[.int .i64 0, .int .i64 0, .int .i64 1, .int .i64 0, .int .i64 5]] V fun z w' => (∃ v,z = .returned v) ∧ RunAt w1 w' p x (((Run.first n).look).ask 0 firstEntry)) := hideA (kask_any 0 firstEntry hAV fl1.mid hrep rfl (by rw [fl4]; simp) (by rw [fl2]; simp [Clu.first]))
 clear hAV HL
 go_wp2_with fail
 refine HAs.out.mono ?_
 rintro e U ⟨⟨v,rfl⟩,hAU⟩
 have hfine : Fine (((Run.first n).look).ask 0 firstEntry) 0 := by
  refine ⟨⟨_,_,hri⟩, ?_, ?_, ?_⟩
  ·unfold Run.ask
   simp only
   rw [fl4]
   simp
  ·show ((Run.first n).look).fixed.length ≤ 24
   omega
  ·show ((((Run.first n).look).x).ask 0 firstEntry).1.told.length ≤ 0
   rw [fl2]
   unfold Clu.ask
   split
   ·simp [Clu.first]
   ·split
    ·simp [Clu.first]
    ·simp [Clu.send,Clu.first]
 have HDr := hideA (kdrain_any hAU hfine (by omega))
 rw [← hbe] at HDr
 clear hAU HAs hbe
 go_wp2_with fail
 refine HDr.out.mono ?_
 rintro e T ⟨⟨v,rfl⟩,hAT,hFT⟩
 have HAT := hideA (And.intro hAT hFT)
 obtain ⟨FX,FR,vW,vF,vL,hR,hnw,hb0⟩ := hAT
 have HR := hideA hR
 clear HDr hFT hnw hb0
 generalize hrr : Run.begin n = r at *
 obtain ⟨aF,cF,hvF⟩ := owns_shape hR.hF
 subst hvF
 obtain ⟨aL,cL,hvL⟩ := hR.hL.shape
 subst hvL
 rw [bf2] at hR
 have t3 : T.cell? ⟨p,3,none⟩ = some (.slice aF r.fixed.length cF) := cell_of_heap HR.out.blk 3
 have t4 : T.cell? ⟨p,4,none⟩ = some (.slice aL r.last.length cL) := cell_of_heap HR.out.blk 4
 have t7 : T.cell? ⟨p,7,none⟩ = some (.int .i64 (r.answers : Int)) := cell_of_heap HR.out.blk 7
 have t9 : T.cell? ⟨p,9,none⟩ = some (.bool r.ok) := cell_of_heap HR.out.blk 9
 have t12 : T.cell? ⟨p,12,none⟩ = some (.bool r.told) := cell_of_heap HR.out.blk 12
 rw [bf2] at t3
 rw [bf3] at t4
 rw [bf1] at t7
 rw [hrb.mid.flags.1] at t9
 rw [hrb.mid.flags.2.2.2.1] at t12
 clear hR
 go_wp2_with fail
 go_loopw [7,8] (fun al i wr => ∃ k : Nat,k ≤ n ∧ i = .int .i64 k ∧ al = .bool true ∧ wr = T) (fun _ i _ => n - (intOf i).toNat)
 case atStart => exact ⟨0,Nat.zero_le _,rfl,rfl,rfl⟩
 case round =>
  obtain ⟨k,hk,rfl,rfl,rfl⟩ := hrel
  by_cases hlt : k < n
  ·have hk1 : (k : Int) < (n : Int) := by omega
   have hak : r.last[k]? = some (r.last[k]'(by omega)) := List.getElem?_eq_getElem (by omega)
   have hall := List.all_eq_true.1 bf5 _ (List.mem_of_getElem? hak)
   generalize r.last[k]'(by omega) = a at *
   simp only [Bool.and_eq_true,decide_eq_true_eq] at hall
   obtain ⟨gL,capL,am,cm,al,cl,hv,j1,j2,hcl,hcells⟩ := HR.out.hL.at k a hak
   rw [bf3] at hv
   cases hv
   have z3 : wr.cell? ⟨gL,k * 6 + 3,none⟩ = some (.int .i64 (a.commit : Int)) := hcells 3 (by omega)
   have z1 : wr.cell? ⟨gL,k * 6 + 1,none⟩ = some (.int .i64 a.epoch) := hcells 1 (by omega)
   rw [hall.1] at z3
   rw [hall.2] at z1
   clear hcells j1 j2 hall
   go_wp2_with fail
   go_roundw
   case rel => exact ⟨k + 1,by omega,by go_num,by trivial,by trivial⟩
   case measure => simp [intOf]; omega
  ·obtain rfl : k = n := by omega
   go_wp2_with fail
   go_ret
   rw [hrr]
   exact ⟨p,x,rfl,HAT.out.1,HAT.out.2⟩
end Go.Proofs.YtgieeeeeiggoeaaGreat
