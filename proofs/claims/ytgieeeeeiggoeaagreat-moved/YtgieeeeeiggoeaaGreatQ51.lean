import Derived.Test.YtgieeeeeiggoeaaGreatQ50
namespace Go.Proofs.YtgieeeeeiggoeaaGreat
open Go.RowKit Go.Shelf
theorem fixAt_of {w : World} {base : Nat} {v : Value} {l : List Fix} (h : w.ownsRow base 176 6 v l.length (ints (fixNums l))) : ∃ a c,v = .slice a l.length c ∧ FixAt w a l := by
 obtain ⟨a,c,rfl⟩ := owns_shape h
 refine ⟨a,c,rfl,fun i hi => ?_⟩
 obtain ⟨g,cap,hv,_,_⟩ := h.form (by omega)
 cases hv
 have := fixRow_of h i hi
 exact ⟨g,rfl,this⟩
theorem RunIn.fix {w w' : World} {p x : Nat} {FX FR : Nat → Prop} {r : Run} {vW vF vL : Value} (h : RunIn w p x FX FR r vW vF vL) (fs : List Fix) (vF' : Value)
  (hblk : w'.heap[p]? = some (.cells (runCells { r with fixed := fs } x vW vF' vL) 40)) (hrow : w'.ownsRow 0 176 6 vF' fs.length (ints (fixNums fs))) (hM : Moved w w' (fun k => k = p ∨ vF.ownBlock = some k)) (hg : ∀ k,vF'.ownBlock = some k → vF.ownBlock = some k ∨ w.heap.size ≤ k) :
  RunIn w' p x FX FR { r with fixed := fs } vW vF' vL := by
 have hX : ∀ k,FX k → w'.heap[k]? = w.heap[k]? := fun k hk => hM.block k (cApi.lt h.clu hk) (fun e => h.off k hk (e.imp id (fun e => .inr (.inl e))))
 have hrow2 : ∀ {base size n : Nat} {e : TypeId} {v : Value} {xs : List Value},w.ownsRow base e size v n xs → e ≠ 40 → e ≠ 176 → ∀ k,v.ownBlock = some k → ¬ (k = p ∨ vF.ownBlock = some k) := by
  intro base size n e v xs hv h2 h1 k hk hS
  rcases hS with e1 | e1
  ·exact blk_type h.blk hv h2 (e1 ▸ hk)
  ·exact owns_two hv h.hF h1 k hk e1
 refine ⟨hblk,cApi.keep h.clu hX,hM.owns h.hW (hrow2 h.hW (by decide) (by decide)),hrow,h.hL.moved hM hrow2,fun k hk hk2 => ?_,fun k e => ?_⟩
 ·rcases hk2 with e | e | e | e | e
  ·exact h.off k hk (.inl e)
  ·exact h.off k hk (.inr (.inl e))
  ·rcases hg k e with e | e
   ·exact h.off k hk (.inr (.inr (.inl e)))
   ·have := cApi.lt h.clu hk; omega
  ·exact h.off k hk (.inr (.inr (.inr (.inl e))))
  ·exact h.off k hk (.inr (.inr (.inr (.inr e))))
 ·have := h.lt k e
  have := hM.size
  omega
structure LookAt (w wr : World) (p x k : Nat) (FX FR FN : Nat → Prop) (r : Run) (vW vF vF' vL nv : Value) : Prop where
 run : RunIn wr p x FX FR { r with fixed := fixK r k } vW vF' vL
 now : LastOwn wr FN nv (r.x.reps.take k)
 newN : ∀ z,FN z → w.heap.size ≤ z
 newV : ∀ z,nv.ownBlock = some z → w.heap.size ≤ z
 newF : ∀ z,vF'.ownBlock = some z → vF.ownBlock = some z ∨ w.heap.size ≤ z
 mov : Moved w wr (fun z => z = p ∨ vF.ownBlock = some z)
 lt : ∀ z,FN z → z < wr.heap.size
theorem set14_4 {W : World} {p x : Nat} {r : Run} {vW vF vL : Value} (v : Value) (l : List Rep) (h : W.heap[p]? = some (.cells (runCells r x vW vF vL) 40)) : (W.setCell ⟨p,4,none⟩ v).heap[p]? = some (.cells (runCells { r with last := l } x vW vF v) 40) := heap_setCell_same _ _ _ _ _ _ h
theorem set14_8 {W : World} {p x : Nat} {r : Run} {vW vF vL : Value} (t : Int) (h : W.heap[p]? = some (.cells (runCells r x vW vF vL) 40)) : (W.setCell ⟨p,8,none⟩ (.int .i64 t)).heap[p]? = some (.cells (runCells { r with top := t } x vW vF vL) 40) := heap_setCell_same _ _ _ _ _ _ h
theorem set14_7 {W : World} {p x : Nat} {r : Run} {vW vF vL : Value} (n : Nat) (h : W.heap[p]? = some (.cells (runCells r x vW vF vL) 40)) : (W.setCell ⟨p,7,none⟩ (.int .i64 (n : Int))).heap[p]? = some (.cells (runCells { r with answers := n } x vW vF vL) 40) := heap_setCell_same _ _ _ _ _ _ h
theorem LookAt.last {w wr w' : World} {p x : Nat} {FX FR FN : Nat → Prop} {r : Run} {vW vF vF' vL nv : Value} (h : LookAt w wr p x r.x.reps.length FX FR FN r vW vF vF' vL nv) (hw : RunIn w p x FX FR r vW vF vL) (hblk : w'.heap[p]? = some (.cells (runCells { r with fixed := fixK r r.x.reps.length,last := r.x.reps } x vW vF' nv) 40)) (hk : ∀ k,k < wr.heap.size → k ≠ p → w'.heap[k]? = wr.heap[k]?) (hs : wr.heap.size ≤ w'.heap.size) :
  RunIn w' p x FX FN { r with fixed := fixK r r.x.reps.length,last := r.x.reps } vW vF' nv := by
 have hpx : ¬ FX p := fun e => hw.off p e (.inl rfl)
 have keep : ∀ {base size n : Nat} {e : TypeId} {v : Value} {xs : List Value},wr.ownsRow base e size v n xs → e ≠ 40 → w'.ownsRow base e size v n xs := fun hv he => owns_only hv fun k e1 => hk k (Array.getElem?_eq_some_iff.1 (ownBlock_cells hv e1).choose_spec.1).1 (fun e2 => blk_type h.run.blk hv he (e2 ▸ e1))
 have hnow := h.now
 rw [List.take_length] at hnow
 refine ⟨hblk,cApi.keep h.run.clu fun k e => hk k (cApi.lt h.run.clu e) (fun e2 => hpx (e2 ▸ e)),keep h.run.hW (by decide),keep h.run.hF (by decide), ?_,fun k hk1 hk2 => ?_,fun k e => ?_⟩
 ·obtain ⟨ws,h1,h2,h3⟩ := hnow
  exact ⟨ws,h1,keep h2 (by decide),fun t ht => ⟨keep (h3 t ht).1 (by decide),keep (h3 t ht).2.1 (by decide),(h3 t ht).2.2.1,(h3 t ht).2.2.2⟩⟩
 ·have hkl := cApi.lt hw.clu hk1
  rcases hk2 with e | e | e | e | e
  ·exact hw.off k hk1 (.inl e)
  ·exact hw.off k hk1 (.inr (.inl e))
  ·rcases h.newF k e with e | e
   ·exact hw.off k hk1 (.inr (.inr (.inl e)))
   ·omega
  ·have := h.newV k e; omega
  ·have := h.newN k e; omega
 ·have := h.lt k e
  omega
def RunTo (w0 w w' : World) (p x : Nat) (FX FR : Nat → Prop) (vW vF vL : Value) (r' : Run) : Prop :=
 ∃ FX' FR' vW' vF' vL',RunIn w' p x FX' FR' r' vW' vF' vL' ∧ (∀ k,FX' k ∨ OwnR p vW' vF' vL' FR' k → w0.heap.size ≤ k) ∧ Below w0.heap.size w0 w' ∧
  (∀ k,FX' k ∨ OwnR p vW' vF' vL' FR' k → (FX k ∨ OwnR p vW vF vL FR k) ∨ w.heap.size ≤ k) ∧ KeepB w w' p FX FR vW vF vL
set_option maxRecDepth 100000 in
set_option maxHeartbeats 4000000 in
theorem look_in {w0 w : World} {p x : Nat} {FX FR : Nat → Prop} {r : Run} {vW vF vL : Value} {E : Int} {g : Gh} (h : RunIn w p x FX FR r vW vF vL) (hn : ∀ k,FX k ∨ OwnR p vW vF vL FR k → w0.heap.size ≤ k) (hb0 : Below w0.heap.size w0 w) (hm : Mid r E g) (hwl : r.wishes.length ≤ 900000) (hfl : r.fixed.length ≤ 24) (htl : r.x.told.length ≤ 2999999999999) :
  Calls Tryz.prog 27 #[.pointer (some ⟨p,0,none⟩)] w fun z w' => (∃ v,z = .returned v) ∧ RunTo w0 w w' p x FX FR vW vF vL r.look := by
 obtain ⟨F,t,hLF⟩ := look_facts hm
 have hn5 := hm.good.nodes.n5
 have hrn := hm.n
 have hpok : POK r.x := ⟨⟨_,_,hm.good⟩,htl⟩
 have HI := hideA (And.intro h (And.intro hn hb0))
 have hfk : Hid (∀ k,k ≤ r.x.reps.length → (fixK r k).length ≤ 24) := hideA fun k hk => by
  refine (commitsAll_ok hm.good.nodes r.fixed hm.fix k hk).2.2.2.2.2 24 hfl fun i hi => ?_
  have hw := hm.good.nodes.R (i : Int) (isRep_nat (by omega))
  have := hw.commit
  have := hw.log.1
  omega
 have HL0 : Hid (LookAt w w p x 0 FX FR (fun _ => False) r vW vF vF vL (.slice none 0 0)) := hideA ⟨h,by rw [List.take_zero]; exact LastOwn.nil _ _,fun _ q => q.elim,fun _ q => absurd q no_row,fun _ q => .inl q,Moved.refl _ _,fun _ q => q.elim⟩
 have HLF := hideA hLF
 clear h hn hb0 hLF
 go_enter Tryz.func27,Tryz.ntmps27
 go_wp2_with fail
 go_loopw [2,3] (fun nv i wr => ∃ k : Nat,k ≤ r.x.reps.length ∧ i = .int .i64 k ∧ ∃ FN vF',LookAt w wr p x k FX FR FN r vW vF vF' vL nv) (fun _ i _ => r.x.reps.length - (intOf i).toNat)
 case atStart => exact ⟨0,Nat.zero_le _,rfl,_,_,HL0.out⟩
 case round =>
  obtain ⟨k,hk,rfl,FN,vF',hLk⟩ := hrel
  have q1 : wr.cell? ⟨p,1,none⟩ = some (.int .i64 (r.x.reps.length : Int)) := by
   have := cell_of_heap hLk.run.blk 1
   rw [show (runCells { r with fixed := fixK r k } x vW vF' vL)[1]? = some (.int .i64 (r.n : Int)) from rfl,hrn] at this
   exact this
  have q0 : wr.cell? ⟨p,0,none⟩ = some (.pointer (some ⟨x,0,none⟩)) := cell_of_heap hLk.run.blk 0
  obtain ⟨an,cn,hnv⟩ := hLk.now.shape
  subst hnv
  have HLk := hideA hLk
  by_cases hlt : k < r.x.reps.length
  ·have hk1 : (k : Int) < (r.x.reps.length : Int) := by omega
   have hnl : (r.x.reps.take k).length = k := by rw [List.length_take]; omega
   rw [hnl] at HLk hLk
   have hsk : r.x.reps[k]? = some r.x.reps[k] := List.getElem?_eq_getElem hlt
   have HC := hideA (cApi.status (k : Int) hLk.run.clu hpok (isRep_nat hlt))
   rw [rep_nat hlt] at HC
   have hwf := hm.good.nodes.R (k : Int) (isRep_nat hlt)
   rw [rep_nat hlt] at hwf
   have HSk := hideA hsk
   generalize hse : r.x.reps[k] = s at *
   clear hse hsk hLk
   have hs1 := hwf.commit
   have hs2 := hwf.log.1
   go_wp2_with fail
   refine HC.out.mono ?_
   rintro z Y ⟨xm,xl,rfl,o1,o2,hbY⟩
   obtain ⟨am,cm,rfl⟩ := owns_shape o1
   obtain ⟨al,cl,rfl⟩ := owns_shape o2
   have HO := hideA (And.intro o1 o2)
   clear o1 o2 q0 q1
   go_upto_region 5 with fail
   obtain ⟨X,hX,hbYX,hM⟩ := box_more1 Y #[.bool s.up, .int .i64 s.epoch, .int .i64 s.lock, .int .i64 (s.commit : Int), .slice am s.mems.length cm, .slice al s.log.length cl] 46
   rw [hX]
   clear hX
   have hbX := hbY.trans (hbYX.mono hbY.size)
   have gM := fun j => cell_of_heap hM j
   have HM := hideA hM
   clear hM
   have l1 : ¬ (s.commit : Int) < 0 := by omega
   have l2 : ¬ (s.log.length : Int) < (s.commit : Int) := by omega
   have l3 : ¬ (24 : Int) < (s.log.length : Int) := by omega
   obtain ⟨ws,e1,e2,e3⟩ := HLk.out.now
   rw [hnl] at e2
   obtain ⟨Z,hZ⟩ : ∃ Z,Z = X.alloc (.cells #[.bool s.up, .int .i64 s.epoch, .int .i64 s.lock, .int .i64 (s.commit : Int), .slice am s.mems.length cm, .slice al s.log.length cl] 46) := ⟨_,rfl⟩
   have hbXZ : Below X.heap.size X Z := by rw [hZ]; exact (Below.refl _ X).alloc (Nat.le_refl _) _
   have hbZ := hbX.trans (hbXZ.mono hbX.size)
   have hbYZ := hbYX.trans (hbXZ.mono hbYX.size)
   obtain ⟨g',cap',W1,hrun,ho1,hg1,hwh⟩ := append_row (t := 37) infoStat Tryz.underlying37 rfl (by decide) Z 0 (.slice an k cn) k (ws.flatMap scells) (scells (s, .slice am s.mems.length cm, .slice al s.log.length cl)) X.heap.size (owns_kept e2 fun z _ hz => hbZ.block z hz) (by rw [hZ]; exact heap_new _ _) rfl (by intro u hu; simp [scells] at hu; rcases hu with rfl | rfl | rfl | rfl | rfl | rfl <;> rfl) (by omega) (by decide) (Nat.zero_le _)
   have hnow := LastOwn.snoc (s := s) (vm := .slice am s.mems.length cm) (vl := .slice al s.log.length cl) e1 (by rw [hnl]; exact e2) e3 hbZ (owns_kept HO.out.1 fun z _ hz => hbYZ.block z hz) (owns_kept HO.out.2 fun z _ hz => hbYZ.block z hz) hg1 (v' := .slice (some ⟨g',0,none⟩) (k + 1) cap') (by rw [hnl]; exact ho1)
   have hwlt : ∀ z,FX z ∨ OwnR p vW vF vL FR z → z < w.heap.size := fun z hz => hz.elim (fun q => cApi.lt HI.out.1.clu q) (fun q => HI.out.1.ownLt q)
   have hRW1 : RunIn W1 p x FX FR { r with fixed := fixK r k } vW vF' vL := by
    refine (HLk.out.run.below hbZ).keep fun z hz => ?_
    have hzl : z < Z.heap.size := by
     have := hbZ.size
     rcases hz with q | q
     ·have := cApi.lt HLk.out.run.clu q; omega
     ·have := HLk.out.run.ownLt q; omega
    refine hg1.block z hzl fun e => ?_
    have hnz := HLk.out.newV z e.symm
    rcases hz with q | q
    ·have := hwlt z (.inl q); omega
    ·rcases q with q | q | q | q | q
     ·have := hwlt z (.inr (.inl q)); omega
     ·have := hwlt z (.inr (.inr (.inl q))); omega
     ·exact owns_two HLk.out.run.hF e2 (by decide) z q e.symm
     ·have := hwlt z (.inr (.inr (.inr (.inr (.inl q))))); omega
     ·have := hwlt z (.inr (.inr (.inr (.inr (.inr q))))); omega
   have hvlW1 : W1.ownsRow 0 42 5 (.slice al s.log.length cl) s.log.length (ints (entsNums s.log)) := by
    have hzl : Z.ownsRow wr.heap.size 42 5 (.slice al s.log.length cl) s.log.length (ints (entsNums s.log)) := owns_kept HO.out.2 fun z _ hz => hbYZ.block z hz
    exact owns_base (owns_only hzl fun z ez => hg1.block z (Array.getElem?_eq_some_iff.1 (ownBlock_cells hzl ez).choose_spec.1).1 (fun e => owns_two hzl (owns_kept e2 fun z _ hz => hbZ.block z hz) (by decide) z ez e.symm)) (Nat.zero_le _)
   have hboxW1 : W1.heap[Y.heap.size]? = some (.cells #[.bool s.up, .int .i64 s.epoch, .int .i64 s.lock, .int .i64 (s.commit : Int), .slice am s.mems.length cm, .slice al s.log.length cl] 46) := by
    have hlt2 := (Array.getElem?_eq_some_iff.1 HM.out).1
    have hbk : Z.heap[Y.heap.size]? = some (.cells #[.bool s.up, .int .i64 s.epoch, .int .i64 s.lock, .int .i64 (s.commit : Int), .slice am s.mems.length cm, .slice al s.log.length cl] 46) := (hbXZ.block _ hlt2).trans HM.out
    refine (hg1.block _ (Array.getElem?_eq_some_iff.1 hbk).1 (fun e => ?_)).trans hbk
    have : Y.heap.size < wr.heap.size := (Array.getElem?_eq_some_iff.1 (ownBlock_cells e2 e.symm).choose_spec.1).1
    have := hbY.size
    omega
   have h2k := HLF.out.two k (by omega)
   have h2k1 := HLF.out.two (k + 1) (by omega)
   have HCm := hideA (commits_any p _ vF' (fixK r k) s (.slice am s.mems.length cm) (.slice al s.log.length cl) W1 hRW1.blk rfl rfl (by rw [show (runCells { r with fixed := fixK r k } x vW vF' vL)[10]? = some (.bool r.agreed) from rfl,hm.flags.2.1]) hRW1.hF hvlW1 hs1 hs2 (commits_prefix s _ (fixK_two r k s HSk.out h2k h2k1)))
   have hfixE : Hid (fixTo (fixK r k) s s.commit = fixK r (k + 1)) := hideA (by rw [fixK_succ r k s HSk.out h2k]; rfl)
   have HNow := hideA (And.intro hnow (And.intro hRW1 (And.intro hg1 (And.intro hbZ hwh))))
   have bW := fun j => cell_of_heap hboxW1 j
   have HR := hideA hrun
   rw [hZ] at HR
   clear hrun ho1 hg1 hwh hnow hRW1 hvlW1 hboxW1 e1 e2 e3 hbZ hbYZ hbXZ hZ h2k h2k1
   go_wp2_with (at_builtin; refine wpList_append_run rfl (.tmp 48) (.tmp 50) 37 rfl _ _ _ _ (by simp [Act.eval]) (by simp [Act.eval]) HR.out ?_)
   go_wp2_with fail
   refine HCm.out.mono ?_
   rintro z W2 ⟨rfl,vF2,c1,c2,c3,c4⟩
   have HW2 := hideA (And.intro c1 (And.intro c2 (And.intro c3 c4)))
   clear c1 c2 c3 c4 gM bW
   go_wp2_with fail
   go_roundw
   case rel =>
    refine ⟨k + 1,by omega,by go_num,fun z => FN z ∨ (wr.heap.size ≤ z ∧ z < W1.heap.size),vF2, ?_⟩
    obtain ⟨d1,d2,d3,d4⟩ := HW2.out
    obtain ⟨n1,n2,n3,n4,n5⟩ := HNow.out
    rw [hfixE.out] at d2
    have hws := HLk.out.mov.size
    have hsz4 := n4.size
    have hszg : Z.heap.size ≤ W1.heap.size := n3.size
    have hmovW1 : Moved w W1 (fun z => z = p ∨ vF.ownBlock = some z) := (HLk.out.mov.below n4).grown n3 (fun z hz e => by have := HLk.out.newV z e; omega)
    refine ⟨n2.fix (fixK r (k + 1)) vF2 d1 d2 d3 d4, ?_, ?_, ?_, ?_, ?_, ?_⟩
    ·rw [List.take_succ_eq_append_getElem hlt]
     have hse : r.x.reps[k] = s := by
      have := HSk.out
      rw [List.getElem?_eq_getElem hlt] at this
      injection this
     rw [hse]
     refine (n1.wider fun z hz => hz.imp id (fun q => ⟨q.1,by omega⟩)).moved d3 ?_
     intro base size n e v xs hv q1 q2 z hz hS
     rcases hS with q | q
     ·exact blk_type n2.blk hv q1 (q ▸ hz)
     ·exact owns_two hv n2.hF q2 z hz q
    ·rintro z (hz | hz)
     ·exact HLk.out.newN z hz
     ·omega
    ·intro z hz
     have : g' = z := by simpa [Value.ownBlock] using hz
     subst this
     rcases n5 with q | q
     ·exact HLk.out.newV _ q
     ·rw [q]; omega
    ·intro z hz
     rcases d4 z hz with q | q
     ·exact HLk.out.newF z q
     ·exact .inr (by omega)
    ·refine hmovW1.trans d3 fun z hz hS => ?_
     rcases hS with q | q
     ·exact .inl q
     ·rcases HLk.out.newF z q with q | q
      ·exact .inr q
      ·omega
    ·have hs2 := d3.size
     rintro z (hz | hz)
     ·have := HLk.out.lt z hz
      omega
     ·omega
   case measure => simp [intOf]; omega
  ·obtain rfl : k = r.x.reps.length := by omega
   have hnl : (r.x.reps.take r.x.reps.length).length = r.x.reps.length := by rw [List.take_length]
   rw [hnl] at HLk hLk
   obtain ⟨W,hWe⟩ : ∃ W,W = wr := ⟨_,rfl⟩
   subst hWe
   have hFull := HLF.out.full
   obtain ⟨aF,cF,hvF',hFat⟩ := fixAt_of hLk.run.hF
   have hFl := hfk.out _ (Nat.le_refl r.x.reps.length)
   have HK : Hid (∀ Wq,Below W.heap.size W Wq → Wq.cell? ⟨p,1,none⟩ = some (.int .i64 (r.x.reps.length : Int)) ∧ Wq.cell? ⟨p,3,none⟩ = some (.slice aF (fixK r r.x.reps.length).length cF) ∧ Wq.cell? ⟨p,4,none⟩ = some vL ∧ FixAt Wq aF (fixK r r.x.reps.length) ∧ Wq.heap[p]? = some (.cells (runCells { r with fixed := fixK r r.x.reps.length } x vW vF' vL) 40)) := hideA fun Wq hq => by
    have hRq := hLk.run.below hq
    refine ⟨cell_later hq q1, ?_,cell_of_heap hRq.blk 4,fun i hi => ?_,hRq.blk⟩
    ·have := cell_of_heap hRq.blk 3
     rw [show (runCells { r with fixed := fixK r r.x.reps.length } x vW vF' vL)[3]? = some vF' from rfl,hvF'] at this
     exact this
    ·obtain ⟨bb,e,a0,a1,a2,a3,a4,a5⟩ := hFat i hi
     exact ⟨bb,e,cell_later hq a0,cell_later hq a1,cell_later hq a2,cell_later hq a3,cell_later hq a4,cell_later hq a5⟩
   obtain ⟨aL,cL,hvL⟩ := hLk.run.hL.shape
   subst hvL
   clear hLk hFat q0 q1
   have hnlt : ¬ (r.x.reps.length : Int) < (r.x.reps.length : Int) := by omega
   obtain ⟨q1, -⟩ := HK.out W (Below.refl _ _)
   go_wp2_with fail
   go_loopw [6] (fun i wq => ∃ k : Nat,k ≤ r.x.reps.length ∧ i = .int .i64 k ∧ Below W.heap.size W wq) (fun i _ => r.x.reps.length - (intOf i).toNat)
   case atStart => exact ⟨0,Nat.zero_le _,rfl,Below.refl _ _⟩
   case round =>
    obtain ⟨k,hk2,rfl,hbq⟩ := hrel
    obtain ⟨k1,k3,k4,hFq,hpq⟩ := HK.out wr hbq
    clear q1
    by_cases hlt2 : k < r.x.reps.length
    ·have hk1 : (k : Int) < (r.x.reps.length : Int) := by omega
     have hsk : (r.x.reps.take r.x.reps.length)[k]? = some r.x.reps[k] := by rw [List.take_length]; exact List.getElem?_eq_getElem hlt2
     have hsk0 : r.x.reps[k]? = some r.x.reps[k] := List.getElem?_eq_getElem hlt2
     have HZip : Hid (∀ a,r.last[k]? = some a → RepRel a r.x.reps[k]) := hideA fun a ha => by
      refine hm.rel (a,r.x.reps[k]) ?_
      refine List.mem_of_getElem? (i := k) ?_
      rw [List.getElem?_zip_eq_some]
      exact ⟨ha,hsk0⟩
     have hwf := hm.good.nodes.R (k : Int) (isRep_nat hlt2)
     rw [rep_nat hlt2] at hwf
     have HH := hideA (HLF.out.holds k _ hsk0)
     rw [hFull] at HH
     generalize r.x.reps[k] = s at *
     clear hsk0
     obtain ⟨gN,capN,am,cm,al,cl,hnv,i1,i2,hcl,hcells⟩ := HLk.out.now.at k s hsk
     rw [hnl] at hnv
     cases hnv
     have hc6 : ∀ tt,tt < 6 → wr.cell? ⟨gN,k * 6 + tt,none⟩ = (scells (s, .slice am s.mems.length cm, .slice al s.log.length cl))[tt]? := fun tt ht => by
      have := hcells tt ht
      have hsome : ∃ u,(scells (s, .slice am s.mems.length cm, .slice al s.log.length cl))[tt]? = some u := ⟨_,List.getElem?_eq_getElem (by simp [scells]; omega)⟩
      obtain ⟨u,hu⟩ := hsome
      rw [hu] at this ⊢
      exact cell_later hbq this
     have n0 : wr.cell? ⟨gN,k * 6,none⟩ = some (.bool s.up) := hc6 0 (by omega)
     have n1 : wr.cell? ⟨gN,k * 6 + 1,none⟩ = some (.int .i64 s.epoch) := hc6 1 (by omega)
     have n2 : wr.cell? ⟨gN,k * 6 + 2,none⟩ = some (.int .i64 s.lock) := hc6 2 (by omega)
     have n3 : wr.cell? ⟨gN,k * 6 + 3,none⟩ = some (.int .i64 (s.commit : Int)) := hc6 3 (by omega)
     have n4 : wr.cell? ⟨gN,k * 6 + 4,none⟩ = some (.slice am s.mems.length cm) := hc6 4 (by omega)
     have n5 : wr.cell? ⟨gN,k * 6 + 5,none⟩ = some (.slice al s.log.length cl) := hc6 5 (by omega)
     have hi1q : ∀ Wq,Below W.heap.size W Wq → IntsAt Wq (.slice am s.mems.length cm) s.mems ∧ LogAt Wq (.slice al s.log.length cl) s.log := fun Wq hq => ⟨IntsAt.of_owns (owns_kept i1 fun z _ hz => hq.block z hz),LogAt.of_owns (owns_kept i2 fun z _ hz => hq.block z hz)⟩
     have HI1 := hideA hi1q
     have HHo := hideA (holds_any p (fixK r r.x.reps.length).length cF aF (fixK r r.x.reps.length) s (.slice am s.mems.length cm) (.slice al s.log.length cl) wr rfl k3 hFq (hi1q wr hbq).2 (by omega) HH.out)
     clear hcells hc6 i1 i2 hFq hi1q
     go_wp2_with fail
     refine HHo.out.mono ?_
     rintro z V ⟨rfl,hbV⟩
     have hbWV := hbq.trans (hbV.mono hbq.size)
     obtain ⟨v1,v3,v4,hFV,hpV⟩ := HK.out V hbWV
     have hpl : p < W.heap.size := HLk.out.run.ownLt (.inl rfl)
     have m0 := cell_later hbV n0
     have m1 := cell_later hbV n1
     have m2 := cell_later hbV n2
     have m3 := cell_later hbV n3
     have m4 := cell_later hbV n4
     have m5 := cell_later hbV n5
     clear n0 n1 n2 n3 n4 n5 k1 k3 k4 hpq hFV v3
     by_cases hll : k < r.last.length
     ·have hll1 : (k : Int) < (r.last.length : Int) := by omega
      have hak : r.last[k]? = some r.last[k] := List.getElem?_eq_getElem hll
      have hrel := HZip.out _ hak
      generalize r.last[k] = a at *
      obtain ⟨gL,capL,am2,cm2,al2,cl2,hvl2,j1,j2,hcl2,hcells2⟩ := HLk.out.run.hL.at k a hak
      cases hvl2
      have hc7 : ∀ tt,tt < 6 → V.cell? ⟨gL,k * 6 + tt,none⟩ = (scells (a, .slice am2 a.mems.length cm2, .slice al2 a.log.length cl2))[tt]? := fun tt ht => by
       have := hcells2 tt ht
       have hsome : ∃ u,(scells (a, .slice am2 a.mems.length cm2, .slice al2 a.log.length cl2))[tt]? = some u := ⟨_,List.getElem?_eq_getElem (by simp [scells]; omega)⟩
       obtain ⟨u,hu⟩ := hsome
       rw [hu] at this ⊢
       exact cell_later hbWV this
      have l0 : V.cell? ⟨gL,k * 6,none⟩ = some (.bool a.up) := hc7 0 (by omega)
      have l1 : V.cell? ⟨gL,k * 6 + 1,none⟩ = some (.int .i64 a.epoch) := hc7 1 (by omega)
      have l2 : V.cell? ⟨gL,k * 6 + 2,none⟩ = some (.int .i64 a.lock) := hc7 2 (by omega)
      have l3 : V.cell? ⟨gL,k * 6 + 3,none⟩ = some (.int .i64 (a.commit : Int)) := hc7 3 (by omega)
      have l4 : V.cell? ⟨gL,k * 6 + 4,none⟩ = some (.slice am2 a.mems.length cm2) := hc7 4 (by omega)
      have l5 : V.cell? ⟨gL,k * 6 + 5,none⟩ = some (.slice al2 a.log.length cl2) := hc7 5 (by omega)
      have HSt : Hid (∀ Wq,Below W.heap.size W Wq → Calls Tryz.prog 57 #[.pointer (some ⟨p,0,none⟩), .agg #[.bool a.up, .int .i64 a.epoch, .int .i64 a.lock, .int .i64 (a.commit : Int), .slice am2 a.mems.length cm2, .slice al2 a.log.length cl2], .agg #[.bool s.up, .int .i64 s.epoch, .int .i64 s.lock, .int .i64 (s.commit : Int), .slice am s.mems.length cm, .slice al s.log.length cl]] Wq fun e w' => e = .returned (.tuple #[]) ∧ Below Wq.heap.size Wq w') := hideA fun Wq hq => still_any p _ a s (.slice am2 a.mems.length cm2) (.slice al2 a.log.length cl2) (.slice am s.mems.length cm) al cl hcl Wq (HK.out Wq hq).2.2.2.2 (by rw [show (runCells { r with fixed := fixK r r.x.reps.length } x vW vF' (.slice (some ⟨gL,0,none⟩) r.last.length cL))[13]? = some (.bool r.sealed) from rfl,hm.flags.2.2.2.2]) hrel
       (IntsAt.of_owns (owns_kept j1 fun z _ hz => hq.block z hz)) (HI1.out Wq hq).1 (LogAt.of_owns (owns_kept j2 fun z _ hz => hq.block z hz)) (HI1.out Wq hq).2 (by have := memsOk_length hwf.mems; omega) (by have := hwf.log.1; omega)
      clear hcells2 hc7 j1 j2 hak
      have hbVd := hbWV.drew
      go_wp2_with fail
      go_region_held3 (fun w' => w'.cell? ⟨p,4,none⟩ = some (.slice (some ⟨gL,0,none⟩) r.last.length cL) ∧ w'.cell? ⟨gL,k * 6,none⟩ = some (.bool a.up) ∧ w'.cell? ⟨gL,k * 6 + 1,none⟩ = some (.int .i64 a.epoch) ∧ w'.cell? ⟨gL,k * 6 + 2,none⟩ = some (.int .i64 a.lock) ∧ w'.cell? ⟨gL,k * 6 + 3,none⟩ = some (.int .i64 (a.commit : Int)) ∧ w'.cell? ⟨gL,k * 6 + 4,none⟩ = some (.slice am2 a.mems.length cm2) ∧ w'.cell? ⟨gL,k * 6 + 5,none⟩ = some (.slice al2 a.log.length cl2) ∧ w'.cell? ⟨gN,k * 6,none⟩ = some (.bool s.up) ∧ w'.cell? ⟨gN,k * 6 + 1,none⟩ = some (.int .i64 s.epoch) ∧ w'.cell? ⟨gN,k * 6 + 2,none⟩ = some (.int .i64 s.lock) ∧ w'.cell? ⟨gN,k * 6 + 3,none⟩ = some (.int .i64 (s.commit : Int)) ∧ w'.cell? ⟨gN,k * 6 + 4,none⟩ = some (.slice am s.mems.length cm) ∧ w'.cell? ⟨gN,k * 6 + 5,none⟩ = some (.slice al s.log.length cl)) (first | (refine ⟨?_, ?_, ?_, ?_, ?_, ?_, ?_, ?_, ?_, ?_, ?_, ?_, ?_⟩ <;> first | assumption | (simp [go_sem, *]; done)) | go_keep)
       (first | (go_at_call 57; refine (HSt.out _ hbVd).mono ?_; rintro z U ⟨rfl,hbU⟩; have hbWU := hbWV.trans ((show Below V.heap.size V U from (Below.refl V.heap.size V).drew.trans hbU).mono hbWV.size); have y4 := cell_later hbU v4; have y10 := cell_later hbU l0; have y11 := cell_later hbU l1; have y12 := cell_later hbU l2; have y13 := cell_later hbU l3; have y14 := cell_later hbU l4; have y15 := cell_later hbU l5; have y20 := cell_later hbU m0; have y21 := cell_later hbU m1; have y22 := cell_later hbU m2; have y23 := cell_later hbU m3; have y24 := cell_later hbU m4; have y25 := cell_later hbU m5))
      all_goals (
       clear m0 m1 m2 m3 m4 m5 l0 l1 l2 l3 l4 l5 y4 y10 y11 y12 y13 y14 y15 y20 y21 y22 y23 y24 y25
       go_wp2_with fail
       go_roundw
       case rel => exact ⟨k + 1,by omega,by go_num,hbWU⟩
       case measure => simp [intOf]; omega)
     ·have hll1 : ¬ (k : Int) < (r.last.length : Int) := by omega
      clear m0 m1 m2 m3 m4 m5
      go_wp2_with fail
      go_roundw
      case rel => exact ⟨k + 1,by omega,by go_num,hbWV⟩
      case measure => simp [intOf]; omega
    ·obtain rfl : k = r.x.reps.length := by omega
     have LB : LookAt w wr p x r.x.reps.length FX FR FN r vW vF vF' (.slice aL r.last.length cL) (.slice an r.x.reps.length cn) := by
      have q := HLk.out
      exact ⟨q.run.below hbq,q.now.keep (fun z e => hbq.block z (by obtain ⟨ws,_,h2,_⟩ := q.now; exact (Array.getElem?_eq_some_iff.1 (ownBlock_cells h2 e).choose_spec.1).1)) (fun z e => hbq.block z (q.lt z e)),q.newN,q.newV,q.newF,q.mov.below hbq,fun z e => by have := q.lt z e; have := hbq.size; omega⟩
     have f4 := frozen_of_heap hpq 4
     have hB4 := set14_4 (.slice an r.x.reps.length cn) r.x.reps hpq
     have hR4 := LB.last HI.out.1 hB4 (fun z _ hz => Below.heap_setCell _ _ _ _ hz) (by simp)
     have hM4 : Moved wr (wr.setCell ⟨p,4,none⟩ (.slice an r.x.reps.length cn)) (fun z => z = p) := (Moved.refl wr (fun z => z = p)).setCell ⟨p,4,none⟩ rfl _
     have H4 := hideA (And.intro hR4 (And.intro hM4 LB))
     clear hB4 hM4 hR4 LB k1 k3 hFq hpq
     have hnlt3 : ¬ (r.x.reps.length : Int) < (r.x.reps.length : Int) := by omega
     obtain ⟨k1, -⟩ := HK.out wr hbq
     go_wp2_with fail
     obtain ⟨V,hVe⟩ : ∃ V,V = wr.setCell ⟨p,4,none⟩ (.slice an r.x.reps.length cn) := ⟨_,rfl⟩
     rw [← hVe] at H4 ⊢
     clear hVe f4 k4 k1
     obtain ⟨aW,cW,hvW,hWat⟩ := wishAt_of H4.out.1.hW
     obtain ⟨aF2,cF2,hvF2,hFat2⟩ := fixAt_of H4.out.1.hF
     have s0 : V.cell? ⟨p,0,none⟩ = some (.pointer (some ⟨x,0,none⟩)) := cell_of_heap H4.out.1.blk 0
     have s2 : V.cell? ⟨p,2,none⟩ = some (.slice aW r.wishes.length cW) := by have := cell_of_heap H4.out.1.blk 2; rw [hvW] at this; exact this
     have s3 : V.cell? ⟨p,3,none⟩ = some (.slice aF2 (fixK r r.x.reps.length).length cF2) := by have := cell_of_heap H4.out.1.blk 3; rw [hvF2] at this; exact this
     have s7 : V.cell? ⟨p,7,none⟩ = some (.int .i64 (r.answers : Int)) := cell_of_heap H4.out.1.blk 7
     have s8 : V.cell? ⟨p,8,none⟩ = some (.int .i64 r.top) := cell_of_heap H4.out.1.blk 8
     have hans := (cApi.answers H4.out.1.clu hpok).mono (R' := fun e w' => ∃ a c,e = .returned (.slice a r.x.told.length c) ∧ AnsAt w' a r.x.told ∧ Below V.heap.size V w') (by
      rintro e w' ⟨v,rfl,q1,q2⟩
      obtain ⟨a,c,rfl,q3⟩ := ansAt_of q1
      exact ⟨a,c,rfl,q3,q2⟩)
     have hhear := HLF.out.hear
     rw [hFull] at hhear
     have HHe := hideA (hears_any p x { r with fixed := fixK r r.x.reps.length,last := r.x.reps } aW aF2 cW cF2 V s0 s2 s3 s7 s8 (frozen_of_heap H4.out.1.blk 7) (frozen_of_heap H4.out.1.blk 8) hWat hFat2 (by show r.wishes.length ≤ 1000000; omega) (by show (fixK r r.x.reps.length).length ≤ 1000; omega) hm.ans.1 (by show r.x.told.length ≤ 3000000000000; omega) hans t hhear)
     have hlook := HLF.out.look
     rw [hFull] at hlook
     have HLo := hideA hlook
     clear hans s0 s2 s3 s7 s8 hWat hFat2 hhear hlook
     refine HHe.out.mono ?_
     rintro z U ⟨rfl,T,hbT,rfl⟩
     go_wp2_with fail
     go_end0
     refine ⟨⟨_,rfl⟩, ?_⟩
     have hRT := H4.out.1.below hbT
     have hB8 := set14_8 t hRT.blk
     have hB7 := set14_7 r.x.told.length hB8
     rw [HLo.out]
     have hsw := H4.out.2.2.mov.size
     have hsV := H4.out.2.1.size
     have hs0 := HI.out.2.2.size
     have hnew : ∀ z,FX z ∨ OwnR p vW vF' (.slice an r.x.reps.length cn) FN z → w0.heap.size ≤ z := by
      intro z hz
      rcases hz with q | q
      ·exact HI.out.2.1 z (.inl q)
      ·rcases q with q | q | q | q | q
       ·exact HI.out.2.1 z (.inr (.inl q))
       ·exact HI.out.2.1 z (.inr (.inr (.inl q)))
       ·rcases H4.out.2.2.newF z q with q | q
        ·exact HI.out.2.1 z (.inr (.inr (.inr (.inl q))))
        ·omega
       ·have := H4.out.2.2.newV z q; omega
       ·have := H4.out.2.2.newN z q; omega
     have hbV : Below w0.heap.size w0 V := (HI.out.2.2.trans (H4.out.2.2.mov.to_below (fun z q => HI.out.2.1 z (.inr (q.imp id (fun q => .inr (.inl q))))) hs0)).trans (H4.out.2.1.to_below (fun z q => HI.out.2.1 z (.inr (.inl q))) (by omega))
     refine ⟨FX,FN,vW,vF',_,hRT.flags hB7 (fun k hk => (Below.heap_setCell _ _ _ _ hk).trans (Below.heap_setCell _ _ _ _ hk)) rfl rfl rfl rfl,hnew, ?_,fun z hz => ?_,fun z hz hno => ?_⟩
     ·exact (hbV.trans (hbT.mono (by omega))).trans ((((Moved.refl T (fun k => k = p)).setCell ⟨p,8,none⟩ rfl _).setCell ⟨p,7,none⟩ rfl _).to_below (fun z q => HI.out.2.1 z (.inr (.inl q))) (by have := hbT.size; omega))
     ·rcases hz with q | q
      ·exact .inl (.inl q)
      ·rcases q with q | q | q | q | q
       ·exact .inl (.inr (.inl q))
       ·exact .inl (.inr (.inr (.inl (hvW ▸ q))))
       ·exact (H4.out.2.2.newF z q).imp (fun q => .inr (.inr (.inr (.inl q)))) id
       ·exact .inr (H4.out.2.2.newV z q)
       ·exact .inr (H4.out.2.2.newN z q)
     ·have hzp : z ≠ p := fun e => hno (.inr (.inl e))
      refine ((Below.heap_setCell _ _ _ _ hzp).trans (Below.heap_setCell _ _ _ _ hzp)).trans ((hbT.block z (by omega)).trans ((H4.out.2.1.block z (by omega) hzp).trans (H4.out.2.2.mov.block z hz (fun q => hno ?_))))
      exact q.elim (fun q => .inr (.inl q)) (fun q => .inr (.inr (.inr (.inl q))))
theorem look_any {w0 w : World} {p x : Nat} {r : Run} {E : Int} {g : Gh} (h : RunAt w0 w p x r) (hm : Mid r E g) (hwl : r.wishes.length ≤ 900000) (hfl : r.fixed.length ≤ 24) (htl : r.x.told.length ≤ 2999999999999) :
  Calls Tryz.prog 27 #[.pointer (some ⟨p,0,none⟩)] w fun z w' => (∃ v,z = .returned v) ∧ RunAt w0 w' p x r.look := by
 obtain ⟨FX,FR,vW,vF,vL,h,hn,hb0⟩ := h
 refine (look_in h hn hb0 hm hwl hfl htl).mono ?_
 rintro z w' ⟨h1,FX',FR',vW',vF',vL',h2,h3,h4, -⟩
 exact ⟨h1,FX',FR',vW',vF',vL',h2,h3,h4⟩
end Go.Proofs.YtgieeeeeiggoeaaGreat
