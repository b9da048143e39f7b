import Derived.Test.YtgieeeeeiggoeaaGreatQ23
namespace Go.Proofs.YtgieeeeeiggoeaaGreat
open Go.RowKit Go.Shelf
structure SentI (w : World) (B2 : Nat) (ps : List (Nat × TypeId × Value)) (ms : List Msg) (W : World) (v : Value) (ws : List MsgV) : Prop where
 sent : W.heap[B2]? = some (.cells #[v] 97)
 row : W.ownsRow w.heap.size 134 10 v ms.length (ws.flatMap mcells)
 msgs : ws.map Prod.fst = ms
 lists : ListsOwn W ws
 boxes : ∀ q ∈ ps,W.heap[q.1]? = some (.cells #[q.2.2] q.2.1)
 be : Below w.heap.size w W
theorem owns_cells {A B : World} (hc : ∀ (k : Nat) (cs : Array Value) (T : TypeId) (fz : Nat × Nat),A.heap[k]? = some (Obj.cells cs T fz) → B.heap[k]? = some (Obj.cells cs T fz)) {base size n : Nat} {e : TypeId} {v : Value} {xs : List Value} (h : A.ownsRow base e size v n xs) : B.ownsRow base e size v n xs := by
 refine ⟨h.1, ?_⟩
 rcases h.2 with h0 | ⟨g,cap,cur,rfl,hb,hg,rest⟩
 ·exact .inl h0
 ·exact .inr ⟨g,cap,cur,rfl,hb,hc g cur e _ hg,rest⟩
theorem SentI.keep {w : World} {B2 : Nat} {ps : List (Nat × TypeId × Value)} {ms : List Msg} {A B : World} {v : Value} {ws : List MsgV} (h : SentI w B2 ps ms A v ws)
  (hc : ∀ (k : Nat) (cs : Array Value) (T : TypeId) (fz : Nat × Nat),A.heap[k]? = some (Obj.cells cs T fz) → B.heap[k]? = some (Obj.cells cs T fz)) (hb : Below w.heap.size w B) : SentI w B2 ps ms B v ws where
 sent := hc _ _ _ _ h.sent
 row := owns_cells hc h.row
 msgs := h.msgs
 lists := fun t ht => ⟨owns_cells hc (h.lists t ht).1,owns_cells hc (h.lists t ht).2⟩
 boxes := fun q hq => hc _ _ _ _ (h.boxes q hq)
 be := hb
theorem cells_grown {A B : World} {row : Option Nat} (hg : A.grownBy B row) (hr : ∀ r,row = some r → ∃ o : Obj,A.heap[r]? = some o ∧ o.isCells = false) : ∀ (k : Nat) (cs : Array Value) (T : TypeId) (fz : Nat × Nat),A.heap[k]? = some (Obj.cells cs T fz) → B.heap[k]? = some (Obj.cells cs T fz) := by
 intro k cs T fz h
 refine (hg.block k (Array.getElem?_eq_some_iff.1 h).1 (fun e => ?_)).trans h
 obtain ⟨o,ho,hc⟩ := hr k e.symm
 rw [h] at ho
 injection ho with ho
 subst ho
 cases hc
theorem SentI.own {w : World} {B2 : Nat} {ps : List (Nat × TypeId × Value)} {α : Type} (f : List α → List Msg) {B0 : Nat} (hB : w.heap.size ≤ B0) : OwnFrom B0 (fun pre W => ∃ v ws,SentI w B2 ps (f pre) W v ws) := by
 rintro pre A B row ⟨v,ws,h⟩ hg hr
 refine ⟨v,ws,h.keep (cells_grown hg (fun r e => (hr r e).2)) ?_⟩
 exact h.be.grown hg h.be.size (fun k hk => Nat.le_trans hB (hr k hk).1)
theorem ownBlock_cells {w : World} {base size n : Nat} {e : TypeId} {v : Value} {xs : List Value} (h : w.ownsRow base e size v n xs) {k : Nat} (hk : v.ownBlock = some k) : ∃ cs,w.heap[k]? = some (.cells cs e) ∧ base ≤ k := by
 rcases h.2 with ⟨rfl,_⟩ | ⟨g,_,cur,rfl,hb,hg,_⟩
 ·cases hk
 ·have : g = k := by simpa [Value.ownBlock] using hk
  subst this
  exact ⟨cur,hg,hb⟩
theorem SentI.step {w : World} {B2 : Nat} {ps : List (Nat × TypeId × Value)} {ms : List Msg} {W W5 W7 : World} {v v' : Value} {ws : List MsgV} (t : MsgV) (h : SentI w B2 ps ms W v ws)
  (hb5 : Below W.heap.size W W5) (hI : IntOwn W5 t.2.1 t.1.mems) (hL : LogOwn W5 t.2.2 t.1.log)
  (hg : (W5.alloc (.cells (mcells t).toArray 134)).grownBy W7 v.ownBlock) (ho : W7.ownsRow w.heap.size 134 10 v' (ms.length + 1) ((ws ++ [t]).flatMap mcells))
  (hps : ∀ q ∈ ps,q.1 ≠ B2 ∧ q.2.1 ≠ 134) (hB2 : w.heap.size ≤ B2) :
  W7.cell? ⟨B2,0,none⟩ = some v ∧ W7.frozen? ⟨B2,0,none⟩ = false ∧ SentI w B2 ps (ms ++ [t.1]) (W7.setCell ⟨B2,0,none⟩ v') v' (ws ++ [t]) ∧ KeepsOthers W (W7.setCell ⟨B2,0,none⟩ v') ∧
   KeepS entT W (W7.setCell ⟨B2,0,none⟩ v') := by
 have hrow5 : ∀ k,v.ownBlock = some k → ∃ cs,W.heap[k]? = some (.cells cs 134) ∧ w.heap.size ≤ k := fun k hk => ownBlock_cells h.row hk
 have h7 : ∀ k,k < W.heap.size → v.ownBlock ≠ some k → W7.heap[k]? = W.heap[k]? := fun k hk hne => by
  rw [hg.block k (by rw [World.size_alloc]; have := hb5.size; omega) (fun e => hne e.symm),Below.heap_alloc _ _ k (by have := hb5.size; omega)]
  exact hb5.block k hk
 have h57 : ∀ k,k < W5.heap.size → v.ownBlock ≠ some k → W7.heap[k]? = W5.heap[k]? := fun k hk hne => by
  rw [hg.block k (by rw [World.size_alloc]; omega) (fun e => hne e.symm),Below.heap_alloc _ _ k hk]
 have nrow : ∀ (k : Nat) (cs : Array Value) (T : TypeId),W.heap[k]? = some (Obj.cells cs T) → T ≠ 134 → v.ownBlock ≠ some k := fun k cs T hk hT e => by
  obtain ⟨cs',h',_⟩ := hrow5 k e
  rw [hk] at h'
  injection h' with h'
  injection h' with _ h'
  exact hT h'
 have hB2lt : B2 < W.heap.size := (Array.getElem?_eq_some_iff.1 h.sent).1
 have hsent7 : W7.heap[B2]? = some (.cells #[v] 97) := (h7 B2 hB2lt (nrow B2 _ _ h.sent (by decide))).trans h.sent
 have hne' : v'.ownBlock ≠ some B2 := fun e => by
  obtain ⟨cs',h',_⟩ := ownBlock_cells ho e
  rw [hsent7] at h'
  injection h' with h'
  injection h' with _ h'
  exact absurd h' (by decide)
 have other : ∀ k,k ≠ B2 → (W7.setCell ⟨B2,0,none⟩ v').heap[k]? = W7.heap[k]? := fun k hk => Below.heap_setCell _ _ _ k hk
 have rows : ∀ {T : TypeId} {size n : Nat} {u : Value} {xs : List Value},T ≠ 134 → T ≠ 97 → W5.ownsRow 0 T size u n xs → (W7.setCell ⟨B2,0,none⟩ v').ownsRow 0 T size u n xs := by
  intro T size n u xs hT1 hT2 ho5
  refine ⟨ho5.1, ?_⟩
  rcases ho5.2 with h0 | ⟨g,cap,cur,rfl,hb,hgg,rest⟩
  ·exact .inl h0
  ·refine .inr ⟨g,cap,cur,rfl,hb, ?_,rest⟩
   have hg5 : g < W5.heap.size := (Array.getElem?_eq_some_iff.1 hgg).1
   have n1 : v.ownBlock ≠ some g := fun e => by
    obtain ⟨cs',h',_⟩ := hrow5 g e
    rw [← hb5.block g (Array.getElem?_eq_some_iff.1 h').1,hgg] at h'
    injection h' with h'
    injection h' with _ h'
    exact hT1 h'
   have n2 : g ≠ B2 := fun e => by
    subst e
    rw [hb5.block g hB2lt,h.sent] at hgg
    injection hgg with h'
    injection h' with _ h'
    exact hT2 h'.symm
   rw [other g n2,h57 g hg5 n1]
   exact hgg
 have bigger : W.heap.size ≤ W7.heap.size := by have := hg.size; rw [World.size_alloc] at this; have := hb5.size; omega
 refine ⟨?_, ?_, ?_, ?_, ?_⟩
 ·rw [cell_of_heap hsent7]; rfl
 ·exact frozen_of_heap hsent7 0
 ·refine ⟨?_, ?_, ?_, ?_, ?_, ?_⟩
  ·rw [heap_setCell_same W7 B2 0 _ _ _ hsent7]; rfl
  ·rw [List.length_append]
   exact ownsRow_setCell_other ho hne' _
  ·rw [List.map_append,h.msgs]
   rfl
  ·intro t' ht'
   rw [List.mem_append] at ht'
   rcases ht' with ht' | ht'
   ·have hl := h.lists t' ht'
    exact ⟨rows (by decide) (by decide) (owns_kept hl.1 fun k _ hk => hb5.block k hk),rows (by decide) (by decide) (owns_kept hl.2 fun k _ hk => hb5.block k hk)⟩
   ·simp only [List.mem_cons,List.not_mem_nil,or_false] at ht'
    subst ht'
    exact ⟨rows (by decide) (by decide) hI,rows (by decide) (by decide) hL⟩
  ·intro q hq
   have hq0 := h.boxes q hq
   rw [other q.1 (hps q hq).1,h7 q.1 (Array.getElem?_eq_some_iff.1 hq0).1 (nrow _ _ _ hq0 (hps q hq).2)]
   exact hq0
  ·refine Below.setCell ?_ (by show w.heap.size ≤ B2; exact hB2) _
   refine ⟨hg.os.trans (hb5.os.trans h.be.os),hg.tape.trans (hb5.tape.trans h.be.tape),hg.output.trans (hb5.output.trans h.be.output),Nat.le_trans h.be.size bigger,fun k hk => ?_⟩
   rw [h7 k (Nat.lt_of_lt_of_le hk h.be.size) (fun e => by obtain ⟨_,_,h'⟩ := hrow5 k e; omega)]
   exact h.be.block k hk
 ·refine ⟨by simpa using bigger,fun k o hk ho => ?_⟩
  have n1 : v.ownBlock ≠ some k := fun e => by
   obtain ⟨cs',h',_⟩ := hrow5 k e
   rw [hk] at h'
   injection h' with h'
   subst h'
   cases ho
  have n2 : k ≠ B2 := fun e => by
   subst e
   rw [h.sent] at hk
   injection hk with hk
   subst hk
   cases ho
  rw [other k n2,h7 k (Array.getElem?_eq_some_iff.1 hk).1 n1]
  exact hk
 ·intro k cs T fz hS hk
  have hT : T = 42 := by simpa [entT] using hS
  subst hT
  have n1 : v.ownBlock ≠ some k := fun e => by
   obtain ⟨cs',h',_⟩ := hrow5 k e
   rw [hk] at h'
   injection h' with h'
   injection h' with _ h'
   exact absurd h' (by decide)
  have n2 : k ≠ B2 := fun e => by
   subst e
   rw [h.sent] at hk
   injection hk with hk
   injection hk with _ hk
   exact absurd hk (by decide)
  rw [other k n2,h7 k (Array.getElem?_eq_some_iff.1 hk).1 n1]
  exact hk
theorem from_places (p n : Nat) (f : Nat → Msg) : (fromList n p).map (fun y => f y.val) = (placesFrom p n).map f := by
 unfold fromList placesFrom
 rw [List.map_drop,List.map_map]
 apply List.ext_getElem
 ·simp
 ·intro i h1 h2
  simp
set_option maxRecDepth 100000 in
set_option maxHeartbeats 2000000 in
theorem reply_any (b : Nat) (own : Int) (r : Rep) (vm vl : Value) (P : Nat) (w : World) (h : RepAt w b own r vm vl) (ok : RepOK r) (hP : P < r.log.length) (hcl : ∀ x ∈ r.log,0 ≤ x.client ∧ x.client ≤ 3) :
  Calls Tryz.prog 291 #[.pointer (some ⟨b,0,none⟩), .int .i64 (P : Int)] w fun e w' => e = .returned (mval (r.reply own P) (.slice none 0 0) (.slice none 0 0)) ∧ Below w.heap.size w w' := by
 have hl24 := ok.l
 obtain ⟨al,cl,rfl,hcap⟩ := own_cap h.hl
 have HB := hideA h.blk
 obtain ⟨g,cap,hv, -, -⟩ := h.hl.form (by omega)
 cases hv
 have hrow := RowIs.of_owns h.hl
 have HR := hideA hrow
 obtain ⟨cur,fz,hg,hc⟩ := hrow
 obtain ⟨e0,e1,e2,e3,e4⟩ := hc P hP
 have hx := hcl (r.log.getD P Ent.zero) (by rw [List.getD,List.getElem?_eq_getElem hP]; exact List.getElem_mem hP)
 have hb2 : ∀ o o2,Below w.heap.size w ((w.alloc o).alloc o2) := fun o o2 => ((Below.refl _ w).alloc (Nat.le_refl _) o).alloc (by simp) o2
 have HC : Hid (∀ W o1 o2,W = ((w.alloc (.cells o1 134)).alloc (.cells o2 42)).drew → Calls Tryz.prog 296 #[.slice (some ⟨g,0,none⟩) r.log.length cl, .int .i64 (P : Int)] W fun e w' => e = .returned (.int .i64 (answerAt r.log P)) ∧ Below w.heap.size w w' ∧ w'.cell? ⟨b,0,none⟩ = some (.int .i64 own) ∧ w'.cell? ⟨b,4,none⟩ = some (.slice (some ⟨g,0,none⟩) r.log.length cl) ∧ (∀ j,w'.cell? ⟨w.heap.size + 1,j,none⟩ = o2[j]?) ∧ w'.heap[w.heap.size]? = some (.cells o1 134)) := hideA fun W o1 o2 hW => by
  have hb : Below w.heap.size w W := by rw [hW]; exact (hb2 _ _).drew
  have h1 : W.heap[w.heap.size + 1]? = some (.cells o2 42) := by rw [hW]; exact heap_new2 _ _ _
  have h0 : W.heap[w.heap.size]? = some (.cells o1 134) := by rw [hW]; exact (Below.heap_alloc _ _ _ (by simp)).trans (heap_new _ _)
  refine (callsIn_wide.1 (answer_in 6 (hideA (by omega)) g cl r.log P W (by omega) hP hcap (HR.out.keepS (KeepS.below hb)))).mono ?_
  rintro e w' ⟨rfl,hb'⟩
  have hbb := hb.trans (hb'.mono hb.size)
  refine ⟨rfl,hbb,cell_later hbb (cell_of_heap HB.out 0),cell_later hbb (cell_of_heap HB.out 4),fun j => ?_,(hb'.block _ (Array.getElem?_eq_some_iff.1 h0).1).trans h0⟩
  exact cell_of_heap ((hb'.block _ (Array.getElem?_eq_some_iff.1 h1).1).trans h1) j
 have HF : Hid (r.reply own P = { kind := 4,src := own,dst := 300 + (r.log.getD P Ent.zero).client,pos := (r.log.getD P Ent.zero).seq,value := answerAt r.log P }) := hideA rfl
 have c4 : ∀ o,(w.alloc o).cell? ⟨b,4,none⟩ = some (.slice (some ⟨g,0,none⟩) r.log.length cl) := fun o => cell_later ((Below.refl _ w).alloc (Nat.le_refl _) o) (cell_of_heap h.blk 4)
 have d0 := fun o => cell_later ((Below.refl _ w).alloc (Nat.le_refl _) o) e0
 have d1 := fun o => cell_later ((Below.refl _ w).alloc (Nat.le_refl _) o) e1
 have d2 := fun o => cell_later ((Below.refl _ w).alloc (Nat.le_refl _) o) e2
 have d3 := fun o => cell_later ((Below.refl _ w).alloc (Nat.le_refl _) o) e3
 have d4 := fun o => cell_later ((Below.refl _ w).alloc (Nat.le_refl _) o) e4
 have f0 : ∀ o o2,((w.alloc o).alloc o2).cell? ⟨b,0,none⟩ = some (.int .i64 own) := fun o o2 => cell_later (hb2 o o2) (cell_of_heap HB.out 0)
 have f4 : ∀ o o2,((w.alloc o).alloc o2).cell? ⟨b,4,none⟩ = some (.slice (some ⟨g,0,none⟩) r.log.length cl) := fun o o2 => cell_later (hb2 o o2) (cell_of_heap HB.out 4)
 have hbl : b < w.heap.size := (Array.getElem?_eq_some_iff.1 HB.out).1
 have hne1 : ¬ b = w.heap.size := by omega
 have hne2 : ¬ w.heap.size = b := by omega
 have hwr : IntKind.i64.wrap (300 + (r.log.getD P Ent.zero).client) = 300 + (r.log.getD P Ent.zero).client := by rw [IntKind.wrap_i64]; omega
 clear h ok hc e0 e1 e2 e3 e4 hg hcl
 rw [HF.out]
 generalize r.log.getD P Ent.zero = x at *
 generalize answerAt r.log P = ans at *
 go_enter Tryz.func291,Tryz.ntmps291
 go_wp2_with fail
 go_region_held3 (fun w' => w'.cell? ⟨b,0,none⟩ = some (.int .i64 own) ∧ w'.cell? ⟨b,4,none⟩ = some (.slice (some ⟨g,0,none⟩) r.log.length cl) ∧ w'.cell? ⟨w.heap.size + 1,0,none⟩ = some (.int .i64 x.client) ∧ w'.cell? ⟨w.heap.size + 1,1,none⟩ = some (.int .i64 x.seq)) (first | (simp [go_sem]; done) | (simp [go_sem, *]; done) | go_keep) (first | (go_at_call 296; refine (HC.out _ _ _ rfl).mono ?_; rintro e w9 ⟨rfl,hb9,g0,g4,gE,gN⟩; have gE0 := gE 0; have gE1 := gE 1; have gM := fun j => cell_of_heap gN j; have gF := fun j => frozen_of_heap gN j))
 all_goals
  go_wp2_with fail
  refine bodyPost_ret (v := mval { kind := 4,src := own,dst := 300 + x.client,pos := x.seq,value := ans } (.slice none 0 0) (.slice none 0 0)) (by simp [results,Tryz.results291,go_sem,mval,gM]) rfl ⟨rfl, ?_⟩
  iterate 10 refine Below.setCell ?_ (by simp) _
  exact hb9
set_option maxRecDepth 100000 in
set_option maxHeartbeats 1000000 in
theorem replyAgain_any (b : Nat) (own : Int) (r : Rep) (vm vl : Value) (P : Nat) (w : World) (h : RepAt w b own r vm vl) (ok : RepOK r) (hP : P < r.log.length) (hcl : ∀ x ∈ r.log,0 ≤ x.client ∧ x.client ≤ 3) :
  Calls Tryz.prog 283 #[.pointer (some ⟨b,0,none⟩), .int .i64 (P : Int)] w fun e w' => ∃ v,e = .returned v ∧ MsgsOwn w' w.heap.size v (if P < r.commit then [r.reply own P] else []) ∧ Below w.heap.size w w' := by
 have hr := reply_any b own r vm vl P w h ok hP hcl
 have c6 : w.cell? ⟨b,6,none⟩ = some (.int .i64 (r.commit : Int)) := cell_of_heap h.blk 6
 have hm : Hid ((r.reply own P).mems = [] ∧ (r.reply own P).log = []) := hideA ⟨rfl,rfl⟩
 clear h ok hcl
 by_cases hc : P < r.commit
 ·have hc1 : ¬ (r.commit : Int) ≤ (P : Int) := by omega
  rw [if_pos hc]
  generalize r.reply own P = m at *
  unfold mval at hr
  go_enter Tryz.func283,Tryz.ntmps283
  go_wp2_with fail
  refine hr.mono ?_
  rintro e w1 ⟨rfl,hb1⟩
  go_wp2_with fail
  go_ret
  exact ⟨_,rfl,MsgsOwn.one m (.slice none 0 0) (.slice none 0 0) (heap_new _ _) hb1.size (by rw [hm.out.1]; exact IntOwn.nil _) (by rw [hm.out.2]; exact LogOwn.nil _),hb1.alloc hb1.size _⟩
 ·have hc1 : (r.commit : Int) ≤ (P : Int) := by omega
  rw [if_neg hc]
  go_enter Tryz.func283,Tryz.ntmps283
  go_wp2_with fail
  go_ret
  exact ⟨_,rfl,MsgsOwn.nil _ _,Below.refl _ _⟩
def RepS (b : Nat) (vm vl : Value) (k : Nat) : Prop := k = b ∨ vm.ownBlock = some k ∨ vl.ownBlock = some k
def Grows (w : World) (v v' : Value) : Prop := ∀ k,v'.ownBlock = some k → v.ownBlock = some k ∨ w.heap.size ≤ k
theorem Grows.refl (w : World) (v : Value) : Grows w v v := fun _ h => .inl h
def RepTo (w w' : World) (b : Nat) (own : Int) (vm vl : Value) (r' : Rep) : Prop := ∃ vm' vl',RepAt w' b own r' vm' vl' ∧ Moved w w' (RepS b vm vl) ∧ Grows w vm vm' ∧ Grows w vl vl'
theorem RepTo.still {w w' : World} {b : Nat} {own : Int} {r : Rep} {vm vl : Value} (h : RepAt w b own r vm vl) (hb : Below w.heap.size w w') : RepTo w w' b own vm vl r :=
 ⟨vm,vl,h.below hb,(Moved.refl w _).below hb,Grows.refl _ _,Grows.refl _ _⟩
theorem Grows.trans {w w1 : World} {v v1 v2 : Value} (h : Grows w v v1) (h' : Grows w1 v1 v2) (hs : w.heap.size ≤ w1.heap.size) : Grows w v v2 := by
 intro k hk
 rcases h' k hk with h1 | h1
 ·exact h k h1
 ·exact .inr (Nat.le_trans hs h1)
theorem RepTo.then {w w1 w2 : World} {b : Nat} {own : Int} {vm vl vm1 vl1 : Value} {r2 : Rep} (hm : Moved w w1 (RepS b vm vl)) (g1 : Grows w vm vm1) (g2 : Grows w vl vl1) (h : RepTo w1 w2 b own vm1 vl1 r2) : RepTo w w2 b own vm vl r2 := by
 obtain ⟨vm2,vl2,h1,h2,h3,h4⟩ := h
 refine ⟨vm2,vl2,h1,hm.trans h2 ?_,g1.trans h3 hm.size,g2.trans h4 hm.size⟩
 intro k hk hS
 rcases hS with rfl | hS | hS
 ·exact .inl rfl
 ·rcases g1 k hS with h | h
  ·exact .inr (.inl h)
  ·omega
 ·rcases g2 k hS with h | h
  ·exact .inr (.inr h)
  ·omega
theorem blk_type {w : World} {b : Nat} {cs : Array Value} {T : TypeId} {base size n : Nat} {e : TypeId} {v : Value} {xs : List Value} (hb : w.heap[b]? = some (.cells cs T)) (hv : w.ownsRow base e size v n xs) (he : e ≠ T) : v.ownBlock ≠ some b := by
 intro e1
 obtain ⟨cs',h',_⟩ := ownBlock_cells hv e1
 rw [hb] at h'
 injection h' with h'
 injection h' with _ h'
 exact he h'.symm
theorem RepAt.set {w : World} {b : Nat} {own : Int} {r : Rep} {vm vl : Value} (h : RepAt w b own r vm vl) (j : Nat) (u : Value) (r' : Rep) (vm' vl' : Value)
  (hcs : (#[.int .i64 own, .int .i64 r.epoch, .int .i64 r.lock,vm,vl, .int .i64 (r.base : Int), .int .i64 (r.commit : Int)] : Array Value).setIfInBounds j u = #[.int .i64 own, .int .i64 r'.epoch, .int .i64 r'.lock,vm',vl', .int .i64 (r'.base : Int), .int .i64 (r'.commit : Int)])
  (h1 : IntOwn w vm' r'.mems) (h2 : LogOwn w vl' r'.log) : RepAt (w.setCell ⟨b,j,none⟩ u) b own r' vm' vl' := by
 refine ⟨?_, ?_, ?_⟩
 ·rw [heap_setCell_same w b j _ _ _ h.blk,hcs]
 ·exact ownsRow_setCell_other h1 (blk_type h.blk h1 (by decide)) _
 ·exact ownsRow_setCell_other h2 (blk_type h.blk h2 (by decide)) _
end Go.Proofs.YtgieeeeeiggoeaaGreat
