import Derived.Test.YtgieeeeeiggoeaaGreatQ22
import Derived.Test.YtgieeeeeiggoeaaGreatQ34
namespace Go.Proofs.YtgieeeeeiggoeaaGreat
open Go.RowKit Go.Shelf
attribute [local go_sem] Oper.semAt_some
set_option maxRecDepth 100000 in
set_option maxHeartbeats 4000000 in
theorem hasLater_in (n : Nat) (hn : Hid (6 ≤ n)) (v : Value) (es : List Ent) (c s : Int) (w : World) (hl : es.length ≤ 1000) (hv : LogB w v es) :
  CallsIn Fence.wide n Tryz.prog 284 #[v, .int .i64 c, .int .i64 s] w fun e w' => e = .returned (.bool (es.any (isLat c s))) ∧ Below w.heap.size w w' := by
 have hv1 := hv
 obtain ⟨a,cc,rfl⟩ := hv1.shape
 have Hh := hideA (fit_head (isLat c s) es)
 obtain ⟨N,hN⟩ : ∃ N,N = w.heap.size := ⟨_,rfl⟩
 refine callsIn_of_wp_marks Tryz.func284 rfl trivial ?_ rfl
 simp only [Tryz.ntmps284,List.size_toArray,List.length_cons,List.length_nil,Nat.reduceAdd,Nat.reduceSub,Array.replicate_succ,Array.replicate_zero,List.push_toArray,List.append_toArray,List.nil_append,List.cons_append]
 gi_wp2_with fail
 refine ⟨trivial,by simp [Fence.wide],(fitting_any _ _ _ _ a es.length cc rfl _).mono ?_⟩
 rintro e W ⟨rfl,rfl⟩
 obtain ⟨X1,hX1,hb1,hs1,c1,f1, -, -, -⟩ := box_more (Below.refl _ w) (.int .i64 c) 3
 rw [hX1]
 obtain ⟨X2,hX2,hb2,hs2,c2,f2,k2,fr2, -⟩ := box_more hb1 (.int .i64 s) 3
 rw [hX2]
 obtain ⟨X4,hX4,hb4,hs4,c4,f4,k4,fr4, -⟩ := box_more hb2 (.bool false) 4
 rw [hX4]
 obtain ⟨X5,hX5,hb5,hs5,c5,f5,k5,fr5, -⟩ := box_more hb4 (.slice a es.length cc) 44
 rw [hX5]
 obtain ⟨X,hX,hb,hs6,c6,f6,k6,fr6, -⟩ := box_more hb5 (.func (.func 292) #[] #[.pointer (some ⟨w.heap.size,0,none⟩), .pointer (some ⟨w.heap.size + 1,0,none⟩)]) 132
 rw [hX]
 clear hX hX1 hX2 hX4 hX5
 rw [hs5,hs4,hs2,hs1] at c6 f6
 rw [hs4,hs2,hs1] at c5
 rw [hs2,hs1] at c4 f4
 rw [hs1] at c2
 have e1 := k6 _ _ (k5 _ _ (k4 _ _ (k2 _ _ c1)))
 have e2 := k6 _ _ (k5 _ _ (k4 _ _ c2))
 have e4 := k6 _ _ (k5 _ _ c4)
 have g4 := (fr6 _ _ (k5 _ _ c4)).trans ((fr5 _ _ c4).trans f4)
 have e5 := k6 _ _ c5
 have hsz : X.heap.size = w.heap.size + 5 := by omega
 have hX4s : X4.heap.size = w.heap.size + 1 + 1 + 1 := by omega
 rw [hX4s]
 have hvX := hideA (hv.below hb)
 clear k2 k4 k5 k6 fr2 fr4 fr5 fr6 c1 c2 c4 c5 f1 f2 f4 f5 f6 hb1 hb2 hb4 hb5 hs1 hs2 hs4 hs5 hs6 hX4s hv hv1
 have hps : Hid (CellsOK ((⟨w.heap.size + 1 + 1 + 1 + 1,0,none⟩, .func (.func 292) #[] #[.pointer (some ⟨w.heap.size,0,none⟩), .pointer (some ⟨w.heap.size + 1,0,none⟩)]) :: [(⟨w.heap.size,0,none⟩, .int .i64 c),(⟨w.heap.size + 1,0,none⟩, .int .i64 s)]) X) := hideA (by
  intro q hq
  simp only [List.mem_cons,List.not_mem_nil,or_false] at hq
  rcases hq with rfl | rfl | rfl
  ·exact c6
  ·exact e1
  ·exact e2)
 gi_wp2_with fail
 refine wpIn_rangeFunc_ownF rfl (by have := hn.out; omega) (gf := 295) (lb := #[.pointer (some ⟨w.heap.size + 1 + 1 + 1,0,none⟩), .pointer (some ⟨w.heap.size + 1 + 1 + 1 + 1,0,none⟩)]) rfl trivial (enters_of Tryz.func295 (by kernel_rfl) rfl)
  (fitting_stops (n - 1) (w.heap.size + 1 + 1 + 1) (w.heap.size + 1 + 1 + 1 + 1) (.slice a es.length cc) es 292 #[.pointer (some ⟨w.heap.size,0,none⟩), .pointer (some ⟨w.heap.size + 1,0,none⟩)] (isLat c s) [(⟨w.heap.size,0,none⟩, .int .i64 c),(⟨w.heap.size + 1,0,none⟩, .int .i64 s)] X hl (enters_of Tryz.func292 (by kernel_rfl) rfl)
   (fun W1 e h => callsIn_wide.2 (later1_any c s w.heap.size (w.heap.size + 1) e W1 (h _ List.mem_cons_self) (h _ (List.mem_cons_of_mem _ List.mem_cons_self)))) e5 hps.out hvX.out)
  KeepF.trans (fun W l o o' _ hl hc _ => keepF_put _ W l o o' hl hc) (Below.refl _ _) (fun _ => rfl)
  (fun pre W => (pre = [] ∧ W.cell? ⟨w.heap.size + 1 + 1,0,none⟩ = some (.bool false) ∧ W.frozen? ⟨w.heap.size + 1 + 1,0,none⟩ = false) ∧ Below w.heap.size w W)
  (fun c pre W => (c = .ret ∧ ∃ y : Nat × Ent,pre = [y] ∧ W.cell? ⟨w.heap.size + 1 + 1,0,none⟩ = some (.bool true)) ∧ Below w.heap.size w W)
  (OwnFrom.and (Own.from (fun s A B row hs hg hr => ⟨hs.1,cell_kept hs.2.1 hg hr,(frozen_kept hs.2.1 hg hr).trans hs.2.2⟩) _) (ownFrom_below (Nat.le_refl _) (by omega)))
  (fun c => OwnFrom.and (Own.from (fun s A B row hs hg hr => by obtain ⟨h1,y,h2,h3⟩ := hs; exact ⟨h1,y,h2,cell_kept h3 hg hr⟩) _) (ownFrom_below (Nat.le_refl _) (by omega)))
  ⟨⟨rfl,e4,g4⟩,hb⟩
  (fun x => { tmps := #[.slice a es.length cc, .int .i64 c, .int .i64 s,undef, .pointer (some ⟨w.heap.size,0,none⟩), .pointer (some ⟨w.heap.size + 1,0,none⟩), .pointer (some ⟨w.heap.size + 1 + 1,0,none⟩),
   .func (.func 292) #[] #[.pointer (some ⟨w.heap.size,0,none⟩), .pointer (some ⟨w.heap.size + 1,0,none⟩)], .func (.func 292) #[] #[.pointer (some ⟨w.heap.size,0,none⟩), .pointer (some ⟨w.heap.size + 1,0,none⟩)], .slice a es.length cc, .func (.func 292) #[] #[.pointer (some ⟨w.heap.size,0,none⟩), .pointer (some ⟨w.heap.size + 1,0,none⟩)],
   .func (.func 295) #[] #[.pointer (some ⟨w.heap.size + 1 + 1 + 1,0,none⟩), .pointer (some ⟨w.heap.size + 1 + 1 + 1 + 1,0,none⟩)], .int .i64 (x.1 : Int),entV x.2],defers := [] }) ?assign ?body ?done ?stop
 case assign =>
  intro l x W K hK
  gi_wp2
  simpa using hK
 case body =>
  rintro l pre x W ⟨⟨rfl,hcb,hfb⟩,hB⟩ _
  gi_wp2_with fail
  exact ⟨KeepsOthers.setCell _ _ _,⟨rfl,x,rfl,World.cell?_setCell_same' _ _ _ (by rw [hcb]; rfl)⟩,hB.setCell (p := ⟨w.heap.size + 1 + 1,0,none⟩) (by simp; omega) _⟩
 case done =>
  rintro D ys W hD hys ⟨⟨rfl,hcb,hfb⟩,hB⟩ hK
  have hany : Hid (es.any (isLat c s) = false) := hideA (by
   have h := Hh.out
   rw [← hys] at h
   by_cases h2 : es.any (isLat c s) = true
   ·rw [if_pos h2] at h; cases h
   ·simpa using h2)
  gi_wp2
  have hK' := (KeepsOthers.setCell W ⟨w.heap.size + 1 + 1,0,none⟩ (.bool false)).same D _ hK rfl
  refine ⟨by simp, .inl ⟨_,_,rfl,run_takeDeferred hK', ?_⟩⟩
  have hc5 := cell_kept (World.cell?_setCell_same' W ⟨w.heap.size + 1 + 1,0,none⟩ (.bool false) (by rw [hcb]; rfl)) (grownBy_putObj' _ D (.deferred none)) (fun r e => by cases e; exact ⟨_,hK',rfl⟩)
  refine ⟨.bool false, ?_,by rw [hany.out],(hB.setCell (p := ⟨w.heap.size + 1 + 1,0,none⟩) (by simp; omega) _).trans (belowK_b (w := w) (Nat.le_refl _) _ D _ _ (by omega) hK' rfl rfl)⟩
  simp [results,Tryz.f284,go_sem,hc5]
 case stop =>
  rintro D c' pre W hD hpre ⟨⟨rfl,y,rfl,hcb⟩,hB⟩ hK
  have HL : Hid (es.any (isLat c s) = true) := hideA (by
   have h := Hh.out
   obtain ⟨t,ht⟩ := hpre
   rw [← ht] at h
   by_cases h2 : es.any (isLat c s) = true
   ·exact h2
   ·rw [if_neg h2] at h; cases h)
  gi_wp2
  refine ⟨by simp, .inl ⟨_,_,rfl,run_takeDeferred hK, ?_⟩⟩
  have hc5 := cell_kept hcb (grownBy_putObj' _ D (.deferred none)) (fun r e => by cases e; exact ⟨_,hK,rfl⟩)
  refine ⟨.bool true, ?_,by rw [HL.out],hB.trans (belowK_b (w := w) (Nat.le_refl _) W D _ _ (by omega) hK rfl rfl)⟩
  simp [results,Tryz.f284,go_sem,hc5]
end Go.Proofs.YtgieeeeeiggoeaaGreat
namespace Go.Proofs.YtgieeeeeiggoeaaGreat
open Go.RowKit Go.Shelf
def Rep.headed (r : Rep) (own : Int) (e : Ent) : Rep × List Msg :=
 if r.log.any (isReq e) then
  if r.log.findIdx (isReq e) < r.commit then (r, [r.reply own (r.log.findIdx (isReq e))]) else (r, [])
 else if 24 ≤ r.log.length ∨ r.log.any (isLater e) then (r, [])
 else r.put own e
theorem RepOut.if_msgs {w w' : World} {b : Nat} {own : Int} {vm vl : Value} {e : Ending} {r : Rep} {c : Prop} [Decidable c] {l : List Msg} (h : RepOut w w' b own vm vl e (r,if c then l else [])) : RepOut w w' b own vm vl e (if c then (r,l) else (r, [])) := by
 by_cases hc : c
 ·rw [if_pos hc] at h ⊢; exact h
 ·rw [if_neg hc] at h ⊢; exact h
theorem RepOut.before {w w1 w2 : World} {b : Nat} {own : Int} {vm vl : Value} {e : Ending} {p : Rep × List Msg} (hb : Below w.heap.size w w1) (h : RepOut w1 w2 b own vm vl e p) : RepOut w w2 b own vm vl e p := by
 obtain ⟨v,h1,h2,h3⟩ := h
 exact ⟨v,h1,RepTo.then ((Moved.refl w _).below hb) (Grows.refl _ _) (Grows.refl _ _) h2,h3.base hb.size⟩
set_option maxRecDepth 100000 in
set_option maxHeartbeats 1000000 in
theorem takeAsHead_any (b : Nat) (own : Int) (r : Rep) (vm vl : Value) (x : Ent) (w : World) (h : RepAt w b own r vm vl) (ok : RepOK r) (hcli : ∀ y ∈ r.log ++ [x],0 ≤ y.client ∧ y.client ≤ 3) :
  Calls Tryz.prog 274 #[.pointer (some ⟨b,0,none⟩),entV x] w fun e w' => RepOut w w' b own vm vl e (r.headed own x) := by
 have HT : Hid (r.headed own x = if r.log.any (isIt x.client x.seq) then (if r.log.findIdx (isIt x.client x.seq) < r.commit then (r, [r.reply own (r.log.findIdx (isIt x.client x.seq))]) else (r, [])) else if 24 ≤ r.log.length ∨ r.log.any (isLat x.client x.seq) then (r, []) else r.put own x) := hideA rfl
 have hbl : b < w.heap.size := (Array.getElem?_eq_some_iff.1 h.blk).1
 have hl24 := ok.l
 obtain ⟨al,cl,rfl⟩ := owns_shape h.hl
 have HR := hideA h
 have HO := hideA ok
 have HC := hideA hcli
 clear h ok hcli
 have HF : Hid (∀ Y,Below w.heap.size w Y → Y.heap[w.heap.size]? = some (.cells #[.int .i64 x.client, .int .i64 x.seq, .int .i64 x.kind, .int .i64 x.key, .int .i64 x.value] 42) → ∀ W,W = Y.drew → Calls Tryz.prog 282 #[.slice al r.log.length cl, .int .i64 x.client, .int .i64 x.seq] W fun e w' => e = .returned (.tuple #[.int .i64 (findAt r.log x.client x.seq), .bool (r.log.any (isIt x.client x.seq))]) ∧ Below w.heap.size w w' ∧ w'.heap[w.heap.size]? = some (.cells #[.int .i64 x.client, .int .i64 x.seq, .int .i64 x.kind, .int .i64 x.key, .int .i64 x.value] 42) ∧
   w'.cell? ⟨b,4,none⟩ = some (.slice al r.log.length cl) ∧ w'.cell? ⟨w.heap.size,0,none⟩ = some (.int .i64 x.client) ∧ w'.cell? ⟨w.heap.size,1,none⟩ = some (.int .i64 x.seq)) := hideA (by
  rintro Y hbY hBY W rfl
  have hbYd : Below w.heap.size w Y.drew := hbY.drew
  refine (callsIn_wide.1 (find_in 6 (hideA (by omega)) _ r.log x.client x.seq Y.drew (by omega) ((LogB.of_owns HR.out.hl).below hbYd))).mono ?_
  rintro e w' ⟨rfl,hb'⟩
  have hb : Below w.heap.size w w' := hbYd.trans (hb'.mono hbYd.size)
  have hB' : w'.heap[w.heap.size]? = some (.cells #[.int .i64 x.client, .int .i64 x.seq, .int .i64 x.kind, .int .i64 x.key, .int .i64 x.value] 42) := (hb'.block _ (Array.getElem?_eq_some_iff.1 hBY).1).trans hBY
  exact ⟨rfl,hb,hB',cell_of_heap (HR.out.below hb).blk 4,cell_of_heap hB' 0,cell_of_heap hB' 1⟩)
 have HL : Hid (∀ Y,Below w.heap.size w Y → Y.heap[w.heap.size]? = some (.cells #[.int .i64 x.client, .int .i64 x.seq, .int .i64 x.kind, .int .i64 x.key, .int .i64 x.value] 42) → ∀ W,W = Y.drew → Calls Tryz.prog 284 #[.slice al r.log.length cl, .int .i64 x.client, .int .i64 x.seq] W fun e w' => e = .returned (.bool (r.log.any (isLat x.client x.seq))) ∧ Below w.heap.size w w' ∧ w'.heap[w.heap.size]? = some (.cells #[.int .i64 x.client, .int .i64 x.seq, .int .i64 x.kind, .int .i64 x.key, .int .i64 x.value] 42) ∧
   w'.cell? ⟨b,4,none⟩ = some (.slice al r.log.length cl) ∧ w'.cell? ⟨w.heap.size,0,none⟩ = some (.int .i64 x.client) ∧ w'.cell? ⟨w.heap.size,1,none⟩ = some (.int .i64 x.seq)) := hideA (by
  rintro Y hbY hBY W rfl
  have hbYd : Below w.heap.size w Y.drew := hbY.drew
  refine (callsIn_wide.1 (hasLater_in 6 (hideA (by omega)) _ r.log x.client x.seq Y.drew (by omega) ((LogB.of_owns HR.out.hl).below hbYd))).mono ?_
  rintro e w' ⟨rfl,hb'⟩
  have hb : Below w.heap.size w w' := hbYd.trans (hb'.mono hbYd.size)
  have hB' : w'.heap[w.heap.size]? = some (.cells #[.int .i64 x.client, .int .i64 x.seq, .int .i64 x.kind, .int .i64 x.key, .int .i64 x.value] 42) := (hb'.block _ (Array.getElem?_eq_some_iff.1 hBY).1).trans hBY
  exact ⟨rfl,hb,hB',cell_of_heap (HR.out.below hb).blk 4,cell_of_heap hB' 0,cell_of_heap hB' 1⟩)
 have HFu : Hid (∀ W,Below w.heap.size w W → Calls Tryz.prog 277 #[.pointer (some ⟨b,0,none⟩)] W fun e w' => e = .returned (.bool (decide ((24 : Int) ≤ (r.log.length : Int)))) ∧ w' = W) := hideA fun W hb => isFull_any b own r vm _ W (HR.out.below hb)
 unfold entV
 go_enter Tryz.func274,Tryz.ntmps274
 go_wp2_with fail
 obtain ⟨X,hX,hbX,hBX⟩ : ∃ X,w.alloc (.cells #[.int .i64 x.client, .int .i64 x.seq, .int .i64 x.kind, .int .i64 x.key, .int .i64 x.value] 42) = X ∧ Below w.heap.size w X ∧ X.heap[w.heap.size]? = some (.cells #[.int .i64 x.client, .int .i64 x.seq, .int .i64 x.kind, .int .i64 x.key, .int .i64 x.value] 42) := ⟨_,rfl,(Below.refl _ w).alloc (Nat.le_refl _) _,heap_new _ _⟩
 rw [hX]
 clear hX
 have c4 : X.cell? ⟨b,4,none⟩ = some (.slice al r.log.length cl) := cell_of_heap (HR.out.below hbX).blk 4
 have g0 := cell_of_heap hBX 0
 have g1 := cell_of_heap hBX 1
 have HBX := hideA hBX
 clear hBX
 go_region_held3 (fun w' => w'.cell? ⟨b,4,none⟩ = some (.slice al r.log.length cl) ∧ w'.cell? ⟨w.heap.size,0,none⟩ = some (.int .i64 x.client) ∧ w'.cell? ⟨w.heap.size,1,none⟩ = some (.int .i64 x.seq)) (first | (simp [go_sem]; done) | (simp [go_sem, *]; done) | go_keep) (first | (go_at_call 282; refine (HF.out X hbX HBX.out _ rfl).mono ?_; rintro e Y ⟨rfl,hbY,hBY,y4,y0,y1⟩))
 have HBY := hideA hBY
 clear hBY c4 g0 g1 HBX hbX
 cases hany : r.log.any (isIt x.client x.seq) with
 | true =>
  have hfl : r.log.findIdx (isIt x.client x.seq) < r.log.length := List.findIdx_lt_length_of_exists (by simpa using hany)
  have Hfa : Hid (findAt r.log x.client x.seq = (r.log.findIdx (isIt x.client x.seq) : Int)) := hideA (by unfold findAt; rw [if_pos hany])
  have HN : Hid (r.headed own x = if r.log.findIdx (isIt x.client x.seq) < r.commit then (r, [r.reply own (r.log.findIdx (isIt x.client x.seq))]) else (r, [])) := hideA (by rw [HT.out,if_pos hany])
  rw [Hfa.out]
  clear hany
  go_wp2_with fail
  refine (replyAgain_any b own r vm _ (r.log.findIdx (isIt x.client x.seq)) Y (HR.out.below hbY) HO.out hfl (fun y hy => HC.out y (List.mem_append_left _ hy))).mono ?_
  rintro e Z ⟨v,rfl,hmo,hbZ⟩
  obtain ⟨L,hL⟩ : ∃ L,L = (if r.log.findIdx (isIt x.client x.seq) < r.commit then [r.reply own (r.log.findIdx (isIt x.client x.seq))] else []) := ⟨_,rfl⟩
  rw [← hL] at hmo
  have HLL := hideA hL
  clear hL
  obtain ⟨av,cv,hsh⟩ := hmo.shape
  subst hsh
  go_wp2_with fail
  go_ret
  rw [HN.out]
  refine RepOut.before hbY (RepOut.if_msgs ?_)
  rw [← HLL.out]
  exact ⟨_,rfl,RepTo.still (HR.out.below hbY) hbZ,hmo⟩
 | false =>
  have Hany := hideA hany
  clear hany
  by_cases hfu : (24 : Int) ≤ (r.log.length : Int)
  ·have HN : Hid (r.headed own x = (r, [])) := hideA (by rw [HT.out,if_neg (by rw [Hany.out]; simp),if_pos (.inl (by omega))])
   have hfd : decide ((24 : Int) ≤ (r.log.length : Int)) = true := decide_eq_true hfu
   rw [hfd] at HFu
   go_wp2_with fail
   go_quiet ((go_at_call 277; refine (HFu.out _ (below_drewN hbY _)).mono ?_; rintro e w9 ⟨rfl,rfl⟩; exact ⟨rfl,_,rfl⟩))
   go_wp2_with fail
   go_ret
   rw [HN.out]
   exact RepOut.still HR.out (below_drewN hbY _)
  ·have hfd : decide ((24 : Int) ≤ (r.log.length : Int)) = false := decide_eq_false hfu
   rw [hfd] at HFu
   go_wp2_with fail
   go_region_held3 (fun w' => w'.cell? ⟨b,4,none⟩ = some (.slice al r.log.length cl) ∧ w'.cell? ⟨w.heap.size,0,none⟩ = some (.int .i64 x.client) ∧ w'.cell? ⟨w.heap.size,1,none⟩ = some (.int .i64 x.seq)) (first | (simp [go_sem]; done) | (simp [go_sem, *]; done) | go_keep) (first | (go_at_call 277; refine (HFu.out _ hbY.drew).mono ?_; rintro e w9 ⟨rfl,rfl⟩) | (go_at_call 284; refine (HL.out Y hbY HBY.out _ rfl).mono ?_; rintro e Z ⟨rfl,hbZ,hBZ,z4,z0,z1⟩))
   have HBZ := hideA hBZ
   clear hBZ
   cases hlat : r.log.any (isLat x.client x.seq) with
   | true =>
    have HN : Hid (r.headed own x = (r, [])) := hideA (by rw [HT.out,if_neg (by rw [Hany.out]; simp),if_pos (.inr hlat)])
    clear hlat
    go_wp2_with fail
    go_ret
    rw [HN.out]
    exact RepOut.still HR.out hbZ
   | false =>
    have HN : Hid (r.headed own x = r.put own x) := hideA (by rw [HT.out,if_neg (by rw [Hany.out]; simp),if_neg (by rw [hlat]; simp; omega)])
    clear hlat
    have g0 := cell_of_heap HBZ.out 0
    have g1 := cell_of_heap HBZ.out 1
    have g2 := cell_of_heap HBZ.out 2
    have g3 := cell_of_heap HBZ.out 3
    have g4 := cell_of_heap HBZ.out 4
    have hput := put_any b own r vm _ x Z (HR.out.below hbZ) HO.out (by omega) HC.out
    unfold entV at hput
    go_wp2_with fail
    refine hput.mono ?_
    rintro e Z2 ⟨v,rfl,hto,hmo⟩
    obtain ⟨av,cv,hsh⟩ := hmo.shape
    subst hsh
    generalize hpl : (r.put own x).2.length = pl at *
    go_wp2_with fail
    go_ret
    rw [HN.out]
    exact RepOut.before hbZ ⟨_,rfl,hto,hmo⟩
def Rep.takeRequest (r : Rep) (own : Int) (m : Msg) : Rep × List Msg := if m.log.length = 1 ∧ r.live own then r.asked own (m.log.headD Ent.zero) else (r, [])
theorem asked_headed (r : Rep) (own : Int) (e : Ent) : r.asked own e = if r.mems.headD 0 ≠ own then (r, [{ kind := 1,src := own,dst := r.mems.headD 0,log := [e] }]) else r.headed own e := rfl
set_option maxRecDepth 100000 in
set_option maxHeartbeats 1000000 in
theorem takeRequest_any (b : Nat) (own : Int) (r : Rep) (vm vl : Value) (m : Msg) (mm ml : Value) (w : World) (h : RepAt w b own r vm vl) (ok : RepOK r) (h2 : LogOwn w ml m.log) (hcli : ∀ y ∈ r.log ++ m.log,0 ≤ y.client ∧ y.client ≤ 3) :
  Calls Tryz.prog 265 #[.pointer (some ⟨b,0,none⟩),mval m mm ml] w fun e w' => RepOut w w' b own vm vl e (r.takeRequest own m) := by
 have HT : Hid (r.takeRequest own m = if m.log.length = 1 ∧ r.live own then r.asked own (m.log.headD Ent.zero) else (r, [])) := hideA rfl
 have hbl : b < w.heap.size := (Array.getElem?_eq_some_iff.1 h.blk).1
 obtain ⟨al,cl,rfl⟩ := owns_shape h2
 have HR := hideA h
 have HO := hideA ok
 have HC := hideA hcli
 have H2 := hideA h2
 have HLi : Hid (∀ W,Below w.heap.size w W → Calls Tryz.prog 263 #[.pointer (some ⟨b,0,none⟩)] W fun e w' => e = .returned (.bool (r.live own)) ∧ ∃ q,w' = W.drewN q) := hideA fun W hb => isLive_any b own r vm vl W (h.below hb) ok
 clear h ok hcli h2
 unfold mval
 go_enter Tryz.func265,Tryz.ntmps265
 go_upto_region 1 with fail
 obtain ⟨X,hX,hbX,hBX⟩ := msg_box w m mm (.slice al m.log.length cl)
 rw [hX]
 clear hX
 have g9 := cell_of_heap hBX 9
 have HBX := hideA hBX
 clear hBX
 by_cases h1 : m.log.length = 1
 ·obtain ⟨x,hx⟩ : ∃ x,m.log = [x] := List.length_eq_one_iff.1 h1
  have Hx := hideA hx
  rw [h1] at g9
  have Hl1 := hideA h1
  clear h1 hx
  go_wp2_with fail
  refine (HLi.out _ hbX).mono ?_
  rintro e Y ⟨rfl,q,rfl⟩
  have hbY := below_drewN hbX q
  have HBY : Hid ((X.drewN q).heap[w.heap.size]? = some (.cells #[.int .i64 m.kind, .int .i64 m.src, .int .i64 m.dst, .int .i64 m.epoch, .int .i64 m.ballot, .int .i64 m.vote, .int .i64 m.pos, .int .i64 m.value,mm, .slice al m.log.length cl] 134)) := HBX
  generalize X.drewN q = Y at *
  clear g9 HBX hbX
  cases hlv : r.live own with
  | false =>
   have HN : Hid (r.takeRequest own m = (r, [])) := hideA (by rw [HT.out,if_neg]; rintro ⟨-,h2⟩; rw [hlv] at h2; cases h2)
   clear hlv
   go_wp2_with fail
   go_ret
   rw [HN.out]
   exact RepOut.still HR.out hbY
  | true =>
   have HA : Hid (r.takeRequest own m = if r.mems.headD 0 ≠ own then (r, [{ kind := 1,src := own,dst := r.mems.headD 0,log := [x] }]) else r.headed own x) := hideA (by
    rw [HT.out,if_pos ⟨Hl1.out,hlv⟩,Hx.out,asked_headed]; rfl)
   have hmem : own ∈ r.mems := by
    have := hlv
    unfold Rep.live at this
    simp at this
    exact this.1
   have hpos : 0 < r.mems.length := List.length_pos_of_mem hmem
   clear hlv hmem
   have RY := hideA (HR.out.below hbY)
   obtain ⟨gm,cm,hvm, -, -⟩ := HR.out.hm.form hpos
   subst hvm
   have c3 : Y.cell? ⟨b,3,none⟩ = some (.slice (some ⟨gm,0,none⟩) r.mems.length cm) := cell_of_heap RY.out.blk 3
   have c0 : Y.cell? ⟨b,0,none⟩ = some (.int .i64 own) := cell_of_heap RY.out.blk 0
   have m0 : Y.cell? ⟨gm,0,none⟩ = some (.int .i64 (r.mems.headD 0)) := by
    obtain ⟨a',c',e',hc'⟩ := IntsAt.of_owns RY.out.hm
    cases e'
    obtain ⟨b1,o1,e1,hc1⟩ := hc' 0 hpos
    cases e1
    rw [hc1]
    cases hmm : r.mems with
    | nil => rw [hmm] at hpos; simp at hpos
    | cons y t => rfl
   have g9 : Y.cell? ⟨w.heap.size,9,none⟩ = some (.slice al 1 cl) := by have := cell_of_heap HBY.out 9; rw [Hl1.out] at this; exact this
   have hpos' : (0 : Int) < (r.mems.length : Int) := by omega
   have HLo : Hid (LogOwn Y (.slice al 1 cl) [x]) := hideA (by
    have := owns_kept (w' := Y) H2.out fun k _ hk => hbY.block k hk
    rw [Hx.out] at this
    exact this)
   generalize r.mems.headD 0 = hd at *
   cases hne : (hd != own) with
   | true =>
    have HN : Hid (r.takeRequest own m = (r, [{ kind := 1,src := own,dst := hd,log := [x] }])) := hideA (by rw [HA.out,if_pos (by simpa using hne)])
    go_wp2_with fail
    go_region_held3 (fun w' => w'.cell? ⟨b,0,none⟩ = some (.int .i64 own) ∧ w'.cell? ⟨w.heap.size,9,none⟩ = some (.slice al 1 cl)) (first | (simp [go_sem]; done) | (simp [go_sem, *]; done) | go_keep) (fail)
    all_goals
     go_wp2_with fail
     go_ret
     rw [HN.out]
     exact ⟨_,rfl,RepTo.still HR.out ((hbY.alloc hbY.size _).drew),MsgsOwn.one { kind := 1,src := own,dst := hd,log := [x] } (.slice none 0 0) (.slice al 1 cl) (heap_new _ _) hbY.size (IntOwn.nil _) (HLo.out.alloc _)⟩
   | false =>
    have HN : Hid (r.takeRequest own m = r.headed own x) := hideA (by rw [HA.out,if_neg (by simpa using hne)])
    obtain ⟨gl,cl',hvl, -, -⟩ := HLo.out.form (by simp)
    cases hvl
    have hrow := RowIs.of_owns HLo.out
    obtain ⟨cur,fz, -,hcc⟩ := hrow
    obtain ⟨e0,e1,e2,e3,e4⟩ := hcc 0 (by simp)
    have k0 : Y.cell? ⟨gl,0,none⟩ = some (.int .i64 x.client) := by simpa using e0
    have k1 : Y.cell? ⟨gl,1,none⟩ = some (.int .i64 x.seq) := by simpa using e1
    have k2 : Y.cell? ⟨gl,2,none⟩ = some (.int .i64 x.kind) := by simpa using e2
    have k3 : Y.cell? ⟨gl,3,none⟩ = some (.int .i64 x.key) := by simpa using e3
    have k4 : Y.cell? ⟨gl,4,none⟩ = some (.int .i64 x.value) := by simpa using e4
    clear hcc e0 e1 e2 e3 e4
    have hh := takeAsHead_any b own r _ vl x Y RY.out HO.out (by have := HC.out; rw [Hx.out] at this; exact this)
    unfold entV at hh
    go_wp2_with fail
    refine hh.mono ?_
    rintro e Z ⟨v,rfl,hto,hmo⟩
    obtain ⟨av,cv,hsh⟩ := hmo.shape
    subst hsh
    generalize hpl : (r.headed own x).2.length = pl at *
    go_wp2_with fail
    go_ret
    rw [HN.out]
    exact RepOut.before hbY ⟨_,rfl,hto,hmo⟩
 ·have HN : Hid (r.takeRequest own m = (r, [])) := hideA (by rw [HT.out,if_neg (fun h => h1 h.1)])
  have hbn : ((m.log.length : Int) != 1) = true := by simp; omega
  go_wp2_with fail
  go_ret
  rw [HN.out]
  exact RepOut.still HR.out hbX
end Go.Proofs.YtgieeeeeiggoeaaGreat
