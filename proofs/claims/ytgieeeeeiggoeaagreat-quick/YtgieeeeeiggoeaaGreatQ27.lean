import Derived.Test.YtgieeeeeiggoeaaGreatQ26
import Derived.Test.YtgieeeeeiggoeaaGreatQ18
import Derived.Maps.Own
namespace Go.Proofs.YtgieeeeeiggoeaaGreat
open Go.RowKit Go.Shelf
theorem cloneLog_any (v : Value) (es : List Ent) (w : World) (hv : LogOwn w v es) (hl : es.length ≤ 1000) :
  Calls Tryz.prog 147 #[v] w fun e w' => ∃ a c,e = .returned (.slice a es.length c) ∧ w'.ownsRow w.heap.size 42 5 (.slice a es.length c) es.length (ints (entsNums es)) ∧ Below w.heap.size w w' := by
 refine (clone_ents v es.length (ints (entsNums es)) w (CellsAt.of_owns hv) hv.1 (ints_one _) (by omega)).mono ?_
 rintro e w' ⟨v',rfl,h1,h2⟩
 obtain ⟨a,c,rfl⟩ := owns_shape h1
 exact ⟨a,c,rfl,h1,h2⟩
theorem cloneMems_any (v : Value) (l : List Int) (w : World) (hv : IntOwn w v l) (hl : l.length ≤ 1000) :
  Calls Tryz.prog 69 #[v] w fun e w' => ∃ a c,e = .returned (.slice a l.length c) ∧ w'.ownsRow w.heap.size 3 1 (.slice a l.length c) l.length (ints l) ∧ Below w.heap.size w w' := by
 refine (clone_ints v l.length (ints l) w (CellsAt.of_owns hv) (by rw [ints_length,Nat.mul_one]) (ints_one _) (by omega)).mono ?_
 rintro e w' ⟨v',rfl,h1,h2⟩
 obtain ⟨a,c,rfl⟩ := owns_shape h1
 exact ⟨a,c,rfl,h1,h2⟩
set_option maxRecDepth 100000 in
set_option maxHeartbeats 1000000 in
theorem takeSeal_any (b : Nat) (own : Int) (r : Rep) (vm vl : Value) (m : Msg) (mm ml : Value) (w : World) (h : RepAt w b own r vm vl) (ok : RepOK r) (hep : -1000000 ≤ r.epoch ∧ r.epoch ≤ 1000000) :
  Calls Tryz.prog 268 #[.pointer (some ⟨b,0,none⟩),mval m mm ml] w fun e w' => RepOut w w' b own vm vl e (r.takeSeal own m) := by
 have HT : Hid (r.takeSeal own m = if r.epoch + 1 < m.epoch then (r, [])
  else ({ r with lock := if m.epoch = r.epoch + 1 then m.epoch else r.lock }, [{ kind := 8,src := own,dst := m.src,epoch := m.epoch,ballot := m.ballot,log := r.log }])) := hideA rfl
 have hwr : IntKind.i64.wrap (r.epoch + 1) = r.epoch + 1 := by rw [IntKind.wrap_i64]; omega
 have hbl : b < w.heap.size := (Array.getElem?_eq_some_iff.1 h.blk).1
 have hl24 := ok.l
 obtain ⟨al,cl,rfl⟩ := owns_shape h.hl
 have HR := hideA h
 clear h ok
 have HTail : Hid (∀ (Y : World) (r1 : Rep),RepAt Y b own r1 vm (.slice al r.log.length cl) → r1.log = r.log → Y.heap[w.heap.size]? = some (.cells #[.int .i64 m.kind, .int .i64 m.src, .int .i64 m.dst, .int .i64 m.epoch, .int .i64 m.ballot, .int .i64 m.vote, .int .i64 m.pos, .int .i64 m.value,mm,ml] 134) → ∀ W,W = Y.drew → Calls Tryz.prog 147 #[.slice al r.log.length cl] W fun e w' => ∃ a c,e = .returned (.slice a r.log.length c) ∧ LogOwn w' (.slice a r.log.length c) r.log ∧ Below Y.heap.size Y w' ∧
   w'.cell? ⟨b,0,none⟩ = some (.int .i64 own) ∧ w'.cell? ⟨b,4,none⟩ = some (.slice al r.log.length cl) ∧ w'.cell? ⟨w.heap.size,1,none⟩ = some (.int .i64 m.src) ∧ w'.cell? ⟨w.heap.size,3,none⟩ = some (.int .i64 m.epoch) ∧ w'.cell? ⟨w.heap.size,4,none⟩ = some (.int .i64 m.ballot)) := hideA (by
  rintro Y r1 R1 hlog hB W rfl
  have hl1 := R1.hl
  rw [hlog] at hl1
  refine (cloneLog_any _ r.log Y.drew (owns_kept hl1 fun k _ hk => rfl) (by omega)).mono ?_
  rintro e w' ⟨a,c,rfl,h1,h2⟩
  have hb : Below Y.heap.size Y w' := ((Below.refl _ Y).drew).trans h2
  exact ⟨a,c,rfl,owns_base h1 (Nat.zero_le _),hb,cell_later hb (cell_of_heap R1.blk 0),cell_later hb (cell_of_heap R1.blk 4),cell_later hb (cell_of_heap hB 1),cell_later hb (cell_of_heap hB 3),cell_later hb (cell_of_heap hB 4)⟩)
 unfold mval
 go_enter Tryz.func268,Tryz.ntmps268
 go_wp2_with fail
 obtain ⟨X,hX,hbX,hBX⟩ := msg_box w m mm ml
 rw [hX]
 clear hX
 have RX := hideA (HR.out.below hbX)
 have c1 : X.cell? ⟨b,1,none⟩ = some (.int .i64 r.epoch) := cell_of_heap RX.out.blk 1
 have g3 := cell_of_heap hBX 3
 have HBX := hideA hBX
 clear hBX
 by_cases he : r.epoch + 1 < m.epoch
 ·have HN : Hid (r.takeSeal own m = (r, [])) := hideA (by rw [HT.out,if_pos he])
  go_quiet (fail)
  go_wp2_with fail
  go_ret
  rw [HN.out]
  exact RepOut.still HR.out (below_drewN hbX _)
 ·have hed : decide (r.epoch + 1 < m.epoch) = false := decide_eq_false he
  have Hne := hideA he
  clear he
  go_quiet (fail)
  have hbX2 := below_drewN hbX nq
  have RX2 := hideA (HR.out.below hbX2)
  have HBX2 : Hid ((X.drewN nq).heap[w.heap.size]? = some (.cells #[.int .i64 m.kind, .int .i64 m.src, .int .i64 m.dst, .int .i64 m.epoch, .int .i64 m.ballot, .int .i64 m.vote, .int .i64 m.pos, .int .i64 m.value,mm,ml] 134)) := HBX
  generalize X.drewN nq = X2 at *
  clear RX HBX hbX c1 g3
  have c1 : X2.cell? ⟨b,1,none⟩ = some (.int .i64 r.epoch) := cell_of_heap RX2.out.blk 1
  have g3 := cell_of_heap HBX2.out 3
  go_wp2_with fail
  cases heq : (m.epoch == r.epoch + 1) with
  | false =>
   have HN : Hid (r.takeSeal own m = (r, [{ kind := 8,src := own,dst := m.src,epoch := m.epoch,ballot := m.ballot,log := r.log }])) := hideA (by
    rw [HT.out,if_neg (show ¬ r.epoch + 1 < m.epoch by have := Hne.out; omega),if_neg (by intro e; rw [e] at heq; simp at heq)])
   go_quiet (fail)
   go_wp2_with fail
   have hbY := below_drewN hbX2 nq
   have RY := hideA (HR.out.below hbY)
   have HBY : Hid ((X2.drewN nq).heap[w.heap.size]? = some (.cells #[.int .i64 m.kind, .int .i64 m.src, .int .i64 m.dst, .int .i64 m.epoch, .int .i64 m.ballot, .int .i64 m.vote, .int .i64 m.pos, .int .i64 m.value,mm,ml] 134)) := HBX2
   generalize X2.drewN nq = Y at *
   clear c1 g3 heq
   have y0 : Y.cell? ⟨b,0,none⟩ = some (.int .i64 own) := cell_of_heap RY.out.blk 0
   have y4 : Y.cell? ⟨b,4,none⟩ = some (.slice al r.log.length cl) := cell_of_heap RY.out.blk 4
   have y1 := cell_of_heap HBY.out 1
   have y3 := cell_of_heap HBY.out 3
   have y5 := cell_of_heap HBY.out 4
   go_region_held3 (fun w' => w'.cell? ⟨b,0,none⟩ = some (.int .i64 own) ∧ w'.cell? ⟨b,4,none⟩ = some (.slice al r.log.length cl) ∧ w'.cell? ⟨w.heap.size,1,none⟩ = some (.int .i64 m.src) ∧ w'.cell? ⟨w.heap.size,3,none⟩ = some (.int .i64 m.epoch) ∧ w'.cell? ⟨w.heap.size,4,none⟩ = some (.int .i64 m.ballot)) (first | (simp [go_sem]; done) | (simp [go_sem, *]; done) | go_keep) (first | (go_at_call 147; refine (HTail.out Y _ RY.out rfl HBY.out _ rfl).mono ?_; rintro e Z ⟨az,cz,rfl,hlo,hbZ,z0,z4,z1,z3,z5⟩))
   all_goals
    go_wp2_with fail
    go_ret
    rw [HN.out]
    have hbZ' := hbY.trans (hbZ.mono hbY.size)
    exact ⟨_,rfl,RepTo.still HR.out (hbZ'.alloc hbZ'.size _),MsgsOwn.one { kind := 8,src := own,dst := m.src,epoch := m.epoch,ballot := m.ballot,log := r.log } (.slice none 0 0) (.slice az r.log.length cz) (heap_new _ _) hbZ'.size (IntOwn.nil _) (hlo.alloc _)⟩
  | true =>
   have Heq : Hid (m.epoch = r.epoch + 1) := hideA (by simpa using heq)
   have HN : Hid (r.takeSeal own m = ({ r with lock := m.epoch }, [{ kind := 8,src := own,dst := m.src,epoch := m.epoch,ballot := m.ballot,log := r.log }])) := hideA (by
    rw [HT.out,if_neg (show ¬ r.epoch + 1 < m.epoch by have := Hne.out; omega),if_pos Heq.out])
   go_quiet (fail)
   have hbY := below_drewN hbX2 nq
   have RY0 := hideA (HR.out.below hbY)
   have HBY0 : Hid ((X2.drewN nq).heap[w.heap.size]? = some (.cells #[.int .i64 m.kind, .int .i64 m.src, .int .i64 m.dst, .int .i64 m.epoch, .int .i64 m.ballot, .int .i64 m.vote, .int .i64 m.pos, .int .i64 m.value,mm,ml] 134)) := HBX2
   generalize X2.drewN nq = Y0 at *
   clear c1 g3 heq
   have g3 := cell_of_heap HBY0.out 3
   have c2 : Y0.cell? ⟨b,2,none⟩ = some (.int .i64 r.lock) := cell_of_heap RY0.out.blk 2
   have f2 : Y0.frozen? ⟨b,2,none⟩ = false := frozen_of_heap RY0.out.blk 2
   go_wp2_with fail
   have RY := hideA (RY0.out.set 2 (.int .i64 m.epoch) { r with lock := m.epoch } vm (.slice al r.log.length cl) rfl RY0.out.hm RY0.out.hl)
   have MY : Moved w (Y0.setCell ⟨b,2,none⟩ (.int .i64 m.epoch)) (RepS b vm (.slice al r.log.length cl)) := ((Moved.refl w _).below hbY).setCell ⟨b,2,none⟩ (.inl rfl) _
   have HBY : Hid ((Y0.setCell ⟨b,2,none⟩ (.int .i64 m.epoch)).heap[w.heap.size]? = some (.cells #[.int .i64 m.kind, .int .i64 m.src, .int .i64 m.dst, .int .i64 m.epoch, .int .i64 m.ballot, .int .i64 m.vote, .int .i64 m.pos, .int .i64 m.value,mm,ml] 134)) := hideA ((Below.heap_setCell _ _ _ _ (by show w.heap.size ≠ b; omega)).trans HBY0.out)
   generalize Y0.setCell ⟨b,2,none⟩ (.int .i64 m.epoch) = Y at *
   clear g3 c2 f2
   have y0 : Y.cell? ⟨b,0,none⟩ = some (.int .i64 own) := cell_of_heap RY.out.blk 0
   have y4 : Y.cell? ⟨b,4,none⟩ = some (.slice al r.log.length cl) := cell_of_heap RY.out.blk 4
   have y1 := cell_of_heap HBY.out 1
   have y3 := cell_of_heap HBY.out 3
   have y5 := cell_of_heap HBY.out 4
   go_region_held3 (fun w' => w'.cell? ⟨b,0,none⟩ = some (.int .i64 own) ∧ w'.cell? ⟨b,4,none⟩ = some (.slice al r.log.length cl) ∧ w'.cell? ⟨w.heap.size,1,none⟩ = some (.int .i64 m.src) ∧ w'.cell? ⟨w.heap.size,3,none⟩ = some (.int .i64 m.epoch) ∧ w'.cell? ⟨w.heap.size,4,none⟩ = some (.int .i64 m.ballot)) (first | (simp [go_sem]; done) | (simp [go_sem, *]; done) | go_keep) (first | (go_at_call 147; refine (HTail.out Y _ RY.out rfl HBY.out _ rfl).mono ?_; rintro e Z ⟨az,cz,rfl,hlo,hbZ,z0,z4,z1,z3,z5⟩))
   all_goals
    go_wp2_with fail
    go_ret
    rw [HN.out]
    have hMs := MY.size
    have hbs := hbZ.size
    exact ⟨_,rfl,RepTo.then MY (Grows.refl _ _) (Grows.refl _ _) (RepTo.still RY.out (hbZ.alloc hbZ.size _)),MsgsOwn.one { kind := 8,src := own,dst := m.src,epoch := m.epoch,ballot := m.ballot,log := r.log } (.slice none 0 0) (.slice az r.log.length cz) (heap_new _ _) (by omega) (IntOwn.nil _) (hlo.alloc _)⟩
end Go.Proofs.YtgieeeeeiggoeaaGreat
namespace Go.Proofs.YtgieeeeeiggoeaaGreat
open Go.RowKit
def seek (k : Int) : List (Int × Value) → Nat → Option (Nat × Value)
 | [],_ => none
 | p :: l,i => if k = p.1 then some (i,p.2) else seek k l (i + 1)
def lookK (l : List (Int × Value)) (k : Int) : Option Value := (seek k l 0).map Prod.snd
def putAt (l : List (Int × Value)) (k : Int) (v : Value) : List (Int × Value) :=
 match seek k l 0 with
 | some (j,_) => l.set j (k,v)
 | none => l ++ [(k,v)]
theorem seek_from (k : Int) : ∀ (l : List (Int × Value)) (i : Nat),(seek k l i).map Prod.snd = (seek k l 0).map Prod.snd
 | [],_ => rfl
 | p :: l,i => by
  unfold seek
  split
  ·rfl
  ·rw [seek_from k l (i + 1),seek_from k l (0 + 1)]
theorem lookK_cons (p : Int × Value) (l : List (Int × Value)) (k : Int) : lookK (p :: l) k = if k = p.1 then some p.2 else lookK l k := by
 unfold lookK
 rw [show seek k (p :: l) 0 = if k = p.1 then some (0,p.2) else seek k l 1 from rfl]
 split
 ·rfl
 ·exact seek_from k l 1
theorem seek_some (k : Int) : ∀ (l : List (Int × Value)) (i j : Nat) (v : Value),seek k l i = some (j,v) → ∃ d,j = i + d ∧ l[d]? = some (k,v) ∧ ∀ x u,lookK (l.set d (k,u)) x = if x = k then some u else lookK l x
 | [],_,_,_,h => by cases h
 | p :: l,i,j,v,h => by
  unfold seek at h
  split at h
  ·rename_i hk
   cases h
   refine ⟨0,rfl,by simp [hk],fun x u => ?_⟩
   rw [List.set_cons_zero,lookK_cons,lookK_cons,hk]
   by_cases hx : x = p.1
   ·simp [hx]
   ·simp [hx]
  ·rename_i hk
   obtain ⟨d,h1,h2,h3⟩ := seek_some k l (i + 1) j v h
   refine ⟨d + 1,by omega,by simpa using h2,fun x u => ?_⟩
   rw [List.set_cons_succ,lookK_cons,lookK_cons,h3]
   by_cases hx : x = p.1
   ·rw [if_pos hx,if_pos hx,if_neg (fun e => hk (by rw [← e,hx]))]
   ·rw [if_neg hx,if_neg hx]
theorem seek_none (k : Int) : ∀ (l : List (Int × Value)) (i : Nat),seek k l i = none → ∀ x u,lookK (l ++ [(k,u)]) x = if x = k then some u else lookK l x
 | [],_,_,x,u => by
  rw [List.nil_append,lookK_cons]
 | p :: l,i,h,x,u => by
  unfold seek at h
  split at h
  ·cases h
  ·rename_i hk
   rw [List.cons_append,lookK_cons,lookK_cons,seek_none k l (i + 1) h]
   by_cases hx : x = p.1
   ·rw [if_pos hx,if_pos hx,if_neg (fun e => hk (by rw [← e,hx]))]
   ·rw [if_neg hx,if_neg hx]
theorem lookK_put (l : List (Int × Value)) (k : Int) (v : Value) (x : Int) : lookK (putAt l k v) x = if x = k then some v else lookK l x := by
 unfold putAt
 split
 ·rename_i j u h
  obtain ⟨d,h1,_,h3⟩ := seek_some k l 0 j u h
  rw [show j = d by omega]
  exact h3 x v
 ·rename_i h
  exact seek_none k l 0 h x v
def MapAt (w : World) (b : Nat) (l : List (Int × Value)) : Prop :=
 ∃ es clock,w.heap[b]? = some (.map es clock) ∧ es.toList.map (fun e => (e.key,e.val)) = l.map (fun p => (Value.int .i64 p.1,p.2))
theorem MapAt.keep {w w' : World} {b : Nat} {l : List (Int × Value)} (h : MapAt w b l) (hk : w'.heap[b]? = w.heap[b]?) : MapAt w' b l := by
 obtain ⟨es,c,h1,h2⟩ := h
 exact ⟨es,c,hk.trans h1,h2⟩
theorem find_now (k : Int) : ∀ (es : List MapEntry) (l : List (Int × Value)) (i : Nat),es.map (fun e => (e.key,e.val)) = l.map (fun p => (Value.int .i64 p.1,p.2)) → Instr.findNow (.int .i64) (.int .i64 k) es i = some (seek k l i)
 | [],l,i,h => by
  cases l with
  | nil => rfl
  | cons p l => cases h
 | e :: es,l,i,h => by
  cases l with
  | nil => cases h
  | cons p l =>
   simp only [List.map_cons,List.cons.injEq,Prod.mk.injEq] at h
   obtain ⟨⟨h1,h2⟩,h3⟩ := h
   unfold Instr.findNow seek
   rw [h1]
   by_cases hk : k = p.1
   ·simp [Instr.sameNow,hk,h2]
   ·have hb : (k == p.1) = false := by simpa using hk
    simp only [Instr.sameNow,hb,if_true,if_neg hk]
    exact find_now k es l (i + 1) h3
theorem run_find (w : World) (k : Int) (es : List MapEntry) (l : List (Int × Value)) (h : es.map (fun e => (e.key,e.val)) = l.map (fun p => (Value.int .i64 p.1,p.2))) : (Instr.findKey 3 (.int .i64 k) es).run Tryz.prog w = .ok (seek k l 0) w := by
 unfold Instr.findKey
 simp only [Sem.run_bind,run_underlying Tryz.underlying3,Result.andThen]
 rw [find_now k es l 0 h]
 rfl
theorem run_look (w : World) (b : Nat) (l : List (Int × Value)) (k : Int) (h : MapAt w b l) : (Instr.lookup 155 (.map (some b)) (.int .i64 k) true).run Tryz.prog w =
  .ok (.tuple #[(lookK l k).getD (.agg #[.int .i64 0, .int .i64 0, .slice none 0 0, .slice none 0 0]), .bool (lookK l k).isSome]) w := by
 obtain ⟨es,clock,h1,h2⟩ := h
 have hz : (zeroValue 310).run Tryz.prog w = .ok (.agg #[.int .i64 0, .int .i64 0, .slice none 0 0, .slice none 0 0]) w := by kernel_rfl
 have hc : (Instr.checkKey es.isEmpty 10000 3 (.int .i64 k)).run Tryz.prog w = .ok () w := MapKept.run_checkKey Tryz.underlying3 (by simp [MapKept.IsKey]) _ 9999
 unfold Instr.lookup
 simp only [Sem.run_bind,run_underlying Tryz.underlying155,MapKept.run_getObj_map h1,Result.andThen,Sem.run_pure,hc,run_find w k es.toList l h2]
 unfold lookK
 cases hs : seek k l 0 with
 | none => simp [hz]
 | some p => simp
theorem run_put (w : World) (b : Nat) (l : List (Int × Value)) (k : Int) (v : Value) (h : MapAt w b l) : ∃ w',(Instr.mapUpdate 155 (.map (some b)) (.int .i64 k) v).run Tryz.prog w = .ok () w' ∧ MapAt w' b (putAt l k v) ∧ Moved w w' (fun x => x = b) := by
 obtain ⟨es,clock,h1,h2⟩ := h
 have hc : (Instr.checkKey false 10000 3 (.int .i64 k)).run Tryz.prog w = .ok () w := MapKept.run_checkKey Tryz.underlying3 (by simp [MapKept.IsKey]) _ 9999
 have hm : ∀ o : Obj,Moved w (ChangeMaps.setBlock w b o) (fun x => x = b) := fun o => ⟨rfl,rfl,rfl,by simp [ChangeMaps.setBlock],fun x _ hx => ChangeMaps.heap_setBlock_other h1 o hx⟩
 unfold Instr.mapUpdate putAt
 cases hs : seek k l 0 with
 | none =>
  refine ⟨_, ?_,⟨_,_,ChangeMaps.heap_setBlock_same h1 (.map (es.push { key := .int .i64 k,val := v,born := clock }) (clock + 1)), ?_⟩,hm _⟩
  ·simp only [Sem.run_bind,run_underlying Tryz.underlying155,MapKept.run_getObj_map h1,Result.andThen,hc,run_find w k es.toList l h2,hs,MapKept.run_setObj_map _ h1]
   rfl
  ·simp [h2]
 | some q =>
  obtain ⟨j,u⟩ := q
  obtain ⟨d,e1,e2, -⟩ := seek_some k l 0 j u hs
  obtain rfl : j = d := by omega
  have hj : (es.toList.map (fun e => (e.key,e.val)))[j]? = some (.int .i64 k,u) := by rw [h2,List.getElem?_map,e2]; rfl
  rw [List.getElem?_map] at hj
  obtain ⟨e,he,hee⟩ : ∃ e,es.toList[j]? = some e ∧ (e.key,e.val) = (.int .i64 k,u) := by
   cases h9 : es.toList[j]? with
   | none => rw [h9] at hj; cases hj
   | some e => rw [h9] at hj; simp at hj; exact ⟨e,rfl,by simp [hj]⟩
  have hke : e.key = .int .i64 k := by simp at hee; exact hee.1
  have hk2 : ((es[j]?).map (·.key)).getD (.int .i64 k) = .int .i64 k := by
   rw [show es[j]? = some e by simpa using he]
   simp [hke]
  have hst : (Instr.keyThatStays (.int .i64 k) (.int .i64 k)).run Tryz.prog w = .ok (.int .i64 k) w := MapKept.run_keyThatStays (d := .int .i64) (by simp [MapKept.IsKey])
  refine ⟨_, ?_,⟨_,_,ChangeMaps.heap_setBlock_same h1 (.map (es.modify j fun e => { e with key := .int .i64 k,val := v }) clock), ?_⟩,hm _⟩
  ·simp only [Sem.run_bind,run_underlying Tryz.underlying155,MapKept.run_getObj_map h1,Result.andThen,hc,run_find w k es.toList l h2,hs,hk2,hst,MapKept.run_setObj_map _ h1]
   rfl
  ·have hjl : j < es.size := by
    have := (List.getElem?_eq_some_iff.1 he).1
    simpa using this
   rw [Array.toList_modify]
   apply List.ext_getElem?
   intro i
   rw [List.getElem?_map,List.getElem?_map,List.getElem?_set,List.getElem?_modify]
   have hi : (es.toList[i]?).map (fun e => (e.key,e.val)) = (l[i]?).map (fun p => (Value.int .i64 p.1,p.2)) := by
    rw [← List.getElem?_map,h2,List.getElem?_map]
   by_cases hij : j = i
   ·subst hij
    have hl : j < l.length := (List.getElem?_eq_some_iff.1 e2).1
    rw [he]
    simp [hl]
   ·simp only [if_neg hij]
    rw [← hi]
    cases es.toList[i]? <;> rfl
end Go.Proofs.YtgieeeeeiggoeaaGreat
namespace Go.Proofs.YtgieeeeeiggoeaaGreat
open Go.RowKit Go.Shelf
theorem owns_only {w w' : World} {base size n : Nat} {e : TypeId} {v : Value} {xs : List Value} (ho : w.ownsRow base e size v n xs) (hv : ∀ k,v.ownBlock = some k → w'.heap[k]? = w.heap[k]?) : w'.ownsRow base e size v n xs := by
 refine ⟨ho.1, ?_⟩
 rcases ho.2 with h0 | ⟨g,cap,cur,rfl,hb,hg,rest⟩
 ·exact .inl h0
 ·exact .inr ⟨g,cap,cur,rfl,hb,(hv g rfl).trans hg,rest⟩
def VoteAt (w : World) (F : Nat → Prop) (o : Option Value) (a : AVote) : Prop :=
 match o with
 | none => a = AVote.none
 | some v => ∃ vm vl,v = .agg #[.int .i64 a.promise, .int .i64 a.ballot,vm,vl] ∧ IntOwn w vm a.mems ∧ LogOwn w vl a.log ∧ (∀ k,vm.ownBlock = some k → F k) ∧ (∀ k,vl.ownBlock = some k → F k)
structure AccIn (w : World) (F : Nat → Prop) (b : Nat) (own : Int) (a : Acc) (vm : Value) (g : Nat) (l : List (Int × Value)) : Prop where
 blk : w.heap[b]? = some (.cells #[.int .i64 own, .int .i64 a.epoch,vm, .map (some g)] 157)
 hm : IntOwn w vm a.mems
 map : MapAt w g l
 votes : ∀ e,VoteAt w F (lookK l e) (a.votes e)
 fb : F b
 fg : F g
 fm : ∀ k,vm.ownBlock = some k → F k
 lt : ∀ k,F k → k < w.heap.size
def AccAt (w : World) (F : Nat → Prop) (b : Nat) (own : Int) (a : Acc) : Prop := ∃ vm g l,AccIn w F b own a vm g l
structure AccOK (a : Acc) : Prop where
 m : a.mems.length ≤ 5
 v : ∀ e,(a.votes e).mems.length ≤ 5 ∧ (a.votes e).log.length ≤ 24
theorem VoteAt.keep {w w' : World} {F F' : Nat → Prop} {o : Option Value} {a : AVote} (h : VoteAt w F o a) (hk : ∀ k,F k → w'.heap[k]? = w.heap[k]?) (hF : ∀ k,F k → F' k) : VoteAt w' F' o a := by
 cases o with
 | none => exact h
 | some v =>
  obtain ⟨vm,vl,rfl,h1,h2,h3,h4⟩ := h
  exact ⟨vm,vl,rfl,owns_only h1 fun k e => hk k (h3 k e),owns_only h2 fun k e => hk k (h4 k e),fun k e => hF k (h3 k e),fun k e => hF k (h4 k e)⟩
theorem AccIn.keep {w w' : World} {F : Nat → Prop} {b : Nat} {own : Int} {a : Acc} {vm : Value} {g : Nat} {l : List (Int × Value)} (h : AccIn w F b own a vm g l) (hk : ∀ k,F k → w'.heap[k]? = w.heap[k]?) : AccIn w' F b own a vm g l where
 blk := (hk b h.fb).trans h.blk
 hm := owns_only h.hm fun k e => hk k (h.fm k e)
 map := h.map.keep (hk g h.fg)
 votes := fun e => (h.votes e).keep hk fun _ h => h
 fb := h.fb
 fg := h.fg
 fm := h.fm
 lt := fun k hF => by
  have h1 := h.lt k hF
  have h2 := hk k hF
  rw [Array.getElem?_eq_getElem h1] at h2
  exact (Array.getElem?_eq_some_iff.1 h2).1
theorem AccIn.below {w w' : World} {F : Nat → Prop} {b : Nat} {own : Int} {a : Acc} {vm : Value} {g : Nat} {l : List (Int × Value)} (h : AccIn w F b own a vm g l) (hb : Below w.heap.size w w') : AccIn w' F b own a vm g l :=
 h.keep fun k hF => hb.block k (h.lt k hF)
set_option maxRecDepth 100000 in
set_option maxHeartbeats 1000000 in
theorem ballotsOf_any (F : Nat → Prop) (b : Nat) (own : Int) (a : Acc) (vm : Value) (g : Nat) (l : List (Int × Value)) (E : Int) (w : World) (h : AccIn w F b own a vm g l) :
  Calls Tryz.prog 258 #[.pointer (some ⟨b,0,none⟩), .int .i64 E] w fun e w' => ∃ vm' vl',e = .returned (.agg #[.int .i64 (a.votes E).promise, .int .i64 (a.votes E).ballot,vm',vl']) ∧
   IntOwn w vm' (a.votes E).mems ∧ LogOwn w vl' (a.votes E).log ∧ (∀ k,vm'.ownBlock = some k → F k) ∧ (∀ k,vl'.ownBlock = some k → F k) ∧ Below w.heap.size w w' := by
 have hbl : b < w.heap.size := h.lt b h.fb
 have hb0 := (Below.refl w.heap.size w).alloc (Nat.le_refl _) (.cells #[.int .i64 0, .int .i64 0, .slice none 0 0, .slice none 0 0] 310)
 have c3 : (w.alloc (.cells #[.int .i64 0, .int .i64 0, .slice none 0 0, .slice none 0 0] 310)).cell? ⟨b,3,none⟩ = some (.map (some g)) := cell_later hb0 (cell_of_heap h.blk 3)
 have hL := run_look (w.alloc (.cells #[.int .i64 0, .int .i64 0, .slice none 0 0, .slice none 0 0] 310)) g l E (h.map.keep (hb0.block g (h.lt g h.fg)))
 have hV := h.votes E
 cases hl : lookK l E with
 | none =>
  rw [hl] at hL hV
  simp only [Option.getD_none,Option.isSome_none] at hL
  have hV' : Hid (a.votes E = AVote.none) := hideA hV
  clear h hV hl
  go_enter Tryz.func258,Tryz.ntmps258
  go_wp2_with fail
  refine bodyPost_ret (v := .agg #[.int .i64 (-1), .int .i64 (-1), .slice none 0 0, .slice none 0 0]) (by simp [results,Tryz.results258,go_sem]) rfl ?_
  have e1 : a.votes E = AVote.none := hV'.out
  refine ⟨.slice none 0 0, .slice none 0 0,(by rw [e1]; rfl),(by rw [e1]; exact World.ownsRow_nil _ _ _ _),(by rw [e1]; exact World.ownsRow_nil _ _ _ _),(fun _ h => nomatch h),(fun _ h => nomatch h),(Below.refl w.heap.size w).alloc (Nat.le_refl _) _ |>.alloc (by simp) _⟩
 | some v =>
  rw [hl] at hL hV
  simp only [Option.getD_some,Option.isSome_some] at hL
  obtain ⟨vm',vl',rfl,h1,h2,h3,h4⟩ := hV
  have H := hideA (And.intro h1 (And.intro h2 (And.intro h3 h4)))
  obtain ⟨a1,d1,rfl⟩ := owns_shape h1
  obtain ⟨a2,d2,rfl⟩ := owns_shape h2
  clear h h1 h2 h3 h4 hl
  go_enter Tryz.func258,Tryz.ntmps258
  go_wp2_with fail
  refine bodyPost_ret (v := .agg #[.int .i64 (a.votes E).promise, .int .i64 (a.votes E).ballot, .slice a1 (a.votes E).mems.length d1, .slice a2 (a.votes E).log.length d2]) (by simp [results,Tryz.results258,go_sem]) rfl ?_
  exact ⟨_,_,rfl,H.out.1,H.out.2.1,H.out.2.2.1,H.out.2.2.2,(Below.refl w.heap.size w).alloc (Nat.le_refl _) _ |>.alloc (by simp) _⟩
end Go.Proofs.YtgieeeeeiggoeaaGreat
