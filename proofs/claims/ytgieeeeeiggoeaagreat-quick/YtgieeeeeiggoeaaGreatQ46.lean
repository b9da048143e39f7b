import Derived.Test.YtgieeeeeiggoeaaGreatQ44
import Derived.Test.YtgieeeeeiggoeaaGreatQ45
namespace Go.Proofs.YtgieeeeeiggoeaaGreat
open Go.RowKit Go.Shelf
def decMsg (L : List UInt8) : Msg := ⟨(decOf L).k,(decOf L).f,(decOf L).t,(decOf L).ep,(decOf L).ba,(decOf L).vo,(decOf L).po,(decOf L).va,(decOf L).ms,(decOf L).es⟩
theorem msgOf_dec (L : List UInt8) : msgOf L = if (decOf L).err = 0 then some (decMsg L) else none := rfl
theorem send_nil (c : Clu) (h : c.bag.length ≤ 200) : c.send [] = c := by
 unfold Clu.send
 rw [List.map_nil,List.append_nil,List.take_of_length_le h]
theorem tell_up (c : Clu) (m : Msg) (d : Int) : (c.tell m).upOf d = c.upOf d := by
 unfold Clu.tell
 split <;> rfl
theorem tell_bag (c : Clu) (m : Msg) : (c.tell m).bag = c.bag := by
 unfold Clu.tell
 split <;> rfl
theorem arrive_tell {c : Clu} {m : Msg} (h : c.upOf m.dst ≠ some true) (hb : c.bag.length ≤ 200) : c.arrive m = c.tell m := by
 unfold Clu.arrive
 rw [takes_none (by rw [tell_up]; exact h),send_nil _ (by rw [tell_bag]; exact hb)]
theorem num_small {n j : Nat} (hn : n ≤ 5) (hj : j < n + 5) : numOf n j < 300 := by
 unfold numOf
 split
 ·omega
 ·split <;> omega
theorem tell_no {c : Clu} {m : Msg} (h : m.dst < 300) : c.tell m = c := by
 unfold Clu.tell
 rw [if_neg (by omega)]
theorem arrive_node {c : Clu} {m : Msg} {j : Nat} (hn : c.reps.length ≤ 5) (hp : nodPlace c.reps.length m.dst = some j) (hu : (c.nod j).up = true) :
  c.arrive m = { c.setNod j ((c.nod j).take m.dst m).1 with bag := puts c.bag ((c.nod j).take m.dst m).2 } := by
 have hd : m.dst < 300 := by rw [← nodPlace_num hp]; exact num_small hn (nodPlace_lt hp)
 unfold Clu.arrive
 rw [tell_no hd,takes_nod hp hu]
 unfold Clu.send
 simp only
 rw [(setNod_rest c j _).1]
 rfl
theorem acks_len (r : Rep) (own : Int) : (r.acks own).length ≤ 1 := by
 unfold Rep.acks
 split <;> simp
theorem put_len (r : Rep) (own : Int) (e : Ent) (h : r.log.length ≤ 24) : (r.put own e).2.length ≤ 50 := by
 unfold Rep.put
 split
 ·simp
 ·unfold Rep.commitAll
  rw [List.length_append,List.length_map]
  have := acks_len { r with log := r.log ++ [e],commit := (r.log ++ [e]).length } own
  simp only [placesFrom,List.length_map,List.length_range,List.length_append,List.length_cons,List.length_nil] at *
  omega
theorem take_len (r : Rep) (own : Int) (m : Msg) (h : r.log.length ≤ 24) : (r.take own m).2.length ≤ 50 := by
 have ha := acks_len r own
 unfold Rep.take
 split
 ·split
  ·unfold Rep.asked
   split
   ·simp
   ·split
    ·split <;> simp
    ·split
     ·simp
     ·exact put_len r own _ h
  ·simp
 ·split
  ·unfold Rep.takeForward
   split
   ·split
    ·exact put_len r own _ h
    ·split
     ·show (r.acks own).length ≤ 50; omega
     ·simp
   ·simp
  ·split
   ·unfold Rep.takeAck
    split
    ·have := acks_len { r with commit := m.pos.toNat } own
     show (Rep.acks { r with commit := m.pos.toNat } own).length ≤ 50
     omega
    ·simp
   ·split
    ·unfold Rep.takeSeal
     split <;> simp
    ·split
     ·unfold Rep.takeInstall
      simp
     ·simp
theorem accTake_len (a : Acc) (m : Msg) : (a.take m).2.length ≤ 1 := by
 unfold Acc.take
 split
 ·simp
 ·split
  ·split <;> simp
  ·split
   ·split <;> simp
   ·split <;> simp
theorem asks_len (s : Mas) (own : Int) : (s.asks own).length ≤ s.all.length := by
 unfold Mas.asks
 rw [List.length_map]
 exact List.length_filter_le _ _
theorem nodTake_len {n : Nat} {E own : Int} {y : Nod} {m : Msg} (h : NodOK n E own y) (hw : ∀ s,y = .mas s → ∃ E',MasWF n E' (s.take m).1) : (y.take own m).2.length ≤ 100 := by
 cases y with
 | rep r =>
  have := take_len r own m (h.rep r rfl).log.1
  show (r.take own m).2.length ≤ 100
  omega
 | acc a =>
  have := accTake_len a m
  show (a.take m).2.length ≤ 100
  omega
 | mas s =>
  obtain ⟨E',h1⟩ := hw s rfl
  have h2 := all_len h1 h.n5
  show (s.take m).2.length ≤ 100
  have key : (s.take m).2 = [] ∨ ∃ o,(s.take m).2 = (s.take m).1.asks o := by
   have hon : ∀ s : Mas, ∀ o,(s.onward o).2 = (s.onward o).1.asks o := fun _ _ => rfl
   unfold Mas.take
   split
   ·split
    ·split
     ·exact .inl rfl
     ·exact .inr ⟨_,hon _ _⟩
    ·exact .inr ⟨_,hon _ _⟩
    ·split
     ·exact .inl rfl
     ·split
      ·exact .inr ⟨_,hon _ _⟩
      ·exact .inr ⟨_,hon _ _⟩
    ·split
     ·exact .inl rfl
     ·exact .inr ⟨_,hon _ _⟩
    ·split
     ·exact .inl rfl
     ·exact .inr ⟨_,hon _ _⟩
   ·exact .inl rfl
  rcases key with e | ⟨o,e⟩
  ·rw [e]; simp
  ·rw [e]
   have := asks_len (s.take m).1 o
   omega
theorem nodTake_up (y : Nod) (own : Int) (m : Msg) : (y.take own m).1.up = y.up := by
 cases y with
 | rep r => exact take_up r own m
 | acc a =>
  show (a.take m).1.up = a.up
  unfold Acc.take
  split
  ·rfl
  ·split
   ·split <;> rfl
   ·split
    ·split <;> rfl
    ·split
     ·simp only
      split <;> rfl
     ·rfl
 | mas s => exact masTake_up s m
set_option maxRecDepth 100000 in
theorem isClient_any (n : Int) (w : World) : Calls Tryz.prog 151 #[.int .i64 n] w fun e w' => e = .returned (.bool (decide (300 ≤ n ∧ n ≤ 303))) ∧ w' = w := by
 by_cases h0 : 300 ≤ n
 ·have H : Hid (decide (300 ≤ n ∧ n ≤ 303) = decide (n ≤ 303)) := hideA (by simp [h0])
  generalize decide (300 ≤ n ∧ n ≤ 303) = dd at *
  go_enter Tryz.func151,Tryz.ntmps151
  go_wp2_with fail
  go_ret
  exact ⟨by rw [H.out]; first | rfl | simp,rfl⟩
 ·have H : Hid (decide (300 ≤ n ∧ n ≤ 303) = false) := hideA (by simp [h0])
  generalize decide (300 ≤ n ∧ n ≤ 303) = dd at *
  go_enter Tryz.func151,Tryz.ntmps151
  go_wp2_with fail
  go_ret
  exact ⟨by rw [H.out]; first | rfl | simp,rfl⟩
theorem CluIn.toldTo {w w' : World} {F : Nat → Prop} {x gs cap : Nat} {c : Clu} {b : Nat → Nat} {Fn : Nat → Nat → Prop} {vr va vm vb vt : Value} (h : CluIn w F x gs cap c b Fn vr va vm vb vt) (l : List Ans) (vt' : Value)
  (hblk : w'.heap[x]? = some (.cells #[.slice (some ⟨gs,0,none⟩) (c.reps.length + 5) cap,vr,va,vm,vb,vt'] 93)) (hrow : w'.ownsRow 0 113 3 vt' l.length (ints (ansNums l))) (hM : Moved w w' (fun k => k = x ∨ vt.ownBlock = some k)) (hg : Grows w vt vt') :
  CAfter w F x { c with told := l } w' := by
 have hS : ∀ k,(k = x ∨ vt.ownBlock = some k) → F k := by
  rintro k (e | e)
  ·exact h.inO k (.inl e)
  ·exact h.inO k (.inr (.inr (.inr (.inr (.inr (.inr e))))))
 have hrow2 : ∀ {base size n : Nat} {e : TypeId} {v : Value} {xs : List Value},w.ownsRow base e size v n xs → e ≠ 113 → e ≠ 93 → w'.ownsRow base e size v n xs := by
  intro base size n e v xs hv h1 h2
  refine hM.owns hv fun k hk hS => ?_
  rcases hS with e1 | e1
  ·exact blk_type h.bag.blk hv h2 (e1 ▸ hk)
  ·exact owns_two hv h.rt h1 k hk e1
 have hgs : w'.heap[gs]? = w.heap[gs]? := by
  refine hM.block gs (h.lt gs (h.inO gs (.inr (.inl rfl)))) ?_
  rintro (e | e)
  ·exact h.apart.1 e.symm
  ·exact h.apart.2 h.rt (by decide) e
 have hnw : ∀ k,vt'.ownBlock = some k → F k ∨ w.heap.size ≤ k := fun k e => (hg k e).imp (fun e2 => hS k (.inr e2)) id
 refine ⟨fun k => F k ∨ vt'.ownBlock = some k,⟨gs,cap,b,Fn,vr,va,vm,vb,vt',⟨⟨hblk,hrow2 h.bag.row (by decide) (by decide)⟩,h.sta.keep hgs,h.hcap,hrow2 h.rr (by decide) (by decide),hrow2 h.ra (by decide) (by decide),hrow2 h.rm (by decide) (by decide),hrow, ?_,h.sep, ?_, ?_,fun j hj k hk => .inl (h.inN j hj k hk), ?_,h.n1,h.n5,h.a3,h.m2⟩⟩,hM.wider hS, ?_⟩
 ·intro j hj
  refine (h.nod j hj).keep fun k hk => hM.block k (h.lt k (h.inN j hj k hk)) ?_
  rintro (e | e)
  ·exact h.off j hj k hk (.inl e)
  ·exact h.off j hj k hk (.inr (.inr (.inr (.inr (.inr (.inr e))))))
 ·intro j hj k hk hO
  rcases hO with e | e | e | e | e | e | e
  ·exact h.off j hj k hk (.inl e)
  ·exact h.off j hj k hk (.inr (.inl e))
  ·exact h.off j hj k hk (.inr (.inr (.inl e)))
  ·exact h.off j hj k hk (.inr (.inr (.inr (.inl e))))
  ·exact h.off j hj k hk (.inr (.inr (.inr (.inr (.inl e)))))
  ·exact h.off j hj k hk (.inr (.inr (.inr (.inr (.inr (.inl e))))))
  ·rcases hg k e with e2 | e2
   ·exact h.off j hj k hk (.inr (.inr (.inr (.inr (.inr (.inr e2))))))
   ·have := h.lt k (h.inN j hj k hk); omega
 ·intro k hO
  rcases hO with e | e | e | e | e | e | e
  ·exact .inl (h.inO k (.inl e))
  ·exact .inl (h.inO k (.inr (.inl e)))
  ·exact .inl (h.inO k (.inr (.inr (.inl e))))
  ·exact .inl (h.inO k (.inr (.inr (.inr (.inl e)))))
  ·exact .inl (h.inO k (.inr (.inr (.inr (.inr (.inl e))))))
  ·exact .inl (h.inO k (.inr (.inr (.inr (.inr (.inr (.inl e)))))))
  ·exact .inr e
 ·rintro k (e | e)
  ·have := h.lt k e
   have := hM.size
   omega
  ·obtain ⟨_,h6,_⟩ := ownBlock_cells hrow e
   exact (Array.getElem?_eq_some_iff.1 h6).1
 ·rintro k (e | e)
  ·exact .inl e
  ·exact hnw k e
theorem ptrs_at (b : Nat → Nat) (from_ m k : Nat) (h : k < m) : (ptrs b from_ m)[k]? = some (.pointer (some ⟨b (from_ + k),0,none⟩)) := by
 unfold ptrs
 rw [List.getElem?_map,List.getElem?_range h]
 rfl
set_option maxRecDepth 100000 in
theorem pickRep_any (v : Value) (b : Nat → Nat) (s n : Nat) (f d : Int) (w : World) (h : w.ownsRow 0 129 1 v n (ptrs b s n)) (hn : n ≤ 100) (hf : 0 ≤ f ∧ f ≤ 1000) :
  Calls Tryz.prog 59 #[v, .int .i64 f, .int .i64 d] w fun e w' => e = .returned (if f ≤ d ∧ d < f + n then .tuple #[.pointer (some ⟨b (s + (d - f).toNat),0,none⟩), .bool true] else .tuple #[.pointer none, .bool false]) ∧ w' = w := by
 obtain ⟨a,c,rfl⟩ := owns_shape h
 have hw1 : IntKind.i64.wrap (f + (n : Int)) = f + (n : Int) := by rw [IntKind.wrap_i64]; omega
 by_cases h1 : d < f
 ·have H : Hid ((if f ≤ d ∧ d < f + n then Value.tuple #[.pointer (some ⟨b (s + (d - f).toNat),0,none⟩), .bool true] else .tuple #[.pointer none, .bool false]) = .tuple #[.pointer none, .bool false]) := hideA (if_neg (by omega))
  rw [H.out]
  clear h
  go_enter Tryz.func59,Tryz.ntmps59
  go_wp2_with fail
  go_ret2
  exact ⟨rfl,rfl⟩
 ·by_cases h2 : f + (n : Int) ≤ d
  ·have H : Hid ((if f ≤ d ∧ d < f + n then Value.tuple #[.pointer (some ⟨b (s + (d - f).toNat),0,none⟩), .bool true] else .tuple #[.pointer none, .bool false]) = .tuple #[.pointer none, .bool false]) := hideA (if_neg (by omega))
   rw [H.out]
   clear h
   go_enter Tryz.func59,Tryz.ntmps59
   go_wp2_with fail
   go_ret2
   exact ⟨rfl,rfl⟩
  ·have H : Hid ((if f ≤ d ∧ d < f + n then Value.tuple #[.pointer (some ⟨b (s + (d - f).toNat),0,none⟩), .bool true] else .tuple #[.pointer none, .bool false]) = .tuple #[.pointer (some ⟨b (s + (d - f).toNat),0,none⟩), .bool true]) := hideA (if_pos (by omega))
   rw [H.out]
   have hw2 : IntKind.i64.wrap (d - f) = ((d - f).toNat : Int) := by rw [IntKind.wrap_i64]; omega
   have hkl : (d - f).toNat < n := by omega
   obtain ⟨g,cap,hv, -, -⟩ := h.form (by omega)
   cases hv
   have ck : w.cell? ⟨g,(d - f).toNat,none⟩ = some (.pointer (some ⟨b (s + (d - f).toNat),0,none⟩)) := by
    rw [World.ownsRow.cellAt h (d - f).toNat (by omega)]
    exact ptrs_at b s n _ hkl
   clear h
   generalize (d - f).toNat = k at *
   have hk0 : (0 : Int) ≤ (k : Int) := by omega
   have hk1 : (k : Int) < (n : Int) := by omega
   go_enter Tryz.func59,Tryz.ntmps59
   go_wp2_with fail
   go_ret2
   exact ⟨rfl,rfl⟩
set_option maxRecDepth 100000 in
theorem pickAcc_any (v : Value) (b : Nat → Nat) (s n : Nat) (f d : Int) (w : World) (h : w.ownsRow 0 99 1 v n (ptrs b s n)) (hn : n ≤ 100) (hf : 0 ≤ f ∧ f ≤ 1000) :
  Calls Tryz.prog 38 #[v, .int .i64 f, .int .i64 d] w fun e w' => e = .returned (if f ≤ d ∧ d < f + n then .tuple #[.pointer (some ⟨b (s + (d - f).toNat),0,none⟩), .bool true] else .tuple #[.pointer none, .bool false]) ∧ w' = w := by
 obtain ⟨a,c,rfl⟩ := owns_shape h
 have hw1 : IntKind.i64.wrap (f + (n : Int)) = f + (n : Int) := by rw [IntKind.wrap_i64]; omega
 by_cases h1 : d < f
 ·have H : Hid ((if f ≤ d ∧ d < f + n then Value.tuple #[.pointer (some ⟨b (s + (d - f).toNat),0,none⟩), .bool true] else .tuple #[.pointer none, .bool false]) = .tuple #[.pointer none, .bool false]) := hideA (if_neg (by omega))
  rw [H.out]
  clear h
  go_enter Tryz.func38,Tryz.ntmps38
  go_wp2_with fail
  go_ret2
  exact ⟨rfl,rfl⟩
 ·by_cases h2 : f + (n : Int) ≤ d
  ·have H : Hid ((if f ≤ d ∧ d < f + n then Value.tuple #[.pointer (some ⟨b (s + (d - f).toNat),0,none⟩), .bool true] else .tuple #[.pointer none, .bool false]) = .tuple #[.pointer none, .bool false]) := hideA (if_neg (by omega))
   rw [H.out]
   clear h
   go_enter Tryz.func38,Tryz.ntmps38
   go_wp2_with fail
   go_ret2
   exact ⟨rfl,rfl⟩
  ·have H : Hid ((if f ≤ d ∧ d < f + n then Value.tuple #[.pointer (some ⟨b (s + (d - f).toNat),0,none⟩), .bool true] else .tuple #[.pointer none, .bool false]) = .tuple #[.pointer (some ⟨b (s + (d - f).toNat),0,none⟩), .bool true]) := hideA (if_pos (by omega))
   rw [H.out]
   have hw2 : IntKind.i64.wrap (d - f) = ((d - f).toNat : Int) := by rw [IntKind.wrap_i64]; omega
   have hkl : (d - f).toNat < n := by omega
   obtain ⟨g,cap,hv, -, -⟩ := h.form (by omega)
   cases hv
   have ck : w.cell? ⟨g,(d - f).toNat,none⟩ = some (.pointer (some ⟨b (s + (d - f).toNat),0,none⟩)) := by
    rw [World.ownsRow.cellAt h (d - f).toNat (by omega)]
    exact ptrs_at b s n _ hkl
   clear h
   generalize (d - f).toNat = k at *
   have hk0 : (0 : Int) ≤ (k : Int) := by omega
   have hk1 : (k : Int) < (n : Int) := by omega
   go_enter Tryz.func38,Tryz.ntmps38
   go_wp2_with fail
   go_ret2
   exact ⟨rfl,rfl⟩
set_option maxRecDepth 100000 in
theorem pickMas_any (v : Value) (b : Nat → Nat) (s n : Nat) (f d : Int) (w : World) (h : w.ownsRow 0 81 1 v n (ptrs b s n)) (hn : n ≤ 100) (hf : 0 ≤ f ∧ f ≤ 1000) :
  Calls Tryz.prog 32 #[v, .int .i64 f, .int .i64 d] w fun e w' => e = .returned (if f ≤ d ∧ d < f + n then .tuple #[.pointer (some ⟨b (s + (d - f).toNat),0,none⟩), .bool true] else .tuple #[.pointer none, .bool false]) ∧ w' = w := by
 obtain ⟨a,c,rfl⟩ := owns_shape h
 have hw1 : IntKind.i64.wrap (f + (n : Int)) = f + (n : Int) := by rw [IntKind.wrap_i64]; omega
 by_cases h1 : d < f
 ·have H : Hid ((if f ≤ d ∧ d < f + n then Value.tuple #[.pointer (some ⟨b (s + (d - f).toNat),0,none⟩), .bool true] else .tuple #[.pointer none, .bool false]) = .tuple #[.pointer none, .bool false]) := hideA (if_neg (by omega))
  rw [H.out]
  clear h
  go_enter Tryz.func32,Tryz.ntmps32
  go_wp2_with fail
  go_ret2
  exact ⟨rfl,rfl⟩
 ·by_cases h2 : f + (n : Int) ≤ d
  ·have H : Hid ((if f ≤ d ∧ d < f + n then Value.tuple #[.pointer (some ⟨b (s + (d - f).toNat),0,none⟩), .bool true] else .tuple #[.pointer none, .bool false]) = .tuple #[.pointer none, .bool false]) := hideA (if_neg (by omega))
   rw [H.out]
   clear h
   go_enter Tryz.func32,Tryz.ntmps32
   go_wp2_with fail
   go_ret2
   exact ⟨rfl,rfl⟩
  ·have H : Hid ((if f ≤ d ∧ d < f + n then Value.tuple #[.pointer (some ⟨b (s + (d - f).toNat),0,none⟩), .bool true] else .tuple #[.pointer none, .bool false]) = .tuple #[.pointer (some ⟨b (s + (d - f).toNat),0,none⟩), .bool true]) := hideA (if_pos (by omega))
   rw [H.out]
   have hw2 : IntKind.i64.wrap (d - f) = ((d - f).toNat : Int) := by rw [IntKind.wrap_i64]; omega
   have hkl : (d - f).toNat < n := by omega
   obtain ⟨g,cap,hv, -, -⟩ := h.form (by omega)
   cases hv
   have ck : w.cell? ⟨g,(d - f).toNat,none⟩ = some (.pointer (some ⟨b (s + (d - f).toNat),0,none⟩)) := by
    rw [World.ownsRow.cellAt h (d - f).toNat (by omega)]
    exact ptrs_at b s n _ hkl
   clear h
   generalize (d - f).toNat = k at *
   have hk0 : (0 : Int) ≤ (k : Int) := by omega
   have hk1 : (k : Int) < (n : Int) := by omega
   go_enter Tryz.func32,Tryz.ntmps32
   go_wp2_with fail
   go_ret2
   exact ⟨rfl,rfl⟩
set_option maxRecDepth 100000 in
set_option maxHeartbeats 2000000 in
theorem cluAsk_any {w : World} {F : Nat → Prop} {xx : Nat} {c : Clu} {E : Int} {g : Gh} (d : Int) (x : Ent) (h : CAt w F xx c) (hg : Good c E g) :
  Calls Tryz.prog 28 #[.pointer (some ⟨xx,0,none⟩), .int .i64 d, .agg #[.int .i64 x.client, .int .i64 x.seq, .int .i64 x.kind, .int .i64 x.key, .int .i64 x.value]] w fun r w' => r = .returned (.int .i64 (c.ask d x).2) ∧ CAfter w F xx (c.ask d x).1 w' := by
 have HA := hideA h
 obtain ⟨gs,cap,b,Fn,vr,va,vm,vb,vt,h⟩ := h
 obtain ⟨ar,cr,hvr⟩ := owns_shape h.rr
 subst hvr
 have HI := hideA h
 have hxl : xx < w.heap.size := h.lt xx (h.inO xx (.inl rfl))
 have hx1 : ¬ xx = w.heap.size := by omega
 have hx2 : ¬ w.heap.size = xx := by omega
 have HP : Hid (∀ W,Below w.heap.size w W → Calls Tryz.prog 59 #[.slice ar c.reps.length cr, .int .i64 0, .int .i64 d] W fun e w' => e = .returned (if 0 ≤ d ∧ d < 0 + (c.reps.length : Int) then .tuple #[.pointer (some ⟨b (0 + (d - 0).toNat),0,none⟩), .bool true] else .tuple #[.pointer none, .bool false]) ∧ w' = W) := hideA fun W hb => pickRep_any _ b 0 c.reps.length 0 d W (h.below hb).rr (by have := h.n5; omega) (by omega)
 have HE := fun W => hideA (isEntry_any x W)
 clear h
 obtain ⟨X,hX,hbX,hM⟩ := ent_box w x
 have c1 := cell_of_heap (HI.out.below hbX).bag.blk 1
 have gM := fun j => cell_of_heap hM j
 have HM := hideA hM
 clear hM
 by_cases hr : c.isRep d
 ·have e0 : (if 0 ≤ d ∧ d < 0 + (c.reps.length : Int) then Value.tuple #[.pointer (some ⟨b (0 + (d - 0).toNat),0,none⟩), .bool true] else .tuple #[.pointer none, .bool false]) = .tuple #[.pointer (some ⟨b (0 + (d - 0).toNat),0,none⟩), .bool true] := if_pos (by have := hr.1; have := hr.2; omega)
  rw [e0] at HP
  clear e0
  cases hok : x.ok with
  | false =>
   have H : Hid (c.ask d x = (c,6)) := hideA (by unfold Clu.ask; rw [if_neg (by simpa using hr),if_pos hok])
   rw [hok] at HE
   go_enter Tryz.func28,Tryz.ntmps28
   go_upto_region 1 with fail
   go_wp2_with fail
   refine (HP.out X hbX).mono ?_
   rintro e W ⟨rfl,rfl⟩
   go_wp2_with fail
   refine (HE _).out.mono ?_
   rintro e W2 ⟨rfl,hb2⟩
   clear gM c1
   go_wp2_with fail
   go_ret
   rw [H.out]
   exact ⟨rfl,CAfter.still HA.out (hbX.trans (hb2.mono hbX.size))⟩
  | true =>
   have H : Hid (c.ask d x = ({ c with bag := puts c.bag [{ kind := 1,src := 300 + x.client,dst := d,log := [x] }] },0)) := hideA (by unfold Clu.ask; rw [if_neg (by simpa using hr),if_neg (by rw [hok]; simp)]; rfl)
   rw [hok] at HE
   have hcl := ok_client hok
   have hwr : IntKind.i64.wrap (300 + x.client) = 300 + x.client := by rw [IntKind.wrap_i64]; omega
   have HS : Hid (∀ Y,Below w.heap.size w Y → Y.heap[w.heap.size]? = some (.cells #[.int .i64 x.client, .int .i64 x.seq, .int .i64 x.kind, .int .i64 x.key, .int .i64 x.value] 42) → Calls Tryz.prog 36 #[.pointer (some ⟨xx,4,none⟩), .slice (some ⟨Y.heap.size + 1,0,none⟩) 1 1] (((Y.alloc (.cells #[.int .i64 x.client, .int .i64 x.seq, .int .i64 x.kind, .int .i64 x.key, .int .i64 x.value] 42)).alloc (.cells #[.int .i64 1, .int .i64 (300 + x.client), .int .i64 d, .int .i64 0, .int .i64 0, .int .i64 0, .int .i64 0, .int .i64 0, .slice none 0 0, .slice (some ⟨Y.heap.size,0,none⟩) 1 1] 134)).drew) fun e w' => (∃ v,e = .returned v) ∧ CAfter w F xx { c with bag := puts c.bag [{ kind := 1,src := 300 + x.client,dst := d,log := [x] }] } w' ∧ w'.heap[w.heap.size]? = some (.cells #[.int .i64 x.client, .int .i64 x.seq, .int .i64 x.kind, .int .i64 x.key, .int .i64 x.value] 42)) := hideA fun Y hbY hbx => by
    have hbT := (((hbY.alloc hbY.size (.cells #[.int .i64 x.client, .int .i64 x.seq, .int .i64 x.kind, .int .i64 x.key, .int .i64 x.value] 42)).alloc (by have := hbY.size; simp; omega) (.cells #[.int .i64 1, .int .i64 (300 + x.client), .int .i64 d, .int .i64 0, .int .i64 0, .int .i64 0, .int .i64 0, .int .i64 0, .slice none 0 0, .slice (some ⟨Y.heap.size,0,none⟩) 1 1] 134))).drew
    have hlg : LogOwn (((Y.alloc (.cells #[.int .i64 x.client, .int .i64 x.seq, .int .i64 x.kind, .int .i64 x.key, .int .i64 x.value] 42)).alloc (.cells #[.int .i64 1, .int .i64 (300 + x.client), .int .i64 d, .int .i64 0, .int .i64 0, .int .i64 0, .int .i64 0, .int .i64 0, .slice none 0 0, .slice (some ⟨Y.heap.size,0,none⟩) 1 1] 134)).drew) (.slice (some ⟨Y.heap.size,0,none⟩) 1 1) [x] := by
     refine ⟨rfl, .inr ⟨Y.heap.size,1, #[.int .i64 x.client, .int .i64 x.seq, .int .i64 x.kind, .int .i64 x.key, .int .i64 x.value],rfl,Nat.zero_le _, ?_,Nat.le_refl _,by decide,rfl,rfl⟩⟩
     exact (Below.heap_alloc _ _ _ (by simp)).trans (heap_new _ _)
    have hms : MsgsOwn _ 0 (.slice (some ⟨Y.heap.size + 1,0,none⟩) 1 1) [{ kind := 1,src := 300 + x.client,dst := d,log := [x] }] := MsgsOwn.one { kind := 1,src := 300 + x.client,dst := d,log := [x] } (.slice none 0 0) (.slice (some ⟨Y.heap.size,0,none⟩) 1 1) (heap_new2 _ _ _) (Nat.zero_le _) (World.ownsRow_nil _ _ _ _) hlg
    have hsent : ∀ m ∈ [({ kind := 1,src := 300 + x.client,dst := d,log := [x] } : Msg)],m.ok = true := by
     intro m hm
     rw [List.mem_singleton] at hm
     subst hm
     obtain ⟨d0,d1,_⟩ := rep_dst hg.nodes hr
     have hwf : MsgWF c.reps.length E { kind := 1,src := 300 + x.client,dst := d,log := [x] } := request_wf hok hg.nodes.E0 (by omega) ⟨d0,d1⟩
     exact hwf.ok hg.nodes.n5 hg.nodes.E2000
    refine (bagSend_any xx _ _ va vm vb vt c.bag 0 _ _ _ (HI.out.below hbT).bag hg.bag hms hsent (by simp)).mono ?_
    rintro e w' ⟨h1,hB⟩
    refine ⟨h1,CAfter.trans ((Moved.refl w F).below hbT) (fun _ e => .inl e) ((HI.out.below hbT).bagAfter _ hB), ?_⟩
    have hbq : (((Y.alloc (.cells #[.int .i64 x.client, .int .i64 x.seq, .int .i64 x.kind, .int .i64 x.key, .int .i64 x.value] 42)).alloc (.cells #[.int .i64 1, .int .i64 (300 + x.client), .int .i64 d, .int .i64 0, .int .i64 0, .int .i64 0, .int .i64 0, .int .i64 0, .slice none 0 0, .slice (some ⟨Y.heap.size,0,none⟩) 1 1] 134)).drew).heap[w.heap.size]? = some (.cells #[.int .i64 x.client, .int .i64 x.seq, .int .i64 x.kind, .int .i64 x.key, .int .i64 x.value] 42) := by
     have hlt := (Array.getElem?_eq_some_iff.1 hbx).1
     exact ((((Below.refl Y.heap.size Y).alloc (Nat.le_refl _) _).alloc (by simp) _).block _ hlt).trans hbx
    obtain ⟨vb',_,hMv,_⟩ := hB
    refine (hMv.block _ (Array.getElem?_eq_some_iff.1 hbq).1 ?_).trans hbq
    rintro (e | e)
    ·exact hx2 e
    ·exact blk_type hbq (HI.out.below hbT).bag.row (by decide) e
   go_enter Tryz.func28,Tryz.ntmps28
   go_upto_region 1 with fail
   go_wp2_with fail
   refine (HP.out X hbX).mono ?_
   rintro e W ⟨rfl,rfl⟩
   go_wp2_with fail
   refine (HE _).out.mono ?_
   rintro e Y ⟨rfl,hb2⟩
   have hbY := hbX.trans (hb2.mono hbX.size)
   have hMY := (hb2.block _ (Array.getElem?_eq_some_iff.1 HM.out).1).trans HM.out
   clear gM c1
   have g0 := cell_of_heap hMY 0
   have g1 := cell_of_heap hMY 1
   have g2 := cell_of_heap hMY 2
   have g3 := cell_of_heap hMY 3
   have g4 := cell_of_heap hMY 4
   have HMY := hideA hMY
   clear hMY
   go_wp2_with fail
   go_region_held3 (fun w' => w'.cell? ⟨w.heap.size,0,none⟩ = some (.int .i64 x.client) ∧ w'.cell? ⟨w.heap.size,1,none⟩ = some (.int .i64 x.seq) ∧ w'.cell? ⟨w.heap.size,2,none⟩ = some (.int .i64 x.kind) ∧ w'.cell? ⟨w.heap.size,3,none⟩ = some (.int .i64 x.key) ∧ w'.cell? ⟨w.heap.size,4,none⟩ = some (.int .i64 x.value)) (first | (refine ⟨?_, ?_, ?_, ?_, ?_⟩ <;> first | assumption | (simp [go_sem, *]; done)) | (simp [go_sem]; done) | go_keep)
    (first | (go_at_call 36; refine (HS.out Y hbY HMY.out).mono ?_; rintro e Z ⟨⟨v9,rfl⟩,hC,hz⟩; have HCf := hideA hC; have z0 := cell_of_heap hz 0; have z1 := cell_of_heap hz 1; have z2 := cell_of_heap hz 2; have z3 := cell_of_heap hz 3; have z4 := cell_of_heap hz 4; clear hC hz))
   all_goals (
    go_wp2_with fail
    go_ret
    rw [H.out]
    exact ⟨rfl,HCf.out⟩)
 ·have e0 : (if 0 ≤ d ∧ d < 0 + (c.reps.length : Int) then Value.tuple #[.pointer (some ⟨b (0 + (d - 0).toNat),0,none⟩), .bool true] else .tuple #[.pointer none, .bool false]) = .tuple #[.pointer none, .bool false] := if_neg (fun e => hr ⟨e.1,by omega⟩)
  rw [e0] at HP
  have H : Hid (c.ask d x = (c,4)) := hideA (by unfold Clu.ask; rw [if_pos hr])
  clear e0
  go_enter Tryz.func28,Tryz.ntmps28
  go_upto_region 1 with fail
  go_wp2_with fail
  refine (HP.out X hbX).mono ?_
  rintro e W ⟨rfl,rfl⟩
  clear gM c1
  go_wp2_with fail
  go_ret
  rw [H.out]
  exact ⟨rfl,CAfter.still HA.out hbX⟩
end Go.Proofs.YtgieeeeeiggoeaaGreat
