import Derived.Test.YtgieeeeeiggoeaaGreatQ34
import Derived.Test.YtgieeeeeiggoeaaGreatQ14
import Derived.Test.YtgieeeeeiggoeaaGreatQ38
import Derived.Test.YtgieeeeeiggoeaaGreatQ20
namespace Go.Proofs.YtgieeeeeiggoeaaGreat
open Go.RowKit Go.Shelf
def NodAt (w : World) (F : Nat → Prop) (b : Nat) (own : Int) : Nod → Prop
 | .rep r => (∃ vm vl,RepAt w b own r vm vl ∧ (∀ k,RepS b vm vl k → F k) ∧ ∀ k,F k → k < w.heap.size) ∧ (r.up = false → r.commit = r.base)
 | .acc a => AccAt w F b own a
 | .mas s => (∃ p,MRel own s p ∧ MasAt w F b own p) ∧ (s.up = false → s.does = 0)
structure NodOK (n : Nat) (E : Int) (own : Int) (x : Nod) : Prop where
 n5 : n ≤ 5
 E0 : 0 ≤ E ∧ E ≤ 2000
 rep : ∀ r,x = .rep r → RepWF n E r
 acc : ∀ a,x = .acc a → AccWF n E a
 mas : ∀ s,x = .mas s → MasWF n E s ∧ 200 ≤ own ∧ own ≤ 201
theorem RepAt.keep {w w' : World} {b : Nat} {own : Int} {r : Rep} {vm vl : Value} (h : RepAt w b own r vm vl) (hk : ∀ k,RepS b vm vl k → w'.heap[k]? = w.heap[k]?) : RepAt w' b own r vm vl :=
 ⟨(hk b (.inl rfl)).trans h.blk,owns_only h.hm fun k e => hk k (.inr (.inl e)),owns_only h.hl fun k e => hk k (.inr (.inr e))⟩
theorem lt_of_keep {w w' : World} {k : Nat} (h : k < w.heap.size) (hk : w'.heap[k]? = w.heap[k]?) : k < w'.heap.size := by
 rw [Array.getElem?_eq_getElem h] at hk
 exact (Array.getElem?_eq_some_iff.1 hk).1
theorem NodAt.keep {w w' : World} {F : Nat → Prop} {b : Nat} {own : Int} {x : Nod} (h : NodAt w F b own x) (hk : ∀ k,F k → w'.heap[k]? = w.heap[k]?) : NodAt w' F b own x := by
 cases x with
 | rep r =>
  obtain ⟨⟨vm,vl,h1,h2,h3⟩,h4⟩ := h
  exact ⟨⟨vm,vl,h1.keep fun k e => hk k (h2 k e),h2,fun k e => lt_of_keep (h3 k e) (hk k e)⟩,h4⟩
 | acc a =>
  obtain ⟨vm,g,l,h⟩ := h
  exact ⟨vm,g,l,h.keep hk⟩
 | mas s =>
  obtain ⟨⟨p,h1,vw,vo,vm,vl,h2⟩,h3⟩ := h
  exact ⟨⟨p,h1,vw,vo,vm,vl,h2.keep hk⟩,h3⟩
theorem NodAt.lt {w : World} {F : Nat → Prop} {b : Nat} {own : Int} {x : Nod} (h : NodAt w F b own x) {k : Nat} (hk : F k) : k < w.heap.size := by
 cases x with
 | rep r =>
  obtain ⟨⟨vm,vl,h1,h2,h3⟩,h4⟩ := h
  exact h3 k hk
 | acc a =>
  obtain ⟨vm,g,l,h⟩ := h
  exact h.lt k hk
 | mas s =>
  obtain ⟨⟨p,h1,vw,vo,vm,vl,h2⟩,h3⟩ := h
  exact h2.lt k hk
def NodOut (w w' : World) (F : Nat → Prop) (b : Nat) (own : Int) (e : Ending) (q : Nod × List Msg) : Prop :=
 ∃ v F',e = .returned v ∧ NodAt w' F' b own q.1 ∧ Moved w w' F ∧ (∀ k,F' k → F k ∨ w.heap.size ≤ k) ∧ MsgsOwn w' w.heap.size v q.2
def NodTo (w w' : World) (F : Nat → Prop) (b : Nat) (own : Int) (x : Nod) : Prop :=
 ∃ F',NodAt w' F' b own x ∧ Moved w w' F ∧ (∀ k,F' k → F k ∨ w.heap.size ≤ k)
theorem Moved.wider {w w' : World} {S F : Nat → Prop} (h : Moved w w' S) (hS : ∀ k,S k → F k) : Moved w w' F := ⟨h.os,h.tape,h.output,h.size,fun k hk hF => h.block k hk (fun e => hF (hS k e))⟩
theorem repTo_nod {w w' : World} {F : Nat → Prop} {b : Nat} {own : Int} {vm vl : Value} {r' : Rep} (hF : ∀ k,RepS b vm vl k → F k) (h : RepTo w w' b own vm vl r') (hd : r'.up = false → r'.commit = r'.base) : NodTo w w' F b own (.rep r') := by
 obtain ⟨vm',vl',h1,h2,h3,h4⟩ := h
 have key : ∀ {base size n : Nat} {e : TypeId} {v : Value} {xs : List Value},w'.ownsRow base e size v n xs → ∀ k,v.ownBlock = some k → k < w'.heap.size := by
  intro base size n e v xs hr k hk
  obtain ⟨_,h6,_⟩ := ownBlock_cells hr hk
  exact (Array.getElem?_eq_some_iff.1 h6).1
 refine ⟨fun k => RepS b vm' vl' k,⟨⟨vm',vl',h1,fun k e => e,fun k e => ?_⟩,hd⟩,h2.wider hF,fun k e => ?_⟩
 ·rcases e with rfl | e | e
  ·exact (Array.getElem?_eq_some_iff.1 h1.blk).1
  ·exact key h1.hm k e
  ·exact key h1.hl k e
 ·rcases e with rfl | e | e
  ·exact .inl (hF _ (.inl rfl))
  ·rcases h3 k e with h5 | h5
   ·exact .inl (hF _ (.inr (.inl h5)))
   ·exact .inr h5
  ·rcases h4 k e with h5 | h5
   ·exact .inl (hF _ (.inr (.inr h5)))
   ·exact .inr h5
theorem RepWF.ok {n : Nat} {E : Int} {r : Rep} (h : RepWF n E r) (hn : n ≤ 5) : RepOK r := ⟨by have := memsOk_length h.mems; omega,h.log.1,h.commit⟩
theorem AccWF.ok {n : Nat} {E : Int} {a : Acc} (h : AccWF n E a) (hn : n ≤ 5) : AccOK a := by
 refine ⟨by have := memsOk_length h.mems; omega,fun e => ⟨?_,(h.votes e).log.1⟩⟩
 rcases (h.votes e).mems with e1 | e1
 ·simp [e1]
 ·have := memsOk_length e1; omega
theorem MRel.ok {own : Int} {n : Nat} {E : Int} {s : Mas} {p : PMas} (h : MRel own s p) (hw : MasWF n E s) (hn : n ≤ 5) (ho : 200 ≤ own ∧ own ≤ 201) : MasOK p own := by
 refine ⟨?_,h.old5,h.mems5,h.log24,by rw [h.begun]; exact hw.begun,by rw [h.doing]; have := hw.does; omega,ho⟩
 have := h.count
 have := all_len hw hn
 omega
theorem MsgWF.mems5 {n : Nat} {E : Int} {m : Msg} (h : MsgWF n E m) (hn : n ≤ 5) : m.mems.length ≤ 5 := by
 rcases h.mems with e | e
 ·simp [e]
 ·have := memsOk_length e; omega
theorem take_up (r : Rep) (own : Int) (m : Msg) : (r.take own m).1.up = r.up := by
 have hp : ∀ e,(r.put own e).1.up = r.up := by
  intro e
  unfold Rep.put
  split
  ·rfl
  ·rfl
 unfold Rep.take
 split
 ·split
  ·unfold Rep.asked
   split
   ·rfl
   ·split
    ·split <;> rfl
    ·split
     ·rfl
     ·exact hp _
  ·rfl
 ·split
  ·unfold Rep.takeForward
   split
   ·split
    ·exact hp _
    ·split <;> rfl
   ·rfl
  ·split
   ·unfold Rep.takeAck
    split <;> rfl
   ·split
    ·unfold Rep.takeSeal
     split <;> rfl
    ·split
     ·unfold Rep.takeInstall
      simp only
      split <;> rfl
     ·rfl
theorem masTake_up (s : Mas) (m : Msg) : (s.take m).1.up = s.up := by
 unfold Mas.take
 split
 ·split
  ·split <;> rfl
  ·rfl
  ·split
   ·rfl
   ·split <;> rfl
  ·split <;> rfl
  ·split <;> rfl
 ·rfl
theorem ok_client {e : Ent} (h : e.ok = true) : 0 ≤ e.client ∧ e.client ≤ 3 := by
 unfold Ent.ok at h
 simp only [Bool.and_eq_true,Bool.or_eq_true,decide_eq_true_eq] at h
 omega
def takeFn : Nod → Nat
 | .rep _ => 261
 | .acc _ => 250
 | .mas _ => 239
def tickFn : Nod → Nat
 | .rep _ => 262
 | .acc _ => 251
 | .mas _ => 125
def crashFn : Nod → Nat
 | .rep _ => 259
 | .acc _ => 248
 | .mas _ => 237
def restartFn : Nod → Nat
 | .rep _ => 260
 | .acc _ => 249
 | .mas _ => 238
theorem nodTake_any (n : Nat) (E : Int) (F : Nat → Prop) (b : Nat) (own : Int) (x : Nod) (m : Msg) (mm ml : Value) (w : World) (h : NodAt w F b own x) (ok : NodOK n E own x) (hu : x.up = true) (hm : MsgWF n E m) (h1 : IntOwn w mm m.mems) (h2 : LogOwn w ml m.log) (hd : m.dst = own) (hmF : ∀ k,mm.ownBlock = some k → ¬ F k) (hlF : ∀ k,ml.ownBlock = some k → ¬ F k) :
  Calls Tryz.prog (takeFn x) #[.pointer (some ⟨b,0,none⟩),mval m mm ml] w fun e w' => NodOut w w' F b own e (x.take own m) := by
 have hm5 := hm.mems5 ok.n5
 have hl24 := hm.log.1
 cases x with
 | rep r =>
  obtain ⟨⟨vm,vl,g1,g2,g3⟩,g4⟩ := h
  have hw := ok.rep r rfl
  refine (take_any b own r vm vl m mm ml w g1 (hw.ok ok.n5) h1 h2 hm5 hl24 ?_ ?_).mono ?_
  ·intro y hy
   rcases List.mem_append.1 hy with e | e
   ·exact ok_client (hw.log.2 y e)
   ·exact ok_client (hm.log.2 y e)
  ·have := hw.epoch; have := ok.E0; omega
  ·rintro e w' ⟨v,rfl,h3,h4⟩
   obtain ⟨F',h5,h6,h7⟩ := repTo_nod g2 h3 (by
    rw [take_up]
    intro e
    have : r.up = true := hu
    rw [this] at e
    cases e)
   exact ⟨v,F',rfl,h5,h6,h7,h4⟩
 | acc a =>
  refine (accTake_any F b own a m mm ml w h ((ok.acc a rfl).ok ok.n5) h1 h2 hm5 hl24 hd).mono ?_
  rintro e w' ⟨v,F',rfl,h3,h4,h5,h6⟩
  exact ⟨v,F',rfl,h3,h4,h5,h6⟩
 | mas s =>
  obtain ⟨⟨p,g1,g2⟩,g3⟩ := h
  obtain ⟨hw,ho⟩ := ok.mas s rfl
  have hr := g1.take hw ok.n5 hm hd
  refine (masTake_any F b own p m mm ml w g2 (g1.ok hw ok.n5 ho) h1 h2 hm5 hl24 (by have := hm.epoch; have := ok.E0; omega) hmF hlF).mono ?_
  rintro e w' ⟨v,F',rfl,h3,h4,h5,h6⟩
  refine ⟨v,F',rfl,⟨⟨_,hr.1,h3⟩, ?_⟩,h4,h5, ?_⟩
  ·rw [masTake_up]
   intro e
   have : s.up = true := hu
   rw [this] at e
   cases e
  ·rw [hr.2] at h6
   exact h6
theorem nodTick_any (n : Nat) (E : Int) (F : Nat → Prop) (b : Nat) (own : Int) (x : Nod) (w : World) (h : NodAt w F b own x) (ok : NodOK n E own x) :
  Calls Tryz.prog (tickFn x) #[.pointer (some ⟨b,0,none⟩)] w fun e w' => NodOut w w' F b own e (x,x.tick own) := by
 cases x with
 | rep r =>
  have HK := h
  obtain ⟨⟨vm,vl,g1,g2,g3⟩,g4⟩ := h
  refine (tick_any b own r vm vl w g1 ((ok.rep r rfl).ok ok.n5)).mono ?_
  rintro e w' ⟨v,rfl,h3,h4⟩
  exact ⟨v,F,rfl,HK.keep fun k hk => h4.block k (g3 k hk),(Moved.refl w F).below h4,fun k hk => .inl hk,h3⟩
 | acc a =>
  refine (accTick_any F b own a w h).mono ?_
  rintro e w' ⟨v,F',rfl,h3,h4,h5,h6⟩
  exact ⟨v,F',rfl,h3,h4,h5,h6⟩
 | mas s =>
  have HK := h
  obtain ⟨⟨p,g1,g2⟩,g3⟩ := h
  obtain ⟨hw,ho⟩ := ok.mas s rfl
  obtain ⟨vw,vo,vm,vl,g2⟩ := g2
  refine (masTick_any F b own p vw vo vm vl w g2 (g1.ok hw ok.n5 ho)).mono ?_
  rintro e w' ⟨v,rfl,h3,h4⟩
  rw [g1.asks hw.does] at h3
  exact ⟨v,F,rfl,HK.keep fun k hk => h4.block k (g2.lt k hk),(Moved.refl w F).below h4,fun k hk => .inl hk,h3⟩
theorem nodCrash_any (F : Nat → Prop) (b : Nat) (own : Int) (x : Nod) (w : World) (h : NodAt w F b own x) :
  Calls Tryz.prog (crashFn x) #[.pointer (some ⟨b,0,none⟩)] w fun e w' => (∃ v,e = .returned v) ∧ NodTo w w' F b own x.crash := by
 cases x with
 | rep r =>
  obtain ⟨⟨vm,vl,g1,g2,g3⟩,g4⟩ := h
  refine (repCrash_any b own r vm vl w g1).mono ?_
  rintro e w' ⟨h1,vm',vl',h3,h4,h5,h6⟩
  exact ⟨h1,repTo_nod g2 ⟨vm',vl',⟨h3.blk,h3.hm,h3.hl⟩,h4,h5,h6⟩ (fun _ => rfl)⟩
 | acc a =>
  refine (accCrash_any b w).mono ?_
  rintro e w' ⟨h1,rfl⟩
  obtain ⟨vm,g,l,h⟩ := h
  exact ⟨h1,F,⟨vm,g,l,⟨h.blk,h.hm,h.map,h.votes,h.fb,h.fg,h.fm,h.lt⟩⟩,Moved.refl _ F,fun k hk => .inl hk⟩
 | mas s =>
  obtain ⟨⟨p,g1,g2⟩,g3⟩ := h
  refine (masCrash_any F b own p w g2).mono ?_
  rintro e w' ⟨h1,F',h2,h3,h4⟩
  exact ⟨h1,F',⟨⟨_,MRel.still own false s p g1.begun,h2⟩,fun _ => rfl⟩,h3,h4⟩
theorem nodRestart_any (n : Nat) (E : Int) (F : Nat → Prop) (b : Nat) (own : Int) (x : Nod) (w : World) (h : NodAt w F b own x) (ok : NodOK n E own x) (hu : x.up = false) :
  Calls Tryz.prog (restartFn x) #[.pointer (some ⟨b,0,none⟩)] w fun e w' => (∃ v,e = .returned v) ∧ NodTo w w' F b own (x.restart own) := by
 cases x with
 | rep r =>
  obtain ⟨⟨vm,vl,g1,g2,g3⟩,g4⟩ := h
  refine (repRestart_any b own r vm vl w g1 ((ok.rep r rfl).ok ok.n5)).mono ?_
  rintro e w' ⟨h1,vm',vl',h3,h4,h5,h6⟩
  have hc : r.commit = r.base := g4 hu
  have e1 : (r.rise own).commit = (r.restart own).commit ∧ (r.rise own).epoch = (r.restart own).epoch ∧ (r.rise own).lock = (r.restart own).lock ∧ (r.rise own).mems = (r.restart own).mems ∧ (r.rise own).log = (r.restart own).log ∧ (r.rise own).base = (r.restart own).base := by
   unfold Rep.rise Rep.restart
   split
   ·rename_i h; exact ⟨rfl,rfl,rfl,rfl,rfl,rfl⟩
   ·exact ⟨hc,rfl,rfl,rfl,rfl,rfl⟩
  obtain ⟨q1,q2,q3,q4,q5,q6⟩ := e1
  exact ⟨h1,repTo_nod g2 ⟨vm',vl',⟨by rw [← q1, ← q2, ← q3, ← q6]; exact h3.blk,by rw [← q4]; exact h3.hm,by rw [← q5]; exact h3.hl⟩,h4,h5,h6⟩ (fun e => by simp [Rep.restart] at e)⟩
 | acc a =>
  refine (accRestart_any b w).mono ?_
  rintro e w' ⟨h1,rfl⟩
  obtain ⟨vm,g,l,h⟩ := h
  exact ⟨h1,F,⟨vm,g,l,⟨h.blk,h.hm,h.map,h.votes,h.fb,h.fg,h.fm,h.lt⟩⟩,Moved.refl _ F,fun k hk => .inl hk⟩
 | mas s =>
  obtain ⟨⟨p,g1,g2⟩,g3⟩ := h
  refine (masRestart_any b w).mono ?_
  rintro e w' ⟨h1,rfl⟩
  have hdz : s.does = 0 := g3 hu
  have hall : s.all = [] := by unfold Mas.all; split <;> first | rfl | (exfalso; omega) | (exfalso; simp_all)
  have hc := g1.count
  rw [hall] at hc
  have hwt : p.waits = [] := List.eq_nil_of_length_eq_zero (by simp only [List.length_nil] at hc; omega)
  refine ⟨h1,F,⟨⟨p, ?_,g2⟩,fun e => by simp [Mas.still] at e⟩,Moved.refl _ F,fun k hk => .inl hk⟩
  exact ⟨g1.begun,by rw [g1.doing,hdz]; rfl,fun e => absurd rfl e,hwt,by rw [hwt]; rfl,fun e => by simp [Mas.still] at e,fun e => by simp [Mas.still] at e,fun e => by simp [Mas.still] at e,fun e => by simp [Mas.still] at e,fun e => by simp [Mas.still] at e,g1.old5,g1.mems5,g1.log24⟩
def byts (l : List UInt8) : List Value := l.map fun b => .int .u8 (b.toNat : Int)
theorem byts_length (l : List UInt8) : (byts l).length = l.length := by simp [byts]
theorem byts_append (l m : List UInt8) : byts (l ++ m) = byts l ++ byts m := by simp [byts]
theorem byts_one (l : List UInt8) : ∀ u ∈ byts l,u.oneCell' = true := by
 intro u hu
 simp only [byts,List.mem_map] at hu
 obtain ⟨n,_,rfl⟩ := hu
 rfl
theorem infoByte : (Tryz.prog.info? 5).map (fun i => (i.zero,i.size,i.bytes)) = some (some (.int .u8 0),1,1) := by kernel_rfl
theorem wpList_append_bytes {w : World} {ops : Array Oper} {rest : List Oper} {o : Oper} {a : Act} {Q : Exit → Act → World → Prop} (hgd : o.guard = none) (s x : Operand)
  (ho : o.op = .call { callee := .builtin .append,args := #[s,x],argTypes := #[169,169] })
  (base : Nat) (v : Value) (l : List UInt8) (hs : a.eval s = v) (hown : w.ownsRow base 5 1 v l.length (byts l))
  (g m c : Nat) (news : List UInt8) (hx : a.eval x = .slice (some ⟨g,0,none⟩) m c) (hm : news.length = m) (hnews : ∀ j,j < m → w.cell? ⟨g,j,none⟩ = some (.int .u8 ((news.getD j 0).toNat : Int)))
  (h63 : l.length + m ≤ 1000000) (hbase : base ≤ w.heap.size)
  (h : ∀ v' w',w'.ownsRow base 5 1 v' (l ++ news).length (byts (l ++ news)) → w.grownBy w' v.ownBlock → wpList Tryz.prog ops Q rest (a.put o.dst v') w') : wpList Tryz.prog ops Q (o :: rest) a w := by
 obtain ⟨i0,hi,hz0,hz1,hz2⟩ := info_parts infoByte
 refine wpList_append_own w hgd s x 169 ho base 5 i0 _ 1 1 Tryz.underlying169 hi hz0 hz1 hz2 rfl (by decide) v l.length (byts l) hs hown ⟨g,0,none⟩ m c (byts news) hx (by rw [byts_length,hm]; omega) ?_ (byts_one news) (by unfold maxLen; omega) (by omega) hbase ?_
 ·intro j u hj
  have hjl : j < news.length := by
   have := (List.getElem?_eq_some_iff.1 hj).1
   rwa [byts_length] at this
  have e : (⟨g,0,none⟩ : Addr).add j = ⟨g,j,none⟩ := by unfold Addr.add; simp; omega
  rw [e,hnews j (by omega)]
  simp [byts,List.getElem?_eq_getElem hjl] at hj
  simp [List.getD,List.getElem?_eq_getElem hjl,hj]
 ·intro v' w' h1 h2 _
  refine h v' w' ?_ h2
  rw [byts_append,List.length_append,hm]
  exact h1
theorem grown_alloc {w w' : World} {o : Obj} {row : Option Nat} (h : (w.alloc o).grownBy w' row) : w.grownBy w' row :=
 ⟨h.os,h.tape,h.output,by have := h.size; simp at this; omega,fun k hk hr => (h.block k (by simp; omega) hr).trans (Below.heap_alloc w o k hk)⟩
theorem toNat_low (n : Nat) : ((lowByte n).toNat : Int) = ((n % 256 : Nat) : Int) := by
 unfold lowByte; simp
set_option maxHeartbeats 1000000 in
set_option maxRecDepth 100000 in
theorem appendNumber_any (base : Nat) (v : Value) (l : List UInt8) (n : Int) (w : World) (hown : w.ownsRow base 5 1 v l.length (byts l)) (hb : base ≤ w.heap.size) (h1 : -1 ≤ n) (h2 : n ≤ 65534) (hl : l.length ≤ 100000) :
  Calls Tryz.prog 157 #[v, .int .i64 n] w fun e w' => ∃ v',e = .returned v' ∧ w'.ownsRow base 5 1 v' (l ++ numBytes n).length (byts (l ++ numBytes n)) ∧ w.grownBy w' v.ownBlock := by
 go_enter Tryz.func157,Tryz.ntmps157
 go_wp2_with (at_builtin; refine wpList_append_bytes rfl _ _ rfl base _ _ rfl (hown.alloc _) w.heap.size 2 2 (numBytes n) rfl rfl ?hnews ?h63 ?hbase ?_)
 case hnews =>
  intro j hj
  match j,hj with
  | 0,_ => simp [numBytes,toNat_low]; omega
  | 1,_ => simp [numBytes,toNat_low]; omega
 case h63 => omega
 case hbase => simp; omega
 intro v' w1 h3 h4
 go_wp2
 go_ret
 exact ⟨_,rfl,by simpa using h3,grown_alloc h4⟩
set_option maxHeartbeats 1000000 in
set_option maxRecDepth 100000 in
theorem appendNumber_odd (base : Nat) (v : Value) (l : List UInt8) (n : Int) (w : World) (hown : w.ownsRow base 5 1 v l.length (byts l)) (hb : base ≤ w.heap.size) (hl : l.length ≤ 100000) :
  Calls Tryz.prog 157 #[v, .int .i64 n] w fun e w' => ∃ v' l',l'.length = 2 ∧ e = .returned v' ∧ w'.ownsRow base 5 1 v' (l ++ l').length (byts (l ++ l')) ∧ w.grownBy w' v.ownBlock := by
 go_enter Tryz.func157,Tryz.ntmps157
 go_wp2_with (at_builtin; refine wpList_append_bytes rfl _ _ rfl base _ _ rfl (hown.alloc _) w.heap.size 2 2 [UInt8.ofNat (wrap64 (n + 1) / 256 % 256).toNat,UInt8.ofNat (wrap64 (n + 1) % 256).toNat] rfl rfl ?hnews ?h63 ?hbase ?_)
 case hnews =>
  intro j hj
  match j,hj with
  | 0,_ => simp; omega
  | 1,_ => simp; omega
 case h63 => omega
 case hbase => simp; omega
 intro v' w1 h3 h4
 go_wp2
 go_ret
 refine ⟨_, [UInt8.ofNat (wrap64 (n + 1) / 256 % 256).toNat,UInt8.ofNat (wrap64 (n + 1) % 256).toNat],rfl,rfl, ?_,grown_alloc h4⟩
 rw [List.length_append]
 exact h3
theorem appendNumber_tot (base : Nat) (v : Value) (l : List UInt8) (n : Int) (w : World) (hown : w.ownsRow base 5 1 v l.length (byts l)) (hb : base ≤ w.heap.size) (hl : l.length ≤ 100000) :
  Calls Tryz.prog 157 #[v, .int .i64 n] w fun e w' => ∃ v' l',(l'.length = 2 ∧ (numOk n = true → l' = numBytes n)) ∧ e = .returned v' ∧ w'.ownsRow base 5 1 v' (l ++ l').length (byts (l ++ l')) ∧ w.grownBy w' v.ownBlock := by
 by_cases h : numOk n = true
 ·obtain ⟨h1,h2⟩ := (numOk_iff n).1 h
  refine (appendNumber_any base v l n w hown hb h1 h2 hl).mono ?_
  rintro e w' ⟨v',rfl,ho,hg⟩
  exact ⟨v',_,⟨rfl,fun _ => rfl⟩,rfl,ho,hg⟩
 ·refine (appendNumber_odd base v l n w hown hb hl).mono ?_
  rintro e w' ⟨v',l',hl',rfl,ho,hg⟩
  exact ⟨v',l',⟨hl',fun h' => absurd h' h⟩,rfl,ho,hg⟩
end Go.Proofs.YtgieeeeeiggoeaaGreat
