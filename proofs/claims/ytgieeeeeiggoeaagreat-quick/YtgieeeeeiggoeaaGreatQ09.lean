import Derived.Test.YtgieeeeeiggoeaaGreatQ08
namespace Go.Proofs.YtgieeeeeiggoeaaGreat
def Gh.first (n : Nat) : Gh :=
 {n := n,asked := fun _ => False,prop := fun _ _ => none,voted := fun _ _ _ => False,promR := fun _ _ _ _ => False,prepd := fun _ _ => False
  hist := fun i e => if 0 ≤ i ∧ i < n ∧ e = 0 then some [] else none,seen := 0 }
theorem first_cfg {n : Nat} {E : Int} {v : List Int × List Ent} (h : (Gh.first n).cfg E v) : E = 0 ∧ v = (firstInts n, []) := by
 rcases h with q | ⟨_,b,_,_,_,q,_⟩
 ·exact q
 ·exact q.elim
theorem first_H (n : Nat) (i : Int) : (Gh.first n).H i 0 [] = [] := by
 unfold Gh.H Gh.first
 simp only []
 split <;> rfl
theorem mem_firstInts {n : Nat} {i : Int} (h0 : 0 ≤ i) (h1 : i < n) : i ∈ firstInts n := by
 simp only [firstInts,List.mem_map,List.mem_range]
 exact ⟨i.toNat,by omega,by show Int.ofNat _ = _; simp; omega⟩
theorem first_rep {n : Nat} {i : Int} (h0 : 0 ≤ i) (h1 : i < n) : (Clu.first n).rep i = Rep.first n := by
 unfold Clu.rep Clu.first
 simp only []
 rw [List.getD,List.getElem?_replicate,if_pos (by omega)]
 rfl
theorem first_acc {n : Nat} {a : Int} (h : isAcc a) : (Clu.first n).acc a = Acc.first n := by
 unfold isAcc at h
 unfold Clu.acc Clu.first
 simp only []
 rw [List.getD,List.getElem?_replicate,if_pos (by omega)]
 rfl
theorem first_mas {n : Nat} {a : Int} (h : isMas a) : (Clu.first n).mas a = Mas.still true 0 := by
 unfold isMas at h
 unfold Clu.mas Clu.first
 simp only []
 rw [List.getD,List.getElem?_replicate,if_pos (by omega)]
 rfl
theorem first_isRep {n : Nat} {i : Int} : (Clu.first n).isRep i ↔ 0 ≤ i ∧ i < n := by
 unfold Clu.isRep Clu.first
 simp
theorem first_inv (n : Nat) (h : 1 ≤ n) : Inv (Gh.first n) (stOf (Clu.first n)) := by
 have hcf : (Gh.first n).cfg 0 (firstInts n, []) := .inl ⟨rfl,rfl⟩
 have hcom : (Gh.first n).com 0 [] := ⟨_,_,hcf,(first_H n _).symm⟩
 exact
  {npos := h
   voteAcc := fun q => q.elim
   votes := by
    intro a ha E
    rw [stOf_A ha,first_acc ha]
    exact ⟨Int.le_refl _,fun q => absurd q (by show ¬ (0 : Int) ≤ -1; omega)⟩
   prom := fun q => q.elim
   prepd := fun q => q.elim
   propd := fun q => absurd q (by show ¬ (none : Option (List Int × List Ent)).isSome = true; simp)
   prop := fun q => by cases q
   mas := by
    intro k hk
    have hS : (stOf (Clu.first n)).S k = Mas.still true 0 := by rw [stOf_S hk,first_mas hk]
    exact
     {does := by rw [hS]; exact Nat.zero_le _
      bal := by rw [hS]; intro q; exact absurd rfl q
      want := by rw [hS]; intro q; exact absurd rfl q
      cameI := by rw [hS]; intro x hx; cases hx
      old := by rw [hS]; intro q; exact absurd q (by show ¬ 2 ≤ 0; decide)
      prep := by rw [hS]; intro q; exact absurd q (by show ¬ 3 ≤ 0; decide)
      logs := by rw [hS]; intro q; exact absurd q (by show ¬ 0 = 3; decide)
      prop := by rw [hS]; intro q; exact absurd q (by show ¬ 4 ≤ 0; decide)
      cfg := by rw [hS]; intro q; exact absurd q (by show ¬ 5 ≤ 0; decide) }
   reg := by
    intro a ha
    rw [stOf_A ha,first_acc ha]
    exact ⟨[],hcf⟩
   rep := by
    intro i h0 h1
    have h1' : i < n := h1
    rw [stOf_R (first_isRep.2 ⟨h0,h1'⟩),first_rep h0 h1']
    refine ⟨if_pos ⟨h0,h1',rfl⟩,by show (0 : Int) ≤ 0 + 1; omega,Nat.le_refl _, [],hcf,rfl, [],hcom,Nat.le_refl _⟩
   hist := by
    intro i e l q
    have q' : (if 0 ≤ i ∧ i < (n : Int) ∧ e = 0 then some ([] : List Ent) else none) = some l := q
    split at q'
    ·rename_i hc
     injection q' with q'
     subst q'
     obtain ⟨c1,c2,rfl⟩ := hc
     refine ⟨c1,c2, ?_,⟨_,_,hcf,mem_firstInts c1 c2,List.prefix_refl _⟩,List.Pairwise.nil,fun x hx => (by cases hx),Nat.zero_le _⟩
     rw [stOf_R (first_isRep.2 ⟨c1,c2⟩),first_rep c1 c2]
     exact Int.le_refl _
    ·cases q'
   chain := by
    intro e mems l0 hc a x y _ _
    obtain ⟨rfl,hv⟩ := first_cfg hc
    injection hv with h1 h2
    subst h2
    rw [first_H,first_H]
    exact List.prefix_refl _ }
theorem first_good (n : Nat) (h : 1 ≤ n) (h5 : n ≤ 5) : Good (Clu.first n) 0 (Gh.first n) := by
 have hl : (Clu.first n).reps.length = n := by unfold Clu.first; simp
 refine ⟨?_,by unfold Clu.first; simp,fun f hf => by cases hf⟩
 exact
  {n1 := by rw [hl]; exact h
   n5 := by rw [hl]; exact h5
   a3 := rfl,m2 := rfl
   n := hl.symm
   E0 := Int.le_refl _
   R := by
    intro i hi
    obtain ⟨h0,h1⟩ := first_isRep.1 hi
    rw [first_rep h0 h1,hl]
    exact ⟨⟨Int.le_refl _,Int.le_refl _⟩,⟨Int.le_refl _,Int.le_refl _⟩,firstInts_ok n h,entsOk_nil,Nat.le_refl _,Nat.le_refl _,Nat.le_refl _⟩
   A := by
    intro a ha
    rw [first_acc ha,hl]
    refine ⟨⟨Int.le_refl _,Int.le_refl _⟩,firstInts_ok n h, ?_⟩
    intro e
    exact ⟨by show (-1 : Int) ≤ -1 ∧ (-1 : Int) ≤ 2001; omega,by show (-1 : Int) ≤ -1 ∧ (-1 : Int) ≤ 2001; omega, .inl rfl,fun q => absurd q (by show ¬ (0 : Int) ≤ -1; omega),entsOk_nil⟩
   S := by
    intro k hk
    rw [first_mas hk]
    exact masStill_wf true (by omega) (Int.le_refl _)
   budget := by rw [first_mas (by unfold isMas; omega),first_mas (by unfold isMas; omega)]; decide
   inv := first_inv n h }
theorem first_mid (n : Nat) (h : 1 ≤ n) (h5 : n ≤ 5) : Mid (Run.first n) 0 (Gh.first n) :=
 {good := first_good n h h5
  n := by show n = (List.replicate n _).length; simp
  flags := ⟨rfl,rfl,rfl,rfl,rfl⟩
  asked := fun x hx => hx.elim
  wok := fun w hw => by cases hw
  wnd := List.Pairwise.nil
  fix := fun p f hp => by cases hp
  seen := fun K _ _ => Nat.zero_le _
  rel := fun p hp => by cases hp
  ans := ⟨Nat.le_refl _,fun a ha => by cases ha⟩
  top := ⟨Int.le_refl _,by show (-1 : Int) < 0; omega⟩
  floor := fun w hw => by cases hw }
theorem RI.ask' {r : Run} {E : Int} {g : Gh} (h : RI r E g) (d : Int) (e : Ent) (hd : r.x.isRep d) (he : e.ok = true) : RI (r.ask d e) E (g.addAsk e) := by
 have hx : (r.x.ask d e).1 = r.x.send [{ kind := 1,src := 300 + e.client,dst := d,log := [e] }] := by
  unfold Clu.ask
  rw [if_neg (fun q => q hd),if_neg (by rw [he]; exact Bool.noConfusion)]
 refine ⟨h.ask d e hd he,h.seen, ?_, ?_⟩
 ·show r.last = (r.x.ask d e).1.reps
  rw [hx]; exact h.last
 ·show r.answers = (r.x.ask d e).1.told.length
  rw [hx]; exact h.ans
theorem begin_ok (n : Nat) (h : 1 ≤ n) (h5 : n ≤ 5) : ∃ E g,RI (Run.begin n) E g := by
 have h1 := (first_mid n h h5).look
 unfold Run.begin
 refine (h1.1.ask' 0 firstEntry ?_ rfl).drain 5000
 rw [h1.2.1]
 exact first_isRep.2 ⟨Int.le_refl _,by omega⟩
set_option maxRecDepth 100000 in
theorem begin_facts (n : Nat) (h : 1 ≤ n) (h5 : n ≤ 5) : (Run.begin n).answers = 1 ∧ (Run.begin n).fixed.length = 1 ∧ (Run.begin n).last.length = n ∧ (Run.begin n).n = n ∧ (Run.begin n).last.all (fun x => decide (x.commit = 1) && decide (x.epoch = 0)) = true := by
 match n,h,h5 with
 | 1,_,_ => decide +kernel
 | 2,_,_ => decide +kernel
 | 3,_,_ => decide +kernel
 | 4,_,_ => decide +kernel
 | 5,_,_ => decide +kernel
theorem firstInts_at {n i : Nat} (h : i < n) : (firstInts n)[i]? = some (i : Int) := by
 unfold firstInts
 rw [List.getElem?_map,List.getElem?_range h]
 rfl
theorem firstInts_idx {n i : Nat} (h1 : 1 ≤ n) (h : i < n) : (firstInts n).idxOf (i : Int) = i := by
 have hnd := ((memsOk_iff _ _).1 (firstInts_ok n h1)).2.1
 obtain ⟨a,b⟩ := List.getElem?_eq_some_iff.1 (firstInts_at h)
 have := hnd.idxOf_getElem i a
 rw [b] at this
 exact this
theorem firstInts_len (n : Nat) : (firstInts n).length = n := by simp [firstInts]
theorem next_first {n i : Nat} (h1 : 1 ≤ n) (h : i < n) : nextOf (firstInts n) (i : Int) = if i + 1 < n then some ((i + 1 : Nat) : Int) else none := by
 unfold nextOf
 rw [firstInts_idx h1 h]
 split
 ·rename_i q; exact firstInts_at q
 ·rw [List.getElem?_eq_none]; rw [firstInts_len]; omega
theorem prev_first {n i : Nat} (h1 : 1 ≤ n) (h : i < n) : prevOf (firstInts n) (i : Int) = if i = 0 then none else some ((i - 1 : Nat) : Int) := by
 unfold prevOf
 rw [firstInts_idx h1 h,firstInts_len]
 split
 ·rfl
 ·exact firstInts_at (by omega)
def qrep (n : Nat) (L : List Ent) (e : Ent) (a b i : Nat) : Rep :=
 {up := true,epoch := 0,lock := 0,mems := firstInts n,log := if i < a then L ++ [e] else L,base := 0,commit := if b ≤ i then L.length + 1 else L.length }
def qreps (n : Nat) (L : List Ent) (e : Ent) (a b : Nat) : List Rep := (List.range n).map (qrep n L e a b)
theorem qreps_len (n : Nat) (L : List Ent) (e : Ent) (a b : Nat) : (qreps n L e a b).length = n := by simp [qreps]
theorem qreps_set {n : Nat} {L : List Ent} {e : Ent} {a b a' b' i : Nat} (h : ∀ j,j < n → j ≠ i → qrep n L e a b j = qrep n L e a' b' j) : (qreps n L e a b).set i (qrep n L e a' b' i) = qreps n L e a' b' := by
 apply List.ext_getElem
 ·rw [List.length_set,qreps_len,qreps_len]
 ·intro j h1 h2
  rw [qreps_len] at h2
  rw [List.getElem_set]
  have at_ : ∀ (x y : Nat) (hx : j < (qreps n L e x y).length),(qreps n L e x y)[j] = qrep n L e x y j := by
   intro x y hx
   have : (qreps n L e x y)[j]? = some (qrep n L e x y j) := by
    unfold qreps
    rw [List.getElem?_map,List.getElem?_range h2]; rfl
   rw [List.getElem?_eq_getElem hx] at this
   injection this
  rw [at_ a' b']
  split
  ·rename_i q; rw [q]
  ·rename_i q
   rw [at_ a b]
   exact h j h2 (fun e => q e.symm)
def framesOf (ms : List Msg) : List (List UInt8 × Bool) := ms.map (fun m => (m.frame,false))
structure QS (c : Clu) (n : Nat) (L : List Ent) (e : Ent) (a b : Nat) (ms : List Msg) (told : List Ans) : Prop where
 reps : c.reps = qreps n L e a b
 bag : c.bag = framesOf ms
 oks : ∀ m ∈ ms,m.ok = true
 told : c.told = told
 oth : c.accs = List.replicate 3 (Acc.first n) ∧ c.mass = List.replicate 2 (Mas.still true 0)
theorem QS.isRep {c : Clu} {n : Nat} {L : List Ent} {e : Ent} {a b : Nat} {ms : List Msg} {t : List Ans} (h : QS c n L e a b ms t) {i : Nat} (hi : i < n) : c.isRep (i : Int) := by
 unfold Clu.isRep
 rw [h.reps,qreps_len]
 omega
theorem QS.rep {c : Clu} {n : Nat} {L : List Ent} {e : Ent} {a b : Nat} {ms : List Msg} {t : List Ans} (h : QS c n L e a b ms t) {i : Nat} (hi : i < n) : c.rep (i : Int) = qrep n L e a b i := by
 unfold Clu.rep
 rw [h.reps,Int.toNat_natCast,List.getD]
 unfold qreps
 rw [List.getElem?_map,List.getElem?_range hi]
 rfl
theorem QS.first {c : Clu} {n : Nat} {L : List Ent} {e : Ent} {a b : Nat} {m : Msg} {ms : List Msg} {t : List Ans} (h : QS c n L e a b (m :: ms) t) : (c.deliver 0).1 = ({ c with bag := framesOf ms }).arrive m := by
 have hb := h.bag
 have hb2 : framesOf (m :: ms) = (m.frame,false) :: framesOf ms := rfl
 rw [hb2] at hb
 have hf : c.hasFrame 0 := by unfold Clu.hasFrame; rw [hb]; simp only [List.length_cons]; omega
 have hfa : c.frameAt 0 = (m.frame,false) := by unfold Clu.frameAt; rw [hb]; rfl
 have hg : c.gone 0 = { c with bag := framesOf ms } := by unfold Clu.gone; rw [hb]; rfl
 unfold Clu.deliver
 rw [if_pos hf,hfa]
 simp only []
 rw [msgOf_frame m (h.oks m List.mem_cons_self)]
 simp only []
 rw [hg]
theorem QS.take {c : Clu} {n : Nat} {L : List Ent} {e : Ent} {a b : Nat} {m : Msg} {ms : List Msg} {t : List Ans} (h : QS c n L e a b (m :: ms) t) {i : Nat} (hi : i < n) (hn : n ≤ 5) (hd : m.dst = (i : Int)) {a' b' : Nat} {out : List Msg}
  (ht : (qrep n L e a b i).take (i : Int) m = (qrep n L e a' b' i,out)) (hs : ∀ j,j < n → j ≠ i → qrep n L e a b j = qrep n L e a' b' j) (ho : ∀ x ∈ out,x.ok = true) (hl : ms.length + out.length ≤ 200) :
  QS (c.deliver 0).1 n L e a' b' (ms ++ out) t := by
 rw [h.first]
 have hr := h.rep hi
 have hi1 := h.isRep hi
 unfold Clu.arrive
 have htell : ({ c with bag := framesOf ms } : Clu).tell m = { c with bag := framesOf ms } := by
  unfold Clu.tell
  rw [if_neg (by rw [hd]; omega)]
 rw [htell]
 have hi2 : ({ c with bag := framesOf ms } : Clu).isRep (i : Int) := hi1
 have hup : ({ c with bag := framesOf ms } : Clu).upOf m.dst = some true := by
  unfold Clu.upOf
  rw [hd,if_pos hi2]
  show some (c.rep (i : Int)).up = _
  rw [hr]; rfl
 unfold Clu.takes
 rw [if_pos hup,hd,if_pos hi2]
 have hr' : ({ c with bag := framesOf ms } : Clu).rep (i : Int) = qrep n L e a b i := hr
 rw [hr',ht]
 refine ⟨?_, ?_, ?_,h.told,h.oth⟩
 ·show c.reps.set (i : Int).toNat _ = _
  rw [h.reps,Int.toNat_natCast,qreps_set hs]
 ·show (framesOf ms ++ framesOf out).take 200 = framesOf (ms ++ out)
  unfold framesOf
  rw [← List.map_append,List.take_of_length_le]
  rw [List.length_map,List.length_append]; exact hl
 ·intro x hx
  rcases List.mem_append.1 hx with q | q
  ·exact h.oks x (List.mem_cons_of_mem _ q)
  ·exact ho x q
theorem QS.reply {c : Clu} {n : Nat} {L : List Ent} {e : Ent} {a b : Nat} {m : Msg} {ms : List Msg} {t : List Ans} (h : QS c n L e a b (m :: ms) t) (hn : n ≤ 5) (hk : m.kind = 4) (hd : 300 ≤ m.dst ∧ m.dst ≤ 303) (hl : ms.length ≤ 200) :
  QS (c.deliver 0).1 n L e a b ms (t ++ [⟨m.dst - 300,m.pos,m.value⟩]) := by
 rw [h.first]
 unfold Clu.arrive
 have htell : ({ c with bag := framesOf ms } : Clu).tell m = { c with bag := framesOf ms,told := c.told ++ [⟨m.dst - 300,m.pos,m.value⟩] } := by
  unfold Clu.tell
  rw [if_pos ⟨hk,hd⟩]
 rw [htell]
 have hup : ({ c with bag := framesOf ms,told := c.told ++ [⟨m.dst - 300,m.pos,m.value⟩] } : Clu).upOf m.dst = none := by
  unfold Clu.upOf
  rw [if_neg,if_neg,if_neg]
  ·unfold isMas; omega
  ·unfold isAcc; omega
  ·show ¬ (0 ≤ m.dst ∧ m.dst < c.reps.length)
   rw [h.reps,qreps_len]; omega
 unfold Clu.takes
 rw [if_neg (by rw [hup]; exact fun q => by cases q)]
 refine ⟨h.reps, ?_,fun x hx => h.oks x (List.mem_cons_of_mem _ hx), ?_,h.oth⟩
 ·show (framesOf ms ++ []).take 200 = framesOf ms
  unfold framesOf
  rw [List.append_nil,List.take_of_length_le]
  rw [List.length_map]; exact hl
 ·show c.told ++ _ = _
  rw [h.told]
def fwdMsg (i : Nat) (p : Nat) (e : Ent) : Msg := { kind := 2,src := (i : Int),dst := ((i + 1 : Nat) : Int),epoch := 0,pos := p,log := [e] }
def ackMsg (i : Nat) (p : Nat) : Msg := { kind := 3,src := (i : Int),dst := ((i - 1 : Nat) : Int),epoch := 0,pos := p }
def repMsg (n : Nat) (L : List Ent) (e : Ent) : Msg := { kind := 4,src := ((n - 1 : Nat) : Int),dst := 300 + e.client,pos := e.seq,value := answerAt (L ++ [e]) L.length }
theorem qlive {n : Nat} {L : List Ent} {e : Ent} {a b i : Nat} (hi : i < n) : (qrep n L e a b i).live (i : Int) = true := by
 rw [live_iff]
 exact ⟨mem_firstInts (by omega) (by omega),Int.le_refl _⟩
theorem snoc_at (L : List Ent) (e : Ent) : (L ++ [e]).getD L.length Ent.zero = e := by
 rw [List.getD,List.getElem?_append_right (Nat.le_refl _),Nat.sub_self]; rfl
theorem qrep_eq (n : Nat) (L : List Ent) (e : Ent) (a b i : Nat) : qrep n L e a b i = ⟨true,0,0,firstInts n,if i < a then L ++ [e] else L,0,if b ≤ i then L.length + 1 else L.length⟩ := rfl
theorem qput {n : Nat} (h1 : 1 ≤ n) {L : List Ent} {e : Ent} {i : Nat} (hi : i < n) :
  (qrep n L e i n i).put (i : Int) e = if i + 1 < n then (qrep n L e (i + 1) n i, [fwdMsg i L.length e]) else (qrep n L e n (n - 1) i,repMsg n L e :: (if i = 0 then [] else [ackMsg i (L.length + 1)])) := by
 rw [qrep_eq n L e i n i,if_neg (by omega),if_neg (by omega)]
 unfold Rep.put
 simp only [next_first h1 hi]
 by_cases hlt : i + 1 < n
 ·simp only [if_pos hlt]
  rw [qrep_eq,if_pos (by omega),if_neg (by omega)]
  refine Prod.ext rfl ?_
  show [Rep.forward _ _ _ _] = [_]
  unfold Rep.forward fwdMsg
  simp only [snoc_at]
 ·simp only [if_neg hlt]
  have hin : i = n - 1 := by omega
  rw [qrep_eq,if_pos (by omega),if_pos (by omega)]
  unfold Rep.commitAll
  have hl : (L ++ [e]).length = L.length + 1 := by simp
  simp only [hl]
  refine Prod.ext rfl ?_
  simp only []
  have e3 : placesFrom L.length (L.length + 1) = [L.length] := by
   unfold placesFrom
   rw [Nat.add_sub_cancel_left]
   rfl
  rw [e3,List.map_singleton,List.singleton_append]
  congr 1
  ·unfold Rep.reply repMsg
   simp only [snoc_at]
   rw [hin]
  ·unfold Rep.acks
   simp only [prev_first h1 hi]
   by_cases h0 : i = 0
   ·simp only [if_pos h0]
   ·simp only [if_neg h0]
    rfl
def reqMsg (src : Int) (i : Nat) (e : Ent) : Msg := { kind := 1,src := src,dst := (i : Int),log := [e] }
theorem qtake_pass {n : Nat} {L : List Ent} {e : Ent} {i : Nat} (h1 : 1 ≤ n) (hi : i < n) (h0 : i ≠ 0) (src : Int) : (qrep n L e 0 n i).take (i : Int) (reqMsg src i e) = (qrep n L e 0 n i, [reqMsg i 0 e]) := by
 unfold Rep.take
 rw [if_pos (show (reqMsg src i e).kind = 1 from rfl),if_pos ⟨rfl,qlive hi⟩]
 unfold Rep.asked
 have hm : (qrep n L e 0 n i).mems.headD 0 = 0 := by
  show (firstInts n).headD 0 = 0
  have := headD_at (l := firstInts n) (((memsOk_iff _ _).1 (firstInts_ok n h1)).2.2)
  rw [firstInts_at (by omega)] at this
  injection this with this
  exact this.symm
 rw [hm,if_pos (by omega)]
 rfl
theorem qtake_head {n : Nat} {L : List Ent} {e : Ent} (h1 : 1 ≤ n) (src : Int) (hno : L.any (isReq e) = false) (hla : L.any (isLater e) = false) (hlen : L.length < 24) : (qrep n L e 0 n 0).take ((0 : Nat) : Int) (reqMsg src 0 e) = (qrep n L e 0 n 0).put ((0 : Nat) : Int) e := by
 unfold Rep.take
 rw [if_pos (show (reqMsg src 0 e).kind = 1 from rfl),if_pos ⟨rfl,qlive (by omega)⟩]
 unfold Rep.asked
 have hm : (qrep n L e 0 n 0).mems.headD 0 = 0 := by
  show (firstInts n).headD 0 = 0
  have := headD_at (l := firstInts n) (((memsOk_iff _ _).1 (firstInts_ok n h1)).2.2)
  rw [firstInts_at (by omega)] at this
  injection this with this
  exact this.symm
 have hl : (qrep n L e 0 n 0).log = L := by rw [qrep_eq,if_neg (Nat.lt_irrefl 0)]
 rw [hm,if_neg (by simp),hl]
 show (if L.any (isReq e) = true then _ else if 24 ≤ L.length ∨ L.any (isLater e) = true then _ else _) = _
 rw [if_neg (by rw [hno]; simp),if_neg (by rw [hla]; simp; omega)]
 rfl
theorem qtake_fwd {n : Nat} {L : List Ent} {e : Ent} {i : Nat} (h1 : 1 ≤ n) (hi : i + 1 < n) (hlen : L.length < 24) : (qrep n L e (i + 1) n (i + 1)).take ((i + 1 : Nat) : Int) (fwdMsg i L.length e) = (qrep n L e (i + 1) n (i + 1)).put ((i + 1 : Nat) : Int) e := by
 unfold Rep.take
 rw [if_neg (by show ¬ (2 : Int) = 1; decide),if_pos (show (fwdMsg i L.length e).kind = 2 from rfl)]
 unfold Rep.takeForward
 have hl : (qrep n L e (i + 1) n (i + 1)).log = L := if_neg (by omega)
 have hp : prevOf (qrep n L e (i + 1) n (i + 1)).mems ((i + 1 : Nat) : Int) = some (i : Int) := by
  show prevOf (firstInts n) _ = _
  rw [prev_first h1 hi,if_neg (by omega)]
  rfl
 rw [if_pos ⟨qlive hi,hp,rfl,rfl⟩,hl,if_pos ⟨rfl,hlen⟩]
 rfl
theorem qtake_ack {n : Nat} {L : List Ent} {e : Ent} {i : Nat} (h1 : 1 ≤ n) (hi : i + 1 < n) : (qrep n L e n (i + 1) i).take (i : Int) (ackMsg (i + 1) (L.length + 1)) = (qrep n L e n i i,if i = 0 then [] else [ackMsg i (L.length + 1)]) := by
 unfold Rep.take
 rw [if_neg (by show ¬ (3 : Int) = 1; decide),if_neg (by show ¬ (3 : Int) = 2; decide),if_pos (show (ackMsg (i + 1) (L.length + 1)).kind = 3 from rfl)]
 unfold Rep.takeAck
 have hl : (qrep n L e n (i + 1) i).log = L ++ [e] := if_pos (by omega)
 have hc : (qrep n L e n (i + 1) i).commit = L.length := if_neg (by omega)
 have hp : nextOf (qrep n L e n (i + 1) i).mems (i : Int) = some ((i + 1 : Nat) : Int) := by
  show nextOf (firstInts n) _ = _
  rw [next_first h1 (by omega),if_pos hi]
 have hpos : (ackMsg (i + 1) (L.length + 1)).pos = ((L.length + 1 : Nat) : Int) := rfl
 rw [if_pos ⟨qlive (by omega),hp,rfl,by rw [hc,hpos]; omega,by rw [hl,hpos]; simp⟩,hpos,Int.toNat_natCast]
 have e2 : ({ qrep n L e n (i + 1) i with commit := L.length + 1 } : Rep) = qrep n L e n i i := by
  rw [qrep_eq,qrep_eq,if_pos (by omega : i < n),if_pos (Nat.le_refl i)]
 rw [e2]
 refine Prod.ext rfl ?_
 show (qrep n L e n i i).acks (i : Int) = _
 unfold Rep.acks
 have hm : (qrep n L e n i i).mems = firstInts n := rfl
 rw [hm,prev_first h1 (by omega)]
 by_cases h0 : i = 0
 ·simp only [if_pos h0]
 ·simp only [if_neg h0]
  unfold ackMsg
  have : (qrep n L e n i i).commit = L.length + 1 := if_pos (Nat.le_refl _)
  rw [this]
  rfl
def delivers : Nat → Clu → Clu
 | 0,c => c
 | k + 1,c => delivers k (c.deliver 0).1
theorem delivers_add (a b : Nat) (c : Clu) : delivers (a + b) c = delivers b (delivers a c) := by
 induction a generalizing c with
 | zero => rw [Nat.zero_add]; rfl
 | succ a ih => rw [Nat.add_right_comm]; exact ih _
def Leads (c : Clu) (C : Nat) (Q : Clu → Prop) (k : Nat) : Prop :=
 Q (delivers k c) ∧ (∀ j,j < k → (delivers j c).bag.length ≠ 0) ∧ ∀ j,j ≤ k → ∀ x ∈ (delivers j c).reps,x.commit ≤ C
theorem Leads.step {c : Clu} {C k : Nat} {Q : Clu → Prop} (hb : c.bag.length ≠ 0) (hc : ∀ x ∈ c.reps,x.commit ≤ C) (h : Leads (c.deliver 0).1 C Q k) : Leads c C Q (k + 1) := by
 refine ⟨h.1, ?_, ?_⟩
 ·intro j hj
  cases j with
  | zero => exact hb
  | succ j => exact h.2.1 j (by omega)
 ·intro j hj
  cases j with
  | zero => exact hc
  | succ j => exact h.2.2 j (by omega)
theorem Leads.here {c : Clu} {C : Nat} {Q : Clu → Prop} (hq : Q c) (hc : ∀ x ∈ c.reps,x.commit ≤ C) : Leads c C Q 0 :=
 ⟨hq,fun j hj => (by omega),fun j hj => by
  have : j = 0 := by omega
  subst this
  exact hc⟩
theorem QS.commits {c : Clu} {n : Nat} {L : List Ent} {e : Ent} {a b : Nat} {ms : List Msg} {t : List Ans} (h : QS c n L e a b ms t) : ∀ x ∈ c.reps,x.commit ≤ L.length + 1 := by
 intro x hx
 rw [h.reps] at hx
 unfold qreps at hx
 simp only [List.mem_map] at hx
 obtain ⟨i,_,rfl⟩ := hx
 show (if b ≤ i then L.length + 1 else L.length) ≤ L.length + 1
 split <;> omega
theorem QS.bagNe {c : Clu} {n : Nat} {L : List Ent} {e : Ent} {a b : Nat} {m : Msg} {ms : List Msg} {t : List Ans} (h : QS c n L e a b (m :: ms) t) : c.bag.length ≠ 0 := by
 rw [h.bag]; unfold framesOf; simp
structure QOk (n : Nat) (L : List Ent) (e : Ent) : Prop where
 n1 : 1 ≤ n
 n5 : n ≤ 5
 len : L.length < 24
 ok : entsOk (L ++ [e])
theorem QOk.ent {n : Nat} {L : List Ent} {e : Ent} (h : QOk n L e) : e.ok = true := h.ok.2 e (by simp)
theorem fwd_ok {n : Nat} {L : List Ent} {e : Ent} (h : QOk n L e) {i : Nat} (hi : i + 1 < n) : (fwdMsg i L.length e).ok = true := by
 have hw : RepWF n 0 (qrep n L e (i + 1) n i) := ⟨⟨Int.le_refl _,Int.le_refl _⟩,⟨Int.le_refl _,Int.le_refl _⟩,firstInts_ok n h.n1,by rw [qrep_eq,if_pos (by omega)]; exact h.ok,Nat.zero_le _,by rw [qrep_eq,if_pos (by omega),if_neg (by omega)]; simp,Nat.zero_le _⟩
 have := forward_wf hw h.n5 (own := (i : Int)) ⟨by omega,by have := h.n5; omega⟩ (nx := ((i + 1 : Nat) : Int)) (mem_firstInts (by omega) (by omega)) (p := L.length) (by rw [qrep_eq,if_pos (by omega)]; simp)
 have e2 : (qrep n L e (i + 1) n i).forward (i : Int) ((i + 1 : Nat) : Int) L.length = fwdMsg i L.length e := by
  unfold Rep.forward fwdMsg
  rw [qrep_eq,if_pos (by omega)]
  simp only [snoc_at]
 rw [e2] at this
 exact this.ok h.n5 (by omega)
theorem ack_ok {n : Nat} {L : List Ent} {e : Ent} (h : QOk n L e) {i : Nat} (hi : i < n) : (ackMsg i (L.length + 1)).ok = true := by
 have h5 := h.n5
 have hl := h.len
 have : MsgWF n 0 (ackMsg i (L.length + 1)) := ⟨by show (1 : Int) ≤ 3 ∧ (3 : Int) ≤ 16; omega,by show (0 : Int) ≤ (i : Int) ∧ (i : Int) ≤ 303; omega,by show (0 : Int) ≤ ((i - 1 : Nat) : Int) ∧ ((i - 1 : Nat) : Int) ≤ 303; omega,by show (0 : Int) ≤ 0 ∧ (0 : Int) ≤ 0; omega,by show (0 : Int) ≤ 0 ∧ (0 : Int) ≤ 2001; omega,by show (-1 : Int) ≤ 0 ∧ (0 : Int) ≤ 2001; omega,
   by show (0 : Int) ≤ ((L.length + 1 : Nat) : Int) ∧ ((L.length + 1 : Nat) : Int) ≤ 999; omega,by show (-1 : Int) ≤ 0 ∧ (0 : Int) ≤ 999; omega, .inl rfl,entsOk_nil,
   by intro q; exact absurd q (by show ¬ ((3 : Int) = 6 ∨ (3 : Int) = 11 ∨ (3 : Int) = 13 ∨ (3 : Int) = 15 ∨ ((3 : Int) = 10 ∧ _)); omega),by intro q; exact absurd q (by show ¬ ((3 : Int) = 1 ∨ (3 : Int) = 2); omega)⟩
 exact this.ok h.n5 (by omega)
theorem rep_ok {n : Nat} {L : List Ent} {e : Ent} (h : QOk n L e) : (repMsg n L e).ok = true := by
 have hw : RepWF n 0 (qrep n L e n 0 (n - 1)) := ⟨⟨Int.le_refl _,Int.le_refl _⟩,⟨Int.le_refl _,Int.le_refl _⟩,firstInts_ok n h.n1,by have := h.n1; rw [qrep_eq,if_pos (by omega)]; exact h.ok,Nat.zero_le _,by have := h.n1; rw [qrep_eq,if_pos (by omega),if_pos (by omega)]; simp,Nat.zero_le _⟩
 have := reply_wf hw (Int.le_refl _) (own := ((n - 1 : Nat) : Int)) ⟨by omega,by have := h.n5; omega⟩ (p := L.length) (by have := h.n1; rw [qrep_eq,if_pos (by omega)]; simp)
 have e2 : (qrep n L e n 0 (n - 1)).reply ((n - 1 : Nat) : Int) L.length = repMsg n L e := by
  have := h.n1
  unfold Rep.reply repMsg
  rw [qrep_eq,if_pos (by omega)]
  simp only [snoc_at]
 rw [e2] at this
 exact this.ok h.n5 (by omega)
theorem req_ok {n : Nat} {L : List Ent} {e : Ent} (h : QOk n L e) {src : Int} (hs : 0 ≤ src ∧ src ≤ 303) {i : Nat} (hi : i < n) : (reqMsg src i e).ok = true :=
 (request_wf (n := n) (E := 0) h.ent (Int.le_refl _) hs ⟨by omega,by have := h.n5; omega⟩).ok h.n5 (by omega)
theorem QS.ups {n : Nat} {L : List Ent} {e : Ent} (ho : QOk n L e) : ∀ (i : Nat) {c : Clu} {t : List Ans},i + 1 < n → QS c n L e n (i + 1) [ackMsg (i + 1) (L.length + 1)] t → Leads c (L.length + 1) (fun c' => QS c' n L e n 0 [] t) (i + 1) := by
 intro i
 induction i with
 | zero =>
  intro c t hi h
  refine Leads.step h.bagNe h.commits (Leads.here ?_ ?_)
  all_goals
   have := h.take (i := 0) (by omega) ho.n5 rfl (qtake_ack ho.n1 hi) (fun j hj hne => by rw [qrep_eq,qrep_eq]; congr 1; simp; omega) (by intro x hx; simp at hx) (by simp)
   first | exact this | exact this.commits
 | succ i ih =>
  intro c t hi h
  refine Leads.step h.bagNe h.commits (ih (by omega) ?_)
  have := h.take (i := i + 1) (by omega) ho.n5 rfl (qtake_ack ho.n1 hi) (fun j hj hne => by
   rw [qrep_eq,qrep_eq]
   congr 1
   by_cases q : i + 1 + 1 ≤ j
   ·rw [if_pos q,if_pos (by omega)]
   ·rw [if_neg q,if_neg (by omega)]) (by intro x hx; simp at hx; subst hx; exact ack_ok ho (by omega)) (by simp)
  simpa using this
theorem QS.tail {n : Nat} {L : List Ent} {e : Ent} (ho : QOk n L e) {c : Clu} {t : List Ans} (h : QS c n L e n (n - 1) (repMsg n L e :: (if n - 1 = 0 then [] else [ackMsg (n - 1) (L.length + 1)])) t) :
  ∃ k,k ≤ 6 ∧ Leads c (L.length + 1) (fun c' => QS c' n L e n 0 [] (t ++ [⟨e.client,e.seq,answerAt (L ++ [e]) L.length⟩])) k := by
 have h1 := ho.n1
 have h5 := ho.n5
 have hb := ent_bounds ho.ent
 have hd : 300 ≤ (repMsg n L e).dst ∧ (repMsg n L e).dst ≤ 303 := by show 300 ≤ 300 + e.client ∧ 300 + e.client ≤ 303; omega
 have hr := h.reply h5 rfl hd (by split <;> simp)
 have ea : (⟨(repMsg n L e).dst - 300,(repMsg n L e).pos,(repMsg n L e).value⟩ : Ans) = ⟨e.client,e.seq,answerAt (L ++ [e]) L.length⟩ := by
  show (⟨300 + e.client - 300,_,_⟩ : Ans) = _
  rw [show (300 : Int) + e.client - 300 = e.client by omega]
  rfl
 rw [ea] at hr
 by_cases h0 : n - 1 = 0
 ·rw [if_pos h0] at hr
  rw [h0] at hr
  exact ⟨1,by omega,Leads.step h.bagNe h.commits (Leads.here hr hr.commits)⟩
 ·rw [if_neg h0] at hr
  have e1 : n - 1 = (n - 2) + 1 := by omega
  have hr' : QS (c.deliver 0).1 n L e n (n - 2 + 1) [ackMsg (n - 2 + 1) (L.length + 1)] (t ++ [⟨e.client,e.seq,answerAt (L ++ [e]) L.length⟩]) := by rw [← e1]; exact hr
  exact ⟨n - 2 + 1 + 1,by omega,Leads.step h.bagNe h.commits (QS.ups ho (n - 2) (by omega) hr')⟩
theorem qput_out {n : Nat} {L : List Ent} {e : Ent} (ho : QOk n L e) {i : Nat} (hi : i < n) : ∃ a' b' out,(qrep n L e i n i).put (i : Int) e = (qrep n L e a' b' i,out) ∧ (∀ x ∈ out,x.ok = true) ∧ out.length ≤ 2 ∧ (∀ j,j < n → j ≠ i → qrep n L e i n j = qrep n L e a' b' j) ∧
  ((i + 1 < n ∧ a' = i + 1 ∧ b' = n ∧ out = [fwdMsg i L.length e]) ∨ (i = n - 1 ∧ a' = n ∧ b' = n - 1 ∧ out = repMsg n L e :: (if n - 1 = 0 then [] else [ackMsg (n - 1) (L.length + 1)]))) := by
 have h1 := ho.n1
 rw [qput h1 hi]
 by_cases hlt : i + 1 < n
 ·refine ⟨i + 1,n, [fwdMsg i L.length e],by rw [if_pos hlt], ?_,by simp, ?_, .inl ⟨hlt,rfl,rfl,rfl⟩⟩
  ·intro x hx
   rw [List.mem_singleton] at hx
   subst hx
   exact fwd_ok ho hlt
  ·intro j hj hne
   rw [qrep_eq,qrep_eq]
   congr 1
   by_cases q : j < i
   ·rw [if_pos q,if_pos (by omega)]
   ·rw [if_neg q,if_neg (by omega)]
 ·have hin : i = n - 1 := by omega
  refine ⟨n,n - 1,repMsg n L e :: (if n - 1 = 0 then [] else [ackMsg (n - 1) (L.length + 1)]),by rw [if_neg hlt,hin], ?_,by split <;> simp, ?_, .inr ⟨hin,rfl,rfl,rfl⟩⟩
  ·intro x hx
   rcases List.mem_cons.1 hx with q | q
   ·rw [q]; exact rep_ok ho
   ·split at q
    ·cases q
    ·rw [List.mem_singleton] at q
     subst q
     exact ack_ok ho (by omega)
  ·intro j hj hne
   rw [qrep_eq,qrep_eq]
   congr 1
   ·rw [if_pos (by omega),if_pos hj]
   ·rw [if_neg (by omega),if_neg (by omega)]
theorem QS.downs {n : Nat} {L : List Ent} {e : Ent} (ho : QOk n L e) : ∀ (d i : Nat) {c : Clu} {t : List Ans},i + 1 < n → n ≤ i + 2 + d → QS c n L e (i + 1) n [fwdMsg i L.length e] t →
  ∃ k,k ≤ 7 + d ∧ Leads c (L.length + 1) (fun c' => QS c' n L e n 0 [] (t ++ [⟨e.client,e.seq,answerAt (L ++ [e]) L.length⟩])) k := by
 intro d
 induction d with
 | zero =>
  intro i c t hi hn h
  obtain ⟨a',b',out,p1,p2,p3,p4,p5⟩ := qput_out ho (i := i + 1) hi
  have hs := h.take (i := i + 1) hi ho.n5 rfl ((qtake_fwd ho.n1 hi ho.len).trans p1) p4 p2 (by simp; omega)
  rcases p5 with ⟨q,_⟩ | ⟨q,rfl,rfl,rfl⟩
  ·omega
  ·obtain ⟨k,k1,k2⟩ := QS.tail ho (by simpa using hs)
   exact ⟨k + 1,by omega,Leads.step h.bagNe h.commits k2⟩
 | succ d ih =>
  intro i c t hi hn h
  obtain ⟨a',b',out,p1,p2,p3,p4,p5⟩ := qput_out ho (i := i + 1) hi
  have hs := h.take (i := i + 1) hi ho.n5 rfl ((qtake_fwd ho.n1 hi ho.len).trans p1) p4 p2 (by simp; omega)
  rcases p5 with ⟨q,rfl,rfl,rfl⟩ | ⟨q,rfl,rfl,rfl⟩
  ·obtain ⟨k,k1,k2⟩ := ih (i + 1) q (by omega) (by simpa using hs)
   exact ⟨k + 1,by omega,Leads.step h.bagNe h.commits k2⟩
  ·obtain ⟨k,k1,k2⟩ := QS.tail ho (by simpa using hs)
   exact ⟨k + 1,by omega,Leads.step h.bagNe h.commits k2⟩
theorem QS.atHead {n : Nat} {L : List Ent} {e : Ent} (ho : QOk n L e) (hno : L.any (isReq e) = false) (hla : L.any (isLater e) = false) {c : Clu} {t : List Ans} (src : Int) (h : QS c n L e 0 n [reqMsg src 0 e] t) :
  ∃ k,k ≤ 20 ∧ Leads c (L.length + 1) (fun c' => QS c' n L e n 0 [] (t ++ [⟨e.client,e.seq,answerAt (L ++ [e]) L.length⟩])) k := by
 have h1 := ho.n1
 have h5 := ho.n5
 obtain ⟨a',b',out,p1,p2,p3,p4,p5⟩ := qput_out ho (i := 0) (by omega)
 have hs := h.take (i := 0) (by omega) h5 rfl ((qtake_head h1 src hno hla ho.len).trans p1) p4 p2 (by simp; omega)
 rcases p5 with ⟨q,rfl,rfl,rfl⟩ | ⟨q,rfl,rfl,rfl⟩
 ·obtain ⟨k,k1,k2⟩ := QS.downs ho 5 0 q (by omega) (by simpa using hs)
  exact ⟨k + 1,by omega,Leads.step h.bagNe h.commits k2⟩
 ·obtain ⟨k,k1,k2⟩ := QS.tail ho (by simpa using hs)
  exact ⟨k + 1,by omega,Leads.step h.bagNe h.commits k2⟩
theorem QS.asked {n : Nat} {L : List Ent} {e : Ent} (ho : QOk n L e) (hno : L.any (isReq e) = false) (hla : L.any (isLater e) = false) {c : Clu} {t : List Ans} {src : Int} {i : Nat} (hi : i < n) (h : QS c n L e 0 n [reqMsg src i e] t) :
  ∃ k,k ≤ 21 ∧ Leads c (L.length + 1) (fun c' => QS c' n L e n 0 [] (t ++ [⟨e.client,e.seq,answerAt (L ++ [e]) L.length⟩])) k := by
 by_cases h0 : i = 0
 ·subst h0
  obtain ⟨k,k1,k2⟩ := QS.atHead ho hno hla src h
  exact ⟨k,by omega,k2⟩
 ·have h5 := ho.n5
  have hs := h.take (i := i) hi h5 rfl (qtake_pass ho.n1 hi h0 src) (fun _ _ _ => rfl) (by intro x hx; rw [List.mem_singleton] at hx; subst hx; exact req_ok ho (by omega) (by omega)) (by simp)
  obtain ⟨k,k1,k2⟩ := QS.atHead ho hno hla (i : Int) (by simpa using hs)
  exact ⟨k + 1,by omega,Leads.step h.bagNe h.commits k2⟩
end Go.Proofs.YtgieeeeeiggoeaaGreat
