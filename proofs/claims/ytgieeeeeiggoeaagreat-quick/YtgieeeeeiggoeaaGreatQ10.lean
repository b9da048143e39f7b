import Derived.Test.YtgieeeeeiggoeaaGreatQ09
namespace Go.Proofs.YtgieeeeeiggoeaaGreat
theorem drain_run : ∀ (k K : Nat) {r : Run} {E : Int} {g : Gh} {C : Nat} {Q : Clu → Prop},RI r E g → k < K → Leads r.x C Q k → (delivers k r.x).bag.length = 0 → r.fixed.length ≤ C →
  ∃ E' g',RI (Run.drain K r) E' g' ∧ (Run.drain K r).x = delivers k r.x ∧ (Run.drain K r).wishes = r.wishes ∧ (Run.drain K r).n = r.n ∧ (Run.drain K r).fixed.length ≤ C ∧ (Run.drain K r).begun0 = r.begun0 ∧ (Run.drain K r).begun1 = r.begun1 ∧ r.fixed.length ≤ (Run.drain K r).fixed.length := by
 intro k
 induction k with
 | zero =>
  intro K r E g C Q h hK hl hb hf
  cases K with
  | zero => omega
  | succ K =>
   unfold Run.drain
   rw [if_pos (.inl hb)]
   exact ⟨E,g,h,rfl,rfl,rfl,hf,rfl,rfl,Nat.le_refl _⟩
 | succ k ih =>
  intro K r E g C Q h hK hl hb hf
  cases K with
  | zero => omega
  | succ K =>
   have f1 := h.mid.flags.1
   have hne : r.x.bag.length ≠ 0 := hl.2.1 0 (by omega)
   have hfr : r.x.hasFrame 0 := by unfold Clu.hasFrame; omega
   have hd : (r.x.deliver 0).2 = 0 := by
    unfold Clu.deliver
    rw [if_pos hfr]
    split <;> rfl
   unfold Run.drain
   rw [if_neg (by rintro (q | q); exact hne q; rw [f1] at q; cases q)]
   obtain ⟨E1,g1,hm⟩ := h.step (h.mid.good.deliver 0) (rel_deliver h.mid.good 0) r.begun0 r.begun1
   have hm' : Mid { r with x := (r.x.deliver 0).1,ok := r.ok && decide ((r.x.deliver 0).2 = 0) } E1 g1 := hm.okTrue (b := r.ok && decide ((r.x.deliver 0).2 = 0)) (by rw [f1,hd]; rfl)
   obtain ⟨l1,l2,l3,l4,l5,l6,l7,l8,l9,l10⟩ := hm'.look
   generalize hR : Run.look { r with x := (r.x.deliver 0).1,ok := r.ok && decide ((r.x.deliver 0).2 = 0) } = R at *
   have hx : R.x = (r.x.deliver 0).1 := l2
   have hL : Leads R.x C Q k := by
    rw [hx]
    refine ⟨hl.1,fun j hj => hl.2.1 (j + 1) (by omega),fun j hj => hl.2.2 (j + 1) (by omega)⟩
   have hfix : R.fixed.length ≤ C := by
    refine l9 C hf ?_
    intro i hi
    rw [rep_nat hi]
    exact hl.2.2 1 (by omega) _ (List.getElem_mem hi)
   obtain ⟨E2,g2,m1,m2,m3,m4,m5,m6,m7,m8⟩ := ih K (r := R) l1 (by omega) hL (by rw [hx]; exact hb) hfix
   refine ⟨E2,g2,m1,by rw [m2,hx]; rfl,by rw [m3]; exact l4,by rw [m4]; exact l3,m5,by rw [m6]; exact l6,by rw [m7]; exact l7,Nat.le_trans l8 m8⟩
structure QI (r : Run) (n : Nat) (L : List Ent) : Prop where
 n1 : 1 ≤ n
 n5 : n ≤ 5
 nn : r.n = n
 ri : ∃ E g,RI r E g
 qs : ∀ e, ∃ t,QS r.x n L e 0 n [] t ∧ t.length = L.length
 wish : r.wishes.map Wish.e = L
 ok : ∀ x ∈ L,x.ok = true
 seqs : ∀ x ∈ L,x.seq ≤ (lastWish x.client r.wishes).seq
 small : ∀ c,(lastWish c r.wishes).seq + 1 ≤ L.length
 fixed : r.fixed.length = L.length
theorem qreps_next (n : Nat) (L : List Ent) (e e' : Ent) : qreps n L e n 0 = qreps n (L ++ [e]) e' 0 n := by
 unfold qreps
 apply List.map_congr_left
 intro i hi
 rw [List.mem_range] at hi
 rw [qrep_eq,qrep_eq,if_pos hi,if_pos (Nat.zero_le i),if_neg (Nat.not_lt_zero i),if_neg (by omega)]
 simp
theorem lastWish_snoc (c : Int) (ws : List Wish) (w : Wish) : lastWish c (ws ++ [w]) = if w.e.client = c then w.e else lastWish c ws := by
 unfold lastWish
 rw [List.foldl_append]
 rfl
def Run.quick (r : Run) (o : KStep) : Run := Run.drain 5000 (r.ask (pickI o.N r.n) (r.entry { o with A := 0 }))
theorem QI.step {r : Run} {n : Nat} {L : List Ent} (h : QI r n L) (o : KStep) (hL : L.length ≤ 22) :
  ∃ e,QI (r.quick o) n (L ++ [e]) ∧ (r.quick o).last.length = n ∧ (∀ x ∈ (r.quick o).last,x.commit = L.length + 1 ∧ x.log.length = L.length + 1) ∧ (r.quick o).answers = L.length + 1 := by
 have h1 := h.n1
 have h5 := h.n5
 obtain ⟨E,g,hri⟩ := h.ri
 have hwok := hri.mid.wok
 have heok := entry_ok hwok { o with A := 0 }
 have hp := pickI_lt o.N r.n (by rw [h.nn]; omega)
 have hb := pickI_lt o.B 4 (by omega)
 have hent : ∃ e,r.entry { o with A := 0 } = e ∧ e.client = pickI o.B 4 ∧ e.seq = (lastWish (pickI o.B 4) r.wishes).seq + 1 := by
  refine ⟨_,rfl, ?_⟩
  have hs := h.small (pickI o.B 4)
  unfold Run.entry
  rw [if_neg]
  ·unfold nextEntry
   split <;> exact ⟨rfl,rfl⟩
  ·rintro ⟨_,q⟩
   rcases q with q | q
   ·exact q (show (0 : Int).tmod 2 = 0 by decide)
   ·have q' : 900 ≤ (lastWish (pickI o.B 4) r.wishes).seq := q
    omega
 obtain ⟨e,he,hec,hes⟩ := hent
 unfold Run.quick
 rw [he] at heok ⊢
 have hbig : ∀ x ∈ L,x.client = e.client → x.seq < e.seq := by
  intro x hx hc
  have := h.seqs x hx
  rw [hc,hec] at this
  omega
 have hno : L.any (isReq e) = false := by
  rw [List.any_eq_false]
  intro x hx q
  unfold isReq at q
  simp only [Bool.and_eq_true,decide_eq_true_eq] at q
  have := hbig x hx q.1
  omega
 have hla : L.any (isLater e) = false := by
  rw [List.any_eq_false]
  intro x hx q
  unfold isLater at q
  simp only [Bool.and_eq_true,decide_eq_true_eq] at q
  have := hbig x hx q.1
  omega
 have hq : QOk n L e := by
  refine ⟨h1,h5,by omega, ?_, ?_⟩
  ·simp; omega
  ·intro x hx
   rcases List.mem_append.1 hx with q | q
   ·exact h.ok x q
   ·rw [List.mem_singleton] at q; subst q; exact heok
 obtain ⟨t,hqs,ht⟩ := h.qs e
 have hd : r.x.isRep (pickI o.N r.n) := pick_rep hri.mid o.N
 have hri2 := hri.ask' (pickI o.N r.n) e hd heok
 have hx2 : (r.ask (pickI o.N r.n) e).x = r.x.send [{ kind := 1,src := 300 + e.client,dst := pickI o.N r.n,log := [e] }] := by
  show (r.x.ask (pickI o.N r.n) e).1 = _
  unfold Clu.ask
  rw [if_neg (fun q => q hd),if_neg (by rw [heok]; exact Bool.noConfusion)]
 have heb := ent_bounds heok
 have hpn : ((pickI o.N r.n).toNat : Int) = pickI o.N r.n := by omega
 have hmsg : (reqMsg (300 + e.client) (pickI o.N r.n).toNat e) = { kind := 1,src := 300 + e.client,dst := pickI o.N r.n,log := [e] } := by
  unfold reqMsg
  rw [hpn]
 have hqs2 : QS (r.ask (pickI o.N r.n) e).x n L e 0 n [reqMsg (300 + e.client) (pickI o.N r.n).toNat e] t := by
  rw [hx2,hmsg]
  refine ⟨hqs.reps, ?_, ?_,hqs.told,hqs.oth⟩
  ·show (r.x.bag ++ _).take 200 = _
   rw [hqs.bag]
   rfl
  ·intro m hm
   rw [List.mem_singleton] at hm
   subst hm
   rw [← hmsg]
   exact req_ok hq (by omega) (by have e1 := h.nn; omega)
 have hpi : (pickI o.N r.n).toNat < n := by
  have e1 := h.nn
  omega
 obtain ⟨k,k1,k2⟩ := hqs2.asked hq hno hla hpi
 have hfin := k2.1
 have hfix2 : (r.ask (pickI o.N r.n) e).fixed.length ≤ L.length + 1 := by show r.fixed.length ≤ _; rw [h.fixed]; omega
 obtain ⟨E',g',m1,m2,m3,m4,m5,m6,m7,m8⟩ := drain_run k 5000 hri2 (by omega) k2 (by rw [hfin.bag]; rfl) hfix2
 generalize hD : Run.drain 5000 (r.ask (pickI o.N r.n) e) = D at *
 have hDx : QS D.x n L e n 0 [] (t ++ [⟨e.client,e.seq,answerAt (L ++ [e]) L.length⟩]) := by rw [m2]; exact hfin
 have hnew : (r.wishes.any fun w => decide (w.e = e)) = false := by
  rw [List.any_eq_false]
  intro w hw q
  have hwe : w.e = e := by simpa using q
  have : w.e ∈ L := by rw [← h.wish]; exact List.mem_map_of_mem hw
  rw [hwe] at this
  have := hbig e this rfl
  omega
 have hws : D.wishes = r.wishes ++ [⟨e,r.top⟩] := by
  rw [m3]
  show (if _ then _ else _) = _
  rw [if_neg (by rw [hnew]; exact Bool.noConfusion)]
 have hrep : D.last = qreps n L e n 0 := by rw [m1.last]; exact hDx.reps
 have hseen : L.length + 1 ≤ D.fixed.length := by
  have hn0 : (0 : Int) < g'.n := by have := m1.mid.good.nodes.n; have := m1.mid.good.nodes.n1; omega
  have hc := (m1.mid.good.nodes.inv.rep (i := 0) (Int.le_refl _) hn0).2.2.1
  have hr0 : (stOf D.x).R 0 = qrep n L e n 0 0 := by
   have e0 := hDx.rep (i := 0) (by omega)
   have e1 := stOf_R (hDx.isRep (i := 0) (by omega))
   exact e1.trans e0
  rw [hr0,qrep_eq,if_pos (Nat.le_refl 0)] at hc
  exact Nat.le_trans hc m1.seen
 refine ⟨e, ?_,by rw [hrep,qreps_len], ?_, ?_⟩
 ·exact
   {n1 := h1,n5 := h5,nn := by rw [m4]; exact h.nn
    ri := ⟨E',g',m1⟩
    qs := by
     intro e'
     refine ⟨_,⟨by rw [hDx.reps]; exact qreps_next n L e e',hDx.bag,hDx.oks,hDx.told,hDx.oth⟩,by rw [List.length_append,List.length_append,ht]; rfl⟩
    wish := by rw [hws,List.map_append,h.wish]; rfl
    ok := hq.ok.2
    seqs := by
     intro x hx
     rw [hws,lastWish_snoc]
     rcases List.mem_append.1 hx with q | q
     ·split
      ·rename_i hc
       have := hbig x q hc.symm
       show x.seq ≤ e.seq
       omega
      ·exact h.seqs x q
     ·rw [List.mem_singleton] at q
      subst q
      rw [if_pos rfl]
      exact Int.le_refl _
    small := by
     intro c
     rw [hws,lastWish_snoc,List.length_append,List.length_singleton]
     split
     ·show e.seq + 1 ≤ _
      have := h.small (pickI o.B 4)
      omega
     ·have := h.small c
      omega
    fixed := by rw [List.length_append,List.length_singleton]; omega }
 ·intro x hx
  rw [hrep] at hx
  unfold qreps at hx
  simp only [List.mem_map,List.mem_range] at hx
  obtain ⟨i,hi,rfl⟩ := hx
  rw [qrep_eq,if_pos hi,if_pos (Nat.zero_le i)]
  exact ⟨rfl,by simp⟩
 ·rw [m1.ans,hDx.told,List.length_append,ht]
  rfl
theorem first_look (n : Nat) (h : 1 ≤ n) (h5 : n ≤ 5) : RI ((Run.first n).look) 0 (Gh.first n) ∧ ((Run.first n).look).x = Clu.first n ∧ ((Run.first n).look).n = n ∧ ((Run.first n).look).wishes = [] ∧ ((Run.first n).look).fixed.length = 0 ∧ ((Run.first n).look).top = -1 ∧ ((Run.first n).look).begun0 = 0 ∧ ((Run.first n).look).begun1 = 0 := by
 obtain ⟨l1,l2,l3,l4,l5,l6,l7,l8,l9,l10⟩ := (first_mid n h h5).look
 have hf : ((Run.first n).look).fixed.length = 0 := by
  have := l9 0 (Nat.le_refl _) (by
   intro i hi
   have hn : (Clu.first n).reps.length = n := by unfold Clu.first; simp
   have hi' : i < n := by
    have : i < (Clu.first n).reps.length := hi
    omega
   show ((Clu.first n).rep i).commit ≤ 0
   rw [first_rep (by omega) (by omega)]
   exact Nat.le_refl _)
  omega
 refine ⟨l1,l2,l3,l4,hf, ?_,l6,l7⟩
 have h1 := l1.mid.top.1
 have h2 := l1.mid.top.2
 rw [hf] at h2
 omega
theorem first_qreps (n : Nat) (e : Ent) : (Clu.first n).reps = qreps n [] e 0 n := by
 unfold Clu.first qreps
 apply List.ext_getElem?
 intro i
 by_cases hi : i < n
 ·rw [List.getElem?_replicate,if_pos hi,List.getElem?_map,List.getElem?_range hi]
  show some (Rep.first n) = some (qrep n [] e 0 n i)
  rw [qrep_eq,if_neg (Nat.not_lt_zero i),if_neg (by omega)]
  rfl
 ·rw [List.getElem?_eq_none (by simp; omega),List.getElem?_eq_none (by simp; omega)]
theorem begin_QI (n : Nat) (h : 1 ≤ n) (h5 : n ≤ 5) : QI (Run.begin n) n [firstEntry] ∧ (Run.begin n).begun0 = 0 ∧ (Run.begin n).begun1 = 0 := by
 obtain ⟨f1,f2,f3,f4,f5,f6,f7,f8⟩ := first_look n h h5
 unfold Run.begin
 generalize (Run.first n).look = r at *
 have hok : firstEntry.ok = true := rfl
 have hd : r.x.isRep 0 := by rw [f2]; exact first_isRep.2 ⟨Int.le_refl _,by omega⟩
 have hri2 := f1.ask' 0 firstEntry hd hok
 have hx2 : (r.ask 0 firstEntry).x = r.x.send [{ kind := 1,src := 300 + firstEntry.client,dst := 0,log := [firstEntry] }] := by
  show (r.x.ask 0 firstEntry).1 = _
  unfold Clu.ask
  rw [if_neg (fun q => q hd),if_neg (by rw [hok]; exact Bool.noConfusion)]
 have hq : QOk n [] firstEntry := ⟨h,h5,by decide,by decide,by intro x hx; simp at hx; subst hx; rfl⟩
 have hqs2 : QS (r.ask 0 firstEntry).x n [] firstEntry 0 n [reqMsg (300 + firstEntry.client) 0 firstEntry] [] := by
  rw [hx2,f2]
  refine ⟨first_qreps n firstEntry,rfl, ?_,rfl,rfl,rfl⟩
  intro m hm
  rw [List.mem_singleton] at hm
  subst hm
  exact req_ok hq (by decide) (by omega)
 obtain ⟨k,k1,k2⟩ := hqs2.asked hq rfl rfl (by omega)
 have hfin := k2.1
 obtain ⟨E',g',m1,m2,m3,m4,m5,m6,m7,m8⟩ := drain_run k 5000 hri2 (by omega) k2 (by rw [hfin.bag]; rfl) (by show r.fixed.length ≤ _; rw [f5]; exact Nat.zero_le _)
 generalize hD : Run.drain 5000 (r.ask 0 firstEntry) = D at *
 have hDx : QS D.x n [] firstEntry n 0 [] [⟨0,0,answerAt [firstEntry] 0⟩] := by rw [m2]; exact hfin
 have hws : D.wishes = [⟨firstEntry, -1⟩] := by
  rw [m3]
  show (if r.wishes.any _ then _ else r.wishes ++ [⟨firstEntry,r.top⟩]) = _
  rw [f4,f6]
  rfl
 have hseen : 1 ≤ D.fixed.length := by
  have hn0 : (0 : Int) < g'.n := by have := m1.mid.good.nodes.n; have := m1.mid.good.nodes.n1; omega
  have hc := (m1.mid.good.nodes.inv.rep (i := 0) (Int.le_refl _) hn0).2.2.1
  have hr0 : (stOf D.x).R 0 = qrep n [] firstEntry n 0 0 := (stOf_R (hDx.isRep (i := 0) (by omega))).trans (hDx.rep (i := 0) (by omega))
  rw [hr0,qrep_eq,if_pos (Nat.le_refl 0)] at hc
  exact Nat.le_trans hc m1.seen
 have hm5 : D.fixed.length ≤ 1 := m5
 refine ⟨?_,by rw [m6]; exact f7,by rw [m7]; exact f8⟩
 exact
  {n1 := h,n5 := h5,nn := by rw [m4]; exact f3,ri := ⟨E',g',m1⟩
   qs := fun e => ⟨_,⟨by rw [hDx.reps]; exact qreps_next n [] firstEntry e,hDx.bag,hDx.oks,hDx.told,hDx.oth⟩,rfl⟩
   wish := by rw [hws]; rfl
   ok := by intro x hx; rw [List.mem_singleton] at hx; subst hx; rfl
   seqs := by intro x hx; rw [List.mem_singleton] at hx; subst hx; rw [hws]; decide
   small := by
    intro c
    rw [hws]
    unfold lastWish
    simp only [List.foldl_cons,List.foldl_nil]
    split
    ·decide
    ·show (-1 : Int) + 1 ≤ _; decide
   fixed := by show D.fixed.length = 1; omega }
theorem idx_at {l : List Int} (hnd : l.Nodup) {i : Nat} {x : Int} (h : l[i]? = some x) : l.idxOf x = i := by
 obtain ⟨a,b⟩ := List.getElem?_eq_some_iff.1 h
 have := hnd.idxOf_getElem i a
 rw [b] at this
 exact this
theorem next_mem_at {l : List Int} (hnd : l.Nodup) {i : Nat} {x : Int} (h : l[i]? = some x) : nextOf l x = l[i + 1]? := by
 unfold nextOf
 rw [idx_at hnd h]
theorem prev_mem_at {l : List Int} (hnd : l.Nodup) {i : Nat} {x : Int} (h : l[i]? = some x) : prevOf l x = if i = 0 then none else l[i - 1]? := by
 unfold prevOf
 rw [idx_at hnd h]
 have := (List.getElem?_eq_some_iff.1 h).1
 split
 ·rfl
 ·rfl
structure CP where
 mem : List Int
 ep : Int
 lk : Int
 base : Nat
 L : List Ent
 e : Ent
def CP.rep (p : CP) (a b j : Nat) : Rep := ⟨true,p.ep,p.lk,p.mem,if j < a then p.L ++ [p.e] else p.L,p.base,if b ≤ j then p.L.length + 1 else p.L.length⟩
structure CP.Ok (p : CP) (n : Nat) : Prop where
 n5 : n ≤ 5
 mem : memsOk p.mem n = true
 live : p.lk ≤ p.ep
 ep : 0 ≤ p.ep ∧ p.ep ≤ 2000
 lk : 0 ≤ p.lk
 base : p.base ≤ p.L.length
 len : p.L.length < 24
 ents : entsOk (p.L ++ [p.e])
theorem CP.Ok.nd {p : CP} {n : Nat} (h : p.Ok n) : p.mem.Nodup := ((memsOk_iff _ _).1 h.mem).2.1
theorem CP.Ok.range {p : CP} {n : Nat} (h : p.Ok n) {x : Int} (hx : x ∈ p.mem) : 0 ≤ x ∧ x < n := ((memsOk_iff _ _).1 h.mem).1 x hx
theorem CP.Ok.ent {p : CP} {n : Nat} (h : p.Ok n) : p.e.ok = true := h.ents.2 p.e (by simp)
theorem CP.Ok.wf {p : CP} {n : Nat} (h : p.Ok n) (a b j : Nat) (hab : b ≤ j → j < a) : RepWF n 2000 (p.rep a b j) := by
 refine ⟨h.ep,⟨h.lk,Int.le_trans h.live h.ep.2⟩,h.mem, ?_, ?_, ?_, ?_⟩
 ·show entsOk (if j < a then p.L ++ [p.e] else p.L)
  split
  ·exact h.ents
  ·exact ⟨by have := h.len; omega,fun x hx => h.ents.2 x (List.mem_append_left _ hx)⟩
 ·show p.base ≤ (if j < a then p.L ++ [p.e] else p.L).length
  have := h.base
  split <;> simp <;> omega
 ·show (if b ≤ j then p.L.length + 1 else p.L.length) ≤ (if j < a then p.L ++ [p.e] else p.L).length
  by_cases q : b ≤ j
  ·rw [if_pos q,if_pos (hab q)]; simp
  ·rw [if_neg q]; split <;> simp
 ·show p.base ≤ (if b ≤ j then p.L.length + 1 else p.L.length)
  have := h.base
  split <;> omega
structure CS (p : CP) (n : Nat) (c : Clu) (a b : Nat) (ms : List Msg) (told : List Ans) : Prop where
 len : c.reps.length = n
 reps : ∀ (j : Nat) (x : Int),p.mem[j]? = some x → c.rep x = p.rep a b j
 rest : ∀ x ∈ c.reps,x.commit ≤ p.L.length + 1
 bag : c.bag = framesOf ms
 oks : ∀ m ∈ ms,m.ok = true
 told : c.told = told
theorem CS.isRep {p : CP} {n : Nat} (ho : p.Ok n) {c : Clu} {a b : Nat} {ms : List Msg} {t : List Ans} (h : CS p n c a b ms t) {j : Nat} {x : Int} (hx : p.mem[j]? = some x) : c.isRep x := by
 have := ho.range (List.mem_of_getElem? hx)
 unfold Clu.isRep
 rw [h.len]; exact this
theorem CS.first {p : CP} {n : Nat} {c : Clu} {a b : Nat} {m : Msg} {ms : List Msg} {t : List Ans} (h : CS p n c a b (m :: ms) t) : (c.deliver 0).1 = ({ c with bag := framesOf ms }).arrive m := by
 have hb := h.bag
 have hb2 : framesOf (m :: ms) = (m.frame,false) :: framesOf ms := rfl
 rw [hb2] at hb
 have hf : c.hasFrame 0 := by unfold Clu.hasFrame; rw [hb]; simp only [List.length_cons]; omega
 have hfa : c.frameAt 0 = (m.frame,false) := by unfold Clu.frameAt; rw [hb]; rfl
 have hg : c.gone 0 = { c with bag := framesOf ms } := by unfold Clu.gone; rw [hb]; rfl
 unfold Clu.deliver
 rw [if_pos hf,hfa]
 simp only []
 rw [msgOf_frame m (h.oks m List.mem_cons_self)]
 simp only []
 rw [hg]
theorem CS.take {p : CP} {n : Nat} (ho : p.Ok n) {c : Clu} {a b : Nat} {m : Msg} {ms : List Msg} {t : List Ans} (h : CS p n c a b (m :: ms) t) {i : Nat} {x : Int} (hx : p.mem[i]? = some x) (hd : m.dst = x) {a' b' : Nat} {out : List Msg}
  (ht : (p.rep a b i).take x m = (p.rep a' b' i,out)) (hs : ∀ (j : Nat) (y : Int),p.mem[j]? = some y → j ≠ i → p.rep a b j = p.rep a' b' j) (hout : ∀ x ∈ out,x.ok = true) (hl : ms.length + out.length ≤ 200) :
  CS p n (c.deliver 0).1 a' b' (ms ++ out) t := by
 rw [h.first]
 have hr := h.reps i x hx
 have hi1 := h.isRep ho hx
 have hrg := ho.range (List.mem_of_getElem? hx)
 have h5 := ho.n5
 unfold Clu.arrive
 have htell : ({ c with bag := framesOf ms } : Clu).tell m = { c with bag := framesOf ms } := by
  unfold Clu.tell
  rw [if_neg (by rw [hd]; omega)]
 rw [htell]
 have hi2 : ({ c with bag := framesOf ms } : Clu).isRep x := hi1
 have hup : ({ c with bag := framesOf ms } : Clu).upOf m.dst = some true := by
  unfold Clu.upOf
  rw [hd,if_pos hi2]
  show some (c.rep x).up = _
  rw [hr]; rfl
 unfold Clu.takes
 rw [if_pos hup,hd,if_pos hi2]
 have hr' : ({ c with bag := framesOf ms } : Clu).rep x = p.rep a b i := hr
 rw [hr',ht]
 refine ⟨?_, ?_, ?_, ?_, ?_,h.told⟩
 ·show (c.reps.set x.toNat _).length = n
  rw [List.length_set]; exact h.len
 ·intro j y hy
  have hyr := h.isRep ho hy
  have e1 : (({ c with bag := framesOf ms } : Clu).setRep x (p.rep a' b' i)).rep y = if y = x then p.rep a' b' i else c.rep y := rep_setRep hi2 hyr
  show (({ c with bag := framesOf ms } : Clu).setRep x (p.rep a' b' i)).rep y = _
  rw [e1]
  by_cases hyx : y = x
  ·subst hyx
   have := nodup_at ho.nd hy hx
   subst this
   rw [if_pos rfl]
  ·rw [if_neg hyx,h.reps j y hy]
   refine hs j y hy (fun e => hyx ?_)
   subst e
   rw [hx] at hy
   injection hy with hy
   exact hy.symm
 ·intro y hy
  rcases List.mem_or_eq_of_mem_set hy with q | q
  ·exact h.rest y q
  ·rw [q]
   show (if b' ≤ i then p.L.length + 1 else p.L.length) ≤ _
   split <;> omega
 ·show (framesOf ms ++ framesOf out).take 200 = framesOf (ms ++ out)
  unfold framesOf
  rw [← List.map_append,List.take_of_length_le]
  rw [List.length_map,List.length_append]; exact hl
 ·intro y hy
  rcases List.mem_append.1 hy with q | q
  ·exact h.oks y (List.mem_cons_of_mem _ q)
  ·exact hout y q
theorem CS.reply {p : CP} {n : Nat} (ho : p.Ok n) {c : Clu} {a b : Nat} {m : Msg} {ms : List Msg} {t : List Ans} (h : CS p n c a b (m :: ms) t) (hk : m.kind = 4) (hd : 300 ≤ m.dst ∧ m.dst ≤ 303) (hl : ms.length ≤ 200) :
  CS p n (c.deliver 0).1 a b ms (t ++ [⟨m.dst - 300,m.pos,m.value⟩]) := by
 have h5 := ho.n5
 rw [h.first]
 unfold Clu.arrive
 have htell : ({ c with bag := framesOf ms } : Clu).tell m = { c with bag := framesOf ms,told := c.told ++ [⟨m.dst - 300,m.pos,m.value⟩] } := by
  unfold Clu.tell
  rw [if_pos ⟨hk,hd⟩]
 rw [htell]
 have hup : ({ c with bag := framesOf ms,told := c.told ++ [⟨m.dst - 300,m.pos,m.value⟩] } : Clu).upOf m.dst = none := by
  unfold Clu.upOf
  rw [if_neg,if_neg,if_neg]
  ·unfold isMas; omega
  ·unfold isAcc; omega
  ·show ¬ (0 ≤ m.dst ∧ m.dst < c.reps.length)
   rw [h.len]; omega
 unfold Clu.takes
 rw [if_neg (by rw [hup]; exact fun q => by cases q)]
 refine ⟨h.len,h.reps,h.rest, ?_,fun x hx => h.oks x (List.mem_cons_of_mem _ hx), ?_⟩
 ·show (framesOf ms ++ []).take 200 = framesOf ms
  unfold framesOf
  rw [List.append_nil,List.take_of_length_le]
  rw [List.length_map]; exact hl
 ·show c.told ++ _ = _
  rw [h.told]
def CP.fwd (p : CP) (x y : Int) : Msg := { kind := 2,src := x,dst := y,epoch := p.ep,pos := (p.L.length : Int),log := [p.e] }
def CP.ack (p : CP) (x y : Int) : Msg := { kind := 3,src := x,dst := y,epoch := p.ep,pos := ((p.L.length + 1 : Nat) : Int) }
def CP.ans (p : CP) (x : Int) : Msg := { kind := 4,src := x,dst := 300 + p.e.client,pos := p.e.seq,value := answerAt (p.L ++ [p.e]) p.L.length }
theorem CP.live {p : CP} {n : Nat} (ho : p.Ok n) {a b i : Nat} {x : Int} (hx : p.mem[i]? = some x) : (p.rep a b i).live x = true := by
 rw [live_iff]
 exact ⟨List.mem_of_getElem? hx,ho.live⟩
theorem CP.fwd_ok {p : CP} {n : Nat} (ho : p.Ok n) {i : Nat} {x y : Int} (hx : p.mem[i]? = some x) (hy : p.mem[i + 1]? = some y) : (p.fwd x y).ok = true := by
 have h5 := ho.n5
 have hrx := ho.range (List.mem_of_getElem? hx)
 have hw := forward_wf (own := x) (ho.wf (i + 1) 100 i (fun q => by have := (List.getElem?_eq_some_iff.1 hx).1; have := memsOk_length ho.mem; omega)) h5 ⟨hrx.1,by omega⟩ (nx := y) (List.mem_of_getElem? hy) (p := p.L.length) (by show p.L.length < (if i < i + 1 then p.L ++ [p.e] else p.L).length; rw [if_pos (by omega)]; simp)
 have e2 : (p.rep (i + 1) 100 i).forward x y p.L.length = p.fwd x y := by
  unfold Rep.forward CP.fwd CP.rep
  simp only [if_pos (show i < i + 1 by omega),snoc_at]
 rw [e2] at hw
 exact hw.ok h5 (Int.le_refl _)
theorem CP.ack_ok {p : CP} {n : Nat} (ho : p.Ok n) {x y : Int} (hx : x ∈ p.mem) (hy : y ∈ p.mem) : (p.ack x y).ok = true := by
 have h5 := ho.n5
 have hl := ho.len
 have h1 := ho.range hx
 have h2 := ho.range hy
 have : MsgWF n 2000 (p.ack x y) := ⟨by show (1 : Int) ≤ 3 ∧ (3 : Int) ≤ 16; omega,by show (0 : Int) ≤ x ∧ x ≤ 303; omega,by show (0 : Int) ≤ y ∧ y ≤ 303; omega,ho.ep,by show (0 : Int) ≤ 0 ∧ (0 : Int) ≤ 2001; omega,by show (-1 : Int) ≤ 0 ∧ (0 : Int) ≤ 2001; omega,
   by show (0 : Int) ≤ ((p.L.length + 1 : Nat) : Int) ∧ ((p.L.length + 1 : Nat) : Int) ≤ 999; omega,by show (-1 : Int) ≤ 0 ∧ (0 : Int) ≤ 999; omega, .inl rfl,entsOk_nil,
   by intro q; exact absurd q (by show ¬ ((3 : Int) = 6 ∨ (3 : Int) = 11 ∨ (3 : Int) = 13 ∨ (3 : Int) = 15 ∨ ((3 : Int) = 10 ∧ _)); omega),by intro q; exact absurd q (by show ¬ ((3 : Int) = 1 ∨ (3 : Int) = 2); omega)⟩
 exact this.ok h5 (Int.le_refl _)
theorem CP.ans_ok {p : CP} {n : Nat} (ho : p.Ok n) {x : Int} (hx : x ∈ p.mem) : (p.ans x).ok = true := by
 have h5 := ho.n5
 have hrx := ho.range hx
 have hw := reply_wf (own := x) (ho.wf 1 0 0 (fun _ => by omega)) (by omega) ⟨hrx.1,by omega⟩ (p := p.L.length) (by show p.L.length < (if 0 < 1 then p.L ++ [p.e] else p.L).length; rw [if_pos (by omega)]; simp)
 have e2 : (p.rep 1 0 0).reply x p.L.length = p.ans x := by
  unfold Rep.reply CP.ans CP.rep
  simp only [if_pos (show 0 < 1 by omega),snoc_at]
 rw [e2] at hw
 exact hw.ok h5 (Int.le_refl _)
def CP.up (p : CP) (i : Nat) (x : Int) : List Msg := if i = 0 then [] else match p.mem[i - 1]? with
 | none => []
 | some y => [p.ack x y]
theorem CP.up_ok {p : CP} {n : Nat} (ho : p.Ok n) {i : Nat} {x : Int} (hx : p.mem[i]? = some x) : ∀ m ∈ p.up i x,m.ok = true := by
 intro m hm
 unfold CP.up at hm
 split at hm
 ·cases hm
 ·split at hm
  ·cases hm
  ·rename_i y hy
   rw [List.mem_singleton] at hm
   subst hm
   exact CP.ack_ok ho (List.mem_of_getElem? hx) (List.mem_of_getElem? hy)
theorem CP.up_len (p : CP) (i : Nat) (x : Int) : (p.up i x).length ≤ 1 := by
 unfold CP.up
 split
 ·simp
 ·split <;> simp
theorem CP.acks {p : CP} {n : Nat} (ho : p.Ok n) {a b i : Nat} (hb : b ≤ i) {x : Int} (hx : p.mem[i]? = some x) : (p.rep a b i).acks x = p.up i x := by
 unfold Rep.acks CP.up
 have hm : (p.rep a b i).mems = p.mem := rfl
 have hc : (p.rep a b i).commit = p.L.length + 1 := if_pos hb
 rw [hm,hc,prev_mem_at ho.nd hx]
 by_cases h0 : i = 0
 ·simp only [if_pos h0]
 ·simp only [if_neg h0]
  split <;> rename_i q <;> simp only [q]
  rfl
theorem CP.put {p : CP} {n : Nat} (ho : p.Ok n) {i : Nat} {x : Int} (hx : p.mem[i]? = some x) :
  (p.rep i 100 i).put x p.e = match p.mem[i + 1]? with
   | some y => (p.rep (i + 1) 100 i, [p.fwd x y])
   | none => (p.rep (i + 1) i i,p.ans x :: p.up i x) := by
 have hlt := (List.getElem?_eq_some_iff.1 hx).1
 have hml := memsOk_length ho.mem
 have h5 := ho.n5
 have e0 : p.rep i 100 i = ⟨true,p.ep,p.lk,p.mem,p.L,p.base,p.L.length⟩ := by
  unfold CP.rep; rw [if_neg (by omega),if_neg (by omega)]
 have hac := CP.acks ho (a := i + 1) (b := i) (Nat.le_refl i) hx
 rw [e0]
 unfold Rep.put
 simp only [next_mem_at ho.nd hx]
 split
 ·rename_i y hy
  simp only [hy]
  refine Prod.ext ?_ ?_
  ·show _ = p.rep (i + 1) 100 i
   unfold CP.rep; rw [if_pos (by omega),if_neg (by omega)]
  ·show [Rep.forward _ _ _ _] = [_]
   unfold Rep.forward CP.fwd
   simp only [snoc_at]
 ·rename_i hy
  simp only [hy]
  have e1 : p.rep (i + 1) i i = ⟨true,p.ep,p.lk,p.mem,p.L ++ [p.e],p.base,p.L.length + 1⟩ := by
   unfold CP.rep; rw [if_pos (by omega),if_pos (Nat.le_refl _)]
  rw [← hac,e1]
  unfold Rep.commitAll
  have hl : (p.L ++ [p.e]).length = p.L.length + 1 := by simp
  simp only [hl]
  refine Prod.ext rfl ?_
  simp only []
  have e3 : placesFrom p.L.length (p.L.length + 1) = [p.L.length] := by
   unfold placesFrom
   rw [Nat.add_sub_cancel_left]
   rfl
  rw [e3,List.map_singleton,List.singleton_append]
  congr 1
  unfold Rep.reply CP.ans
  simp only [snoc_at]
theorem CP.takeFwd {p : CP} {n : Nat} (ho : p.Ok n) {i : Nat} {x y : Int} (hx : p.mem[i]? = some x) (hy : p.mem[i + 1]? = some y) : (p.rep (i + 1) 100 (i + 1)).take y (p.fwd x y) = (p.rep (i + 1) 100 (i + 1)).put y p.e := by
 unfold Rep.take
 rw [if_neg (by show ¬ (2 : Int) = 1; decide),if_pos (show (p.fwd x y).kind = 2 from rfl)]
 unfold Rep.takeForward
 have hl : (p.rep (i + 1) 100 (i + 1)).log = p.L := if_neg (by omega)
 have hp : prevOf (p.rep (i + 1) 100 (i + 1)).mems y = some x := by
  show prevOf p.mem y = _
  rw [prev_mem_at ho.nd hy,if_neg (by omega)]
  exact hx
 rw [if_pos ⟨CP.live ho hy,hp,rfl,rfl⟩,hl,if_pos ⟨rfl,ho.len⟩]
 rfl
theorem CP.takeAck {p : CP} {n : Nat} (ho : p.Ok n) {i : Nat} {x y : Int} (hx : p.mem[i]? = some x) (hy : p.mem[i + 1]? = some y) (a : Nat) (ha : i < a) : (p.rep a (i + 1) i).take x (p.ack y x) = (p.rep a i i,p.up i x) := by
 unfold Rep.take
 rw [if_neg (by show ¬ (3 : Int) = 1; decide),if_neg (by show ¬ (3 : Int) = 2; decide),if_pos (show (p.ack y x).kind = 3 from rfl)]
 unfold Rep.takeAck
 have hl : (p.rep a (i + 1) i).log = p.L ++ [p.e] := if_pos ha
 have hc : (p.rep a (i + 1) i).commit = p.L.length := if_neg (by omega)
 have hp : nextOf (p.rep a (i + 1) i).mems x = some y := by
  show nextOf p.mem x = _
  rw [next_mem_at ho.nd hx]; exact hy
 have hpos : (p.ack y x).pos = ((p.L.length + 1 : Nat) : Int) := rfl
 rw [if_pos ⟨CP.live ho hx,hp,rfl,by rw [hc,hpos]; omega,by rw [hl,hpos]; simp⟩,hpos,Int.toNat_natCast]
 have e2 : ({ p.rep a (i + 1) i with commit := p.L.length + 1 } : Rep) = p.rep a i i := by
  unfold CP.rep; rw [if_pos ha,if_pos (Nat.le_refl i)]
 rw [e2,CP.acks ho (Nat.le_refl i) hx]
theorem CS.bagNe {p : CP} {n : Nat} {c : Clu} {a b : Nat} {m : Msg} {ms : List Msg} {t : List Ans} (h : CS p n c a b (m :: ms) t) : c.bag.length ≠ 0 := by
 rw [h.bag]; unfold framesOf; simp
def CP.told (p : CP) : Ans := ⟨p.e.client,p.e.seq,answerAt (p.L ++ [p.e]) p.L.length⟩
theorem CS.ups {p : CP} {n : Nat} (ho : p.Ok n) : ∀ (i : Nat) {c : Clu} {t : List Ans} {x : Int},p.mem[i]? = some x → CS p n c p.mem.length i (p.up i x) t → ∃ k,k ≤ i ∧ Leads c (p.L.length + 1) (fun c' => CS p n c' p.mem.length 0 [] t) k := by
 intro i
 induction i with
 | zero =>
  intro c t x hx h
  exact ⟨0,Nat.le_refl _,Leads.here (by simpa [CP.up] using h) h.rest⟩
 | succ i ih =>
  intro c t x hx h
  have hlt := (List.getElem?_eq_some_iff.1 hx).1
  have hy : p.mem[i]? = some p.mem[i] := List.getElem?_eq_getElem (by omega)
  have hu : p.up (i + 1) x = [p.ack x p.mem[i]] := by
   unfold CP.up
   rw [if_neg (by omega),Nat.add_sub_cancel,hy]
  rw [hu] at h
  have hs := h.take ho hy rfl (CP.takeAck ho hy hx p.mem.length (by omega)) (fun j _ _ hj => by
   unfold CP.rep
   congr 1
   by_cases q : i + 1 ≤ j
   ·rw [if_pos q,if_pos (by omega)]
   ·rw [if_neg q,if_neg (by omega)]) (CP.up_ok ho hy) (by have := CP.up_len p i p.mem[i]; simp; omega)
  obtain ⟨k,k1,k2⟩ := ih hy (by simpa using hs)
  exact ⟨k + 1,by omega,Leads.step h.bagNe h.rest k2⟩
theorem CS.tail {p : CP} {n : Nat} (ho : p.Ok n) {c : Clu} {t : List Ans} {i : Nat} {x : Int} (hx : p.mem[i]? = some x) (hi : i + 1 = p.mem.length) (h : CS p n c p.mem.length i (p.ans x :: p.up i x) t) :
  ∃ k,k ≤ 6 ∧ Leads c (p.L.length + 1) (fun c' => CS p n c' p.mem.length 0 [] (t ++ [p.told])) k := by
 have hml := memsOk_length ho.mem
 have h5 := ho.n5
 have hb := ent_bounds ho.ent
 have hd : 300 ≤ (p.ans x).dst ∧ (p.ans x).dst ≤ 303 := by show 300 ≤ 300 + p.e.client ∧ 300 + p.e.client ≤ 303; omega
 have hr := h.reply ho rfl hd (by have := CP.up_len p i x; omega)
 have ea : (⟨(p.ans x).dst - 300,(p.ans x).pos,(p.ans x).value⟩ : Ans) = p.told := by
  show (⟨300 + p.e.client - 300,_,_⟩ : Ans) = _
  rw [show (300 : Int) + p.e.client - 300 = p.e.client by omega]
  rfl
 rw [ea] at hr
 obtain ⟨k,k1,k2⟩ := CS.ups ho i hx hr
 exact ⟨k + 1,by omega,Leads.step h.bagNe h.rest k2⟩
theorem CP.far (p : CP) {n : Nat} (ho : p.Ok n) {j : Nat} {x : Int} (hx : p.mem[j]? = some x) : j < 100 := by
 have := (List.getElem?_eq_some_iff.1 hx).1
 have := memsOk_length ho.mem
 have := ho.n5
 omega
theorem CS.puts {p : CP} {n : Nat} (ho : p.Ok n) : ∀ (d i : Nat) {c : Clu} {t : List Ans} {x : Int} {m : Msg},p.mem[i]? = some x → p.mem.length ≤ i + 1 + d → CS p n c i 100 [m] t → m.dst = x → (p.rep i 100 i).take x m = (p.rep i 100 i).put x p.e →
  ∃ k,k ≤ 8 + d ∧ Leads c (p.L.length + 1) (fun c' => CS p n c' p.mem.length 0 [] (t ++ [p.told])) k := by
 intro d
 induction d with
 | zero =>
  intro i c t x m hx hd h hm ht
  have hlt := (List.getElem?_eq_some_iff.1 hx).1
  have hno : p.mem[i + 1]? = none := List.getElem?_eq_none (by omega)
  have hp := CP.put ho hx
  simp only [hno] at hp
  have hfar := p.far ho hx
  have hs := h.take ho hx hm (ht.trans hp) (fun j y hy hj => by
   have := (List.getElem?_eq_some_iff.1 hy).1
   unfold CP.rep
   rw [if_pos (show j < i by omega),if_pos (show j < i + 1 by omega),if_neg (show ¬ 100 ≤ j by omega),if_neg (show ¬ i ≤ j by omega)]) (by
    intro y hy
    rcases List.mem_cons.1 hy with q | q
    ·rw [q]; exact CP.ans_ok ho (List.mem_of_getElem? hx)
    ·exact CP.up_ok ho hx y q) (by have := CP.up_len p i x; simp; omega)
  have e1 : i + 1 = p.mem.length := by omega
  rw [e1] at hs
  obtain ⟨k,k1,k2⟩ := CS.tail ho hx e1 (by simpa using hs)
  exact ⟨k + 1,by omega,Leads.step h.bagNe h.rest k2⟩
 | succ d ih =>
  intro i c t x m hx hd h hm ht
  have hfar := p.far ho hx
  have hp := CP.put ho hx
  cases hy : p.mem[i + 1]? with
  | none =>
   have hlt := (List.getElem?_eq_some_iff.1 hx).1
   have hge := List.getElem?_eq_none_iff.1 hy
   simp only [hy] at hp
   have hs := h.take ho hx hm (ht.trans hp) (fun j y hy hj => by
    have := (List.getElem?_eq_some_iff.1 hy).1
    unfold CP.rep
    rw [if_pos (show j < i by omega),if_pos (show j < i + 1 by omega),if_neg (show ¬ 100 ≤ j by omega),if_neg (show ¬ i ≤ j by omega)]) (by
     intro y hy
     rcases List.mem_cons.1 hy with q | q
     ·rw [q]; exact CP.ans_ok ho (List.mem_of_getElem? hx)
     ·exact CP.up_ok ho hx y q) (by have := CP.up_len p i x; simp; omega)
   have e1 : i + 1 = p.mem.length := by omega
   rw [e1] at hs
   obtain ⟨k,k1,k2⟩ := CS.tail ho hx e1 (by simpa using hs)
   exact ⟨k + 1,by omega,Leads.step h.bagNe h.rest k2⟩
  | some y =>
   simp only [hy] at hp
   have hs := h.take ho hx hm (ht.trans hp) (fun j z hz hj => by
    unfold CP.rep
    congr 1
    by_cases q : j < i
    ·rw [if_pos q,if_pos (by omega)]
    ·rw [if_neg q,if_neg (by omega)]) (by
     intro z hz
     rw [List.mem_singleton] at hz
     subst hz
     exact CP.fwd_ok ho hx hy) (by simp)
   obtain ⟨k,k1,k2⟩ := ih (i + 1) hy (by omega) (by simpa using hs) rfl (CP.takeFwd ho hx hy)
   exact ⟨k + 1,by omega,Leads.step h.bagNe h.rest k2⟩
theorem CS.asked {p : CP} {n : Nat} (ho : p.Ok n) (hno : p.L.any (isReq p.e) = false) (hla : p.L.any (isLater p.e) = false) {c : Clu} {t : List Ans} {src x : Int} (hx : p.mem[0]? = some x) (h : CS p n c 0 100 [{ kind := 1,src := src,dst := x,log := [p.e] }] t) :
  ∃ k,k ≤ 14 ∧ Leads c (p.L.length + 1) (fun c' => CS p n c' p.mem.length 0 [] (t ++ [p.told])) k := by
 have hml := memsOk_length ho.mem
 have h5 := ho.n5
 refine (CS.puts ho 5 0 hx (by omega) h rfl ?_).imp (fun k q => ⟨by omega,q.2⟩)
 unfold Rep.take
 rw [if_pos (show ({ kind := 1,src := src,dst := x,log := [p.e] } : Msg).kind = 1 from rfl),if_pos ⟨rfl,CP.live ho hx⟩]
 unfold Rep.asked
 have hm : (p.rep 0 100 0).mems.headD 0 = x := by
  show p.mem.headD 0 = x
  have := headD_at (l := p.mem) ((memsOk_iff _ _).1 ho.mem).2.2
  rw [hx] at this
  injection this with this
  exact this.symm
 have hl : (p.rep 0 100 0).log = p.L := by unfold CP.rep; rw [if_neg (Nat.lt_irrefl 0)]
 have hlen := ho.len
 rw [hm,if_neg (by simp),hl]
 show (if p.L.any (isReq p.e) = true then _ else if 24 ≤ p.L.length ∨ p.L.any (isLater p.e) = true then _ else _) = _
 rw [if_neg (by rw [hno]; simp),if_neg (by rw [hla]; simp; omega)]
 rfl
end Go.Proofs.YtgieeeeeiggoeaaGreat
