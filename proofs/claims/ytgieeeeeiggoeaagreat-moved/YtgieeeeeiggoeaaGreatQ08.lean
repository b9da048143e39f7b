import Derived.Test.YtgieeeeeiggoeaaGreatQ07
namespace Go.Proofs.YtgieeeeeiggoeaaGreat
structure Mid (r : Run) (E : Int) (g : Gh) : Prop where
 good : Good r.x E g
 n : r.n = r.x.reps.length
 flags : r.ok = true ∧ r.agreed = true ∧ r.lasts = true ∧ r.told = true ∧ r.sealed = true
 asked : ∀ x,g.asked x → ∃ w ∈ r.wishes,w.e = x
 wok : ∀ w ∈ r.wishes,w.e.ok = true
 wnd : (r.wishes.map Wish.e).Nodup
 fix : Fixes g r.fixed
 seen : ∀ K,r.fixed.length ≤ K → (∀ i : Int,0 ≤ i → i < g.n → ((stOf r.x).R i).commit ≤ K) → g.seen ≤ K
 rel : ∀ p ∈ r.last.zip r.x.reps,RepRel p.1 p.2
 ans : r.answers ≤ r.x.told.length ∧ ∀ a ∈ r.x.told.drop r.answers, ∃ m,MsgInv g (stOf r.x) m ∧ m.kind = 4 ∧ a = ⟨m.dst - 300,m.pos,m.value⟩
 top : -1 ≤ r.top ∧ r.top < r.fixed.length
 floor : ∀ w ∈ r.wishes, -1 ≤ w.floor ∧ w.floor ≤ r.top ∧ ∀ (p : Nat) (f : Fix),r.fixed[p]? = some f → f.e = w.e → w.floor < p
structure RI (r : Run) (E : Int) (g : Gh) : Prop where
 mid : Mid r E g
 seen : g.seen ≤ r.fixed.length
 last : r.last = r.x.reps
 ans : r.answers = r.x.told.length
theorem floorOf_at {ws : List Wish} (h : (ws.map Wish.e).Nodup) {w : Wish} (hw : w ∈ ws) : floorOf ws w.e = w.floor := by
 have gen : ∀ (ws : List Wish) (f0 : Int),(ws.map Wish.e).Nodup → ((∃ v ∈ ws,v.e = w.e) → w ∈ ws) → w ∈ ws ∨ f0 = w.floor → (w ∈ ws → True) → ws.foldl (fun f v => if v.e = w.e then v.floor else f) f0 = w.floor := by
  intro ws
  induction ws with
  | nil =>
   intro f0 _ _ h2 _
   rcases h2 with q | q
   ·cases q
   ·exact q
  | cons a t ih =>
   intro f0 hn hu h2 _
   rw [List.foldl_cons]
   rw [List.map_cons,List.nodup_cons] at hn
   by_cases ha : a.e = w.e
   ·rw [if_pos ha]
    have hwm : w ∈ a :: t := hu ⟨a,List.mem_cons_self,ha⟩
    have hwt : w ∉ t := fun q => hn.1 (by rw [ha]; exact List.mem_map_of_mem q)
    have hwa : w = a := by
     rcases List.mem_cons.1 hwm with q | q
     ·exact q
     ·exact absurd q hwt
    refine ih a.floor hn.2 ?_ (.inr (by rw [hwa])) (fun _ => trivial)
    rintro ⟨v,hv,he⟩
    exact absurd (by rw [ha, ← he]; exact List.mem_map_of_mem hv) hn.1
   ·rw [if_neg ha]
    refine ih f0 hn.2 ?_ ?_ (fun _ => trivial)
    ·rintro ⟨v,hv,he⟩
     rcases List.mem_cons.1 (hu ⟨v,List.mem_cons_of_mem _ hv,he⟩) with q | q
     ·subst q; exact absurd rfl ha
     ·exact q
    ·rcases h2 with q | q
     ·rcases List.mem_cons.1 q with q | q
      ·subst q; exact absurd rfl ha
      ·exact .inl q
     ·exact .inr q
 exact gen ws (-2) h (fun _ => hw) (.inl hw) (fun _ => trivial)
theorem placeOf_at {fixed : List Fix} {p : Nat} {f : Fix} (hf : fixed[p]? = some f) (hu : ∀ (q : Nat) (f' : Fix),fixed[q]? = some f' → f'.e.client = f.e.client → f'.e.seq = f.e.seq → q = p) : placeOf fixed f.e.client f.e.seq = p := by
 have hlt := (List.getElem?_eq_some_iff.1 hf).1
 have gen : ∀ k,k ≤ fixed.length → (List.range k).foldl (fun (at_ : Int) q => if (fixed.getD q Fix.zero).e.client = f.e.client ∧ (fixed.getD q Fix.zero).e.seq = f.e.seq then (q : Int) else at_) (-1) = if p < k then (p : Int) else -1 := by
  intro k
  induction k with
  | zero => intro _; simp
  | succ k ih =>
   intro hk
   rw [List.range_succ,List.foldl_append,List.foldl_cons,List.foldl_nil,ih (by omega)]
   have hF : fixed[k]? = some fixed[k] := List.getElem?_eq_getElem (by omega)
   rw [getD_at hF]
   by_cases hq : fixed[k].e.client = f.e.client ∧ fixed[k].e.seq = f.e.seq
   ·rw [if_pos hq]
    have := hu k _ hF hq.1 hq.2
    rw [if_pos (by omega)]
    omega
   ·rw [if_neg hq]
    have hne : k ≠ p := by
     intro e
     subst e
     rw [hF] at hf
     injection hf with hf
     exact hq ⟨by rw [hf],by rw [hf]⟩
    by_cases hpk : p < k
    ·rw [if_pos hpk,if_pos (by omega)]
    ·rw [if_neg hpk,if_neg (by omega)]
 unfold placeOf
 rw [gen _ (Nat.le_refl _),if_pos hlt]
theorem Fixes.take {g : Gh} {s : St} (h : Inv g s) {fixed : List Fix} (hf : Fixes g fixed) {e : Int} {c : List Ent} (hc : g.com e c) {k : Nat} (h1 : k ≤ fixed.length) (h2 : k ≤ c.length) : (fixed.map Fix.e).take k = c.take k := by
 apply List.ext_getElem?
 intro j
 by_cases hj : j < k
 ·rw [List.getElem?_take_of_lt hj,List.getElem?_take_of_lt hj,List.getElem?_map]
  have a1 : fixed[j]? = some fixed[j] := List.getElem?_eq_getElem (by omega)
  have a2 : c[j]? = some c[j] := List.getElem?_eq_getElem (by omega)
  obtain ⟨c',q1,q2⟩ := hf j _ a1
  rw [a1,a2]
  show some fixed[j].e = _
  rw [h.com_same q1 hc q2 a2]
 ·rw [List.getElem?_eq_none (by rw [List.length_take]; omega),List.getElem?_eq_none (by rw [List.length_take]; omega)]
theorem answer_take {a b : List Ent} {p : Nat} (h : a.take (p + 1) = b.take (p + 1)) : answerAt a p = answerAt b p := by
 have h1 : a.take p = b.take p := by
  have := congrArg (List.take p) h
  rwa [List.take_take,List.take_take,Nat.min_eq_left (by omega)] at this
 have h2 : a.getD p Ent.zero = b.getD p Ent.zero := by
  have := congrArg (fun l => l[p]?) h
  simp only [List.getElem?_take_of_lt (Nat.lt_succ_self p)] at this
  rw [List.getD,List.getD,this]
 unfold answerAt
 rw [h1,h2]
theorem hear1_ok {r : Run} {g : Gh} {s : St} (h : Inv g s) (hf : Fixes g r.fixed) (hseen : g.seen ≤ r.fixed.length) (hask : ∀ x,g.asked x → ∃ w ∈ r.wishes,w.e = x) (hnd : (r.wishes.map Wish.e).Nodup)
  (hfl : ∀ w ∈ r.wishes, -1 ≤ w.floor ∧ ∀ (p : Nat) (f : Fix),r.fixed[p]? = some f → f.e = w.e → w.floor < p) {m : Msg} (hm : MsgInv g s m) (hk : m.kind = 4) (top : Int) (htop : top < r.fixed.length) :
  ∃ t,hear1 r top ⟨m.dst - 300,m.pos,m.value⟩ = some t ∧ top ≤ t ∧ t < r.fixed.length := by
 obtain ⟨e,c,x,p,hc,hx,q1,q2,q3,q4⟩ := hm.rep hk
 have hpl : p < r.fixed.length := by omega
 have hF : r.fixed[p]? = some r.fixed[p] := List.getElem?_eq_getElem hpl
 obtain ⟨c',q5,q6⟩ := hf p _ hF
 have he : r.fixed[p].e = x := h.com_same q5 hc q6 hx
 have hplace : placeOf r.fixed x.client x.seq = p := by
  have := placeOf_at hF (fun q f' hq h1 h2 => hf.once h hq hF h1 h2)
  rw [he] at this
  exact this
 obtain ⟨w,hw,hwe⟩ := hask x ((h.com_log hc).2 x (List.mem_of_getElem? hx))
 have hfloor : floorOf r.wishes x = w.floor := by rw [← hwe]; exact floorOf_at hnd hw
 obtain ⟨f1,f2⟩ := hfl w hw
 have f3 := f2 p _ hF (by rw [he,hwe])
 have hval : valueAt r.fixed p = m.value := by
  have hpc := (List.getElem?_eq_some_iff.1 hx).1
  rw [q3]
  exact answer_take (hf.take h hc (by omega) (by omega))
 unfold hear1
 have e1 : m.dst - 300 = x.client := by omega
 simp only [e1,q2,hplace,Int.toNat_natCast,getD_at hF,he,hfloor,hval]
 rw [if_neg (by omega),if_neg (by rintro (q | q | q) <;> omega)]
 refine ⟨_,rfl, ?_, ?_⟩ <;> split <;> omega
theorem hearAll_ok {r : Run} {g : Gh} {s : St} (h : Inv g s) (hf : Fixes g r.fixed) (hseen : g.seen ≤ r.fixed.length) (hask : ∀ x,g.asked x → ∃ w ∈ r.wishes,w.e = x) (hnd : (r.wishes.map Wish.e).Nodup)
  (hfl : ∀ w ∈ r.wishes, -1 ≤ w.floor ∧ ∀ (p : Nat) (f : Fix),r.fixed[p]? = some f → f.e = w.e → w.floor < p) :
  ∀ (l : List Ans),(∀ a ∈ l, ∃ m,MsgInv g s m ∧ m.kind = 4 ∧ a = ⟨m.dst - 300,m.pos,m.value⟩) → ∀ top : Int,top < r.fixed.length → ∃ t,hearAll r top l = some t ∧ top ≤ t ∧ t < r.fixed.length := by
 intro l
 induction l with
 | nil => intro _ top ht; exact ⟨top,rfl,Int.le_refl _,ht⟩
 | cons a l ih =>
  intro hl top ht
  obtain ⟨m,h1,h2,h3⟩ := hl a List.mem_cons_self
  obtain ⟨t,t1,t2,t3⟩ := hear1_ok h hf hseen hask hnd hfl h1 h2 top ht
  obtain ⟨t',u1,u2,u3⟩ := ih (fun x hx => hl x (List.mem_cons_of_mem _ hx)) t t3
  refine ⟨t', ?_,Int.le_trans t2 u2,u3⟩
  unfold hearAll
  rw [h3,t1]
  exact u1
theorem rep_nat {c : Clu} {i : Nat} (h : i < c.reps.length) : c.rep (i : Int) = c.reps[i] := by
 unfold Clu.rep
 rw [Int.toNat_natCast,List.getD,List.getElem?_eq_getElem h]
 rfl
theorem isRep_nat {c : Clu} {i : Nat} (h : i < c.reps.length) : c.isRep (i : Int) := by unfold Clu.isRep; omega
theorem commitsAll_ok {c : Clu} {E : Int} {g : Gh} (h : Nodes c E g) (fixed : List Fix) (hf : Fixes g fixed) : ∀ k,k ≤ c.reps.length →
  Fixes g ((c.reps.take k).foldl commitsOf (fixed,true)).1 ∧ ((c.reps.take k).foldl commitsOf (fixed,true)).2 = true ∧ fixed.map Fix.e <+: ((c.reps.take k).foldl commitsOf (fixed,true)).1.map Fix.e ∧
   fixed.length ≤ ((c.reps.take k).foldl commitsOf (fixed,true)).1.length ∧ (∀ i : Nat,i < k → (c.rep i).commit ≤ ((c.reps.take k).foldl commitsOf (fixed,true)).1.length) ∧
   (∀ K,fixed.length ≤ K → (∀ i : Nat,i < k → (c.rep i).commit ≤ K) → ((c.reps.take k).foldl commitsOf (fixed,true)).1.length ≤ K) := by
 intro k
 induction k with
 | zero => intro _; exact ⟨hf,rfl,List.prefix_refl _,Nat.le_refl _,fun i hi => (by omega),fun K hK _ => hK⟩
 | succ k ih =>
  intro hk
  obtain ⟨q1,q2,q3,q4,q5,q6⟩ := ih (by omega)
  have htk : c.reps.take (k + 1) = c.reps.take k ++ [c.reps[k]] := List.take_succ_eq_append_getElem (by omega)
  rw [htk,List.foldl_append,List.foldl_cons,List.foldl_nil]
  generalize (c.reps.take k).foldl commitsOf (fixed,true) = st at *
  obtain ⟨F,ag⟩ := st
  simp only [] at q1 q2 q3 q4 q5 q6
  subst q2
  have hn := h.n
  have hrep : (stOf c).R (k : Int) = c.reps[k] := by rw [stOf_R (isRep_nat (by omega)),rep_nat (by omega)]
  have := commitsOf_ok h.inv (i := (k : Int)) (by omega) (by omega) F q1
  rw [hrep] at this
  obtain ⟨p1,p2,p3,p4⟩ := this
  refine ⟨p1,p2,q3.trans p4,by omega, ?_, ?_⟩
  ·intro i hi
   by_cases hik : i = k
   ·subst hik; rw [rep_nat (by omega)]; omega
   ·have := q5 i (by omega); omega
  ·intro K hK hc
   rw [p3]
   have h1 := q6 K hK (fun i hi => hc i (by omega))
   have h2 := hc k (by omega)
   rw [rep_nat (by omega)] at h2
   omega
theorem holdsAll_ok {c : Clu} {E : Int} {g : Gh} (h : Nodes c E g) (fixed : List Fix) (hf : Fixes g fixed) : ∀ l : List Rep,(∀ x ∈ l,x ∈ c.reps) → l.foldl (holdsOf fixed) true = true := by
 intro l
 induction l with
 | nil => intro _; rfl
 | cons a l ih =>
  intro hl
  rw [List.foldl_cons]
  obtain ⟨i,hi,hie⟩ := List.getElem_of_mem (hl a List.mem_cons_self)
  have hn := h.n
  have hrep : (stOf c).R (i : Int) = a := by rw [stOf_R (isRep_nat hi),rep_nat hi,hie]
  have := holdsOf_ok h.inv (i := (i : Int)) (by omega) (by omega) fixed hf
  rw [hrep] at this
  rw [this]
  exact ih (fun x hx => hl x (List.mem_cons_of_mem _ hx))
theorem stillAll_ok : ∀ l : List (Rep × Rep),(∀ p ∈ l,RepRel p.1 p.2) → l.foldl (fun b p => stillOf b p.1 p.2) true = true := by
 intro l
 induction l with
 | nil => intro _; rfl
 | cons a l ih =>
  intro hl
  rw [List.foldl_cons,still_of_rel (hl a List.mem_cons_self)]
  exact ih (fun x hx => hl x (List.mem_cons_of_mem _ hx))
theorem Mid.look {r : Run} {E : Int} {g : Gh} (h : Mid r E g) : RI r.look E g ∧ r.look.x = r.x ∧ r.look.n = r.n ∧ r.look.wishes = r.wishes ∧ r.fixed.map Fix.e <+: r.look.fixed.map Fix.e ∧ r.look.begun0 = r.begun0 ∧ r.look.begun1 = r.begun1 ∧
  r.fixed.length ≤ r.look.fixed.length ∧ (∀ K,r.fixed.length ≤ K → (∀ i : Nat,i < r.x.reps.length → (r.x.rep i).commit ≤ K) → r.look.fixed.length ≤ K) ∧ r.top ≤ r.look.top := by
 obtain ⟨f1,f2,f3,f4,f5⟩ := h.flags
 have hN := h.good.nodes
 obtain ⟨c1,c2,c3,c4,c5,c6⟩ := commitsAll_ok hN r.fixed h.fix r.x.reps.length (Nat.le_refl _)
 rw [List.take_length] at c1 c2 c3 c4 c5 c6
 unfold Run.look
 rw [f2,f3,f5,stillAll_ok _ h.rel]
 generalize r.x.reps.foldl commitsOf (r.fixed,true) = st at *
 obtain ⟨F,ag⟩ := st
 simp only [] at c1 c2 c3 c4 c5 c6
 subst c2
 simp only [holdsAll_ok hN F c1 r.x.reps (fun _ hx => hx)]
 have hn := hN.n
 have hseen : g.seen ≤ F.length := by
  refine h.seen F.length c4 ?_
  intro i h0 h1
  have hi : i.toNat < r.x.reps.length := by omega
  have hii : ((i.toNat : Nat) : Int) = i := by omega
  rw [← hii,stOf_R (isRep_nat hi)]
  exact c5 _ hi
 have hfl : ∀ w ∈ r.wishes, -1 ≤ w.floor ∧ w.floor ≤ r.top ∧ ∀ (p : Nat) (f : Fix),F[p]? = some f → f.e = w.e → w.floor < p := by
  intro w hw
  obtain ⟨g1,g2,g3⟩ := h.floor w hw
  refine ⟨g1,g2, ?_⟩
  intro p f hp hfe
  by_cases hlt : p < r.fixed.length
  ·have ha : r.fixed[p]? = some r.fixed[p] := List.getElem?_eq_getElem hlt
   refine g3 p _ ha ?_
   obtain ⟨t,ht⟩ := c3
   have e1 : (F.map Fix.e)[p]? = some f.e := by rw [List.getElem?_map,hp]; rfl
   rw [← ht,List.getElem?_append_left (by simpa using hlt),List.getElem?_map,ha] at e1
   injection e1 with e1
   rw [e1,hfe]
  ·have := h.top.2
   omega
 unfold Run.hears
 simp only []
 obtain ⟨a1,a2⟩ := h.ans
 have htop : r.top < F.length := by have := h.top.2; omega
 rw [if_neg (by omega)]
 have hall := hearAll_ok (r := { r with fixed := F,agreed := true,lasts := true,sealed := true,last := r.x.reps }) hN.inv c1 hseen h.asked h.wnd (fun w hw => ⟨(hfl w hw).1,(hfl w hw).2.2⟩) (r.x.told.drop r.answers) a2 r.top htop
 obtain ⟨t,t1,t2,t3⟩ := hall
 rw [t1]
 simp only []
 refine ⟨⟨?_,hseen,rfl,rfl⟩,by trivial,by trivial,by trivial,c3,by trivial,by trivial,c4,c6,t2⟩
 exact
  {good := h.good
   n := h.n
   flags := ⟨f1,rfl,rfl,f4,rfl⟩
   asked := h.asked
   wok := h.wok
   wnd := h.wnd
   fix := c1
   seen := fun K hK _ => Nat.le_trans hseen hK
   rel := by
    intro p hp
    obtain ⟨i,hi,hie⟩ := List.getElem_of_mem hp
    rw [List.getElem_zip] at hie
    rw [← hie]
    exact RepRel.refl _
   ans := ⟨Nat.le_refl _,fun a ha => by rw [List.drop_length] at ha; cases ha⟩
   top := ⟨by have := h.top.1; show -1 ≤ t; omega,t3⟩
   floor := fun w hw => ⟨(hfl w hw).1,Int.le_trans (hfl w hw).2.1 t2,(hfl w hw).2.2⟩ }
structure CluRel (c : Clu) (E : Int) (g : Gh) (c' : Clu) : Prop where
 reps : ∀ i : Nat,i < c.reps.length → RepRel (c.rep i) (c'.rep i)
 told : ∃ news,c'.told = c.told ++ news ∧ ∀ a ∈ news, ∃ m,Sent c E g m ∧ m.kind = 4 ∧ a = ⟨m.dst - 300,m.pos,m.value⟩
theorem CluRel.same (c : Clu) (E : Int) (g : Gh) : CluRel c E g c := ⟨fun _ _ => RepRel.refl _, [],by simp,fun a ha => by cases ha⟩
theorem CluRel.bag {c c' : Clu} {E : Int} {g : Gh} (h : CluRel c E g c') (b : List (List UInt8 × Bool)) : CluRel c E g { c' with bag := b } := ⟨h.reps,h.told⟩
theorem CluRel.setRep (c : Clu) (E : Int) (g : Gh) {d : Int} (hd : c.isRep d) {r : Rep} (hr : RepRel (c.rep d) r) : CluRel c E g (c.setRep d r) := by
 refine ⟨?_, [],by unfold Clu.setRep; simp,fun a ha => by cases ha⟩
 intro i hi
 rw [rep_setRep hd (isRep_nat hi)]
 split
 ·rename_i q; rw [q]; exact hr
 ·exact RepRel.refl _
theorem CluRel.nodes (c : Clu) (E : Int) (g : Gh) (as : List Acc) (ms : List Mas) : CluRel c E g { c with accs := as,mass := ms } := ⟨fun _ _ => RepRel.refl _, [],by simp,fun a ha => by cases ha⟩
theorem lock_of {c : Clu} {E : Int} {g : Gh} (h : Nodes c E g) {d : Int} (hd : c.isRep d) : (c.rep d).lock ≤ (c.rep d).epoch + 1 := by
 obtain ⟨d0,d1,d2⟩ := rep_dst h hd
 have := (h.inv.rep (i := d) d0 d2).2.1
 rw [stOf_R hd] at this
 exact this
theorem rel_takes {c : Clu} {E : Int} {g : Gh} (h : Nodes c E g) (m : Msg) : CluRel c E g (c.takes m).1 := by
 unfold Clu.takes
 split
 ·split
  ·rename_i hd
   exact CluRel.setRep c E g hd (rel_take _ _ _ (lock_of h hd))
  ·split
   ·exact CluRel.nodes c E g _ _
   ·exact CluRel.nodes c E g _ _
 ·exact CluRel.same c E g
theorem rel_arrive {c : Clu} {E : Int} {g : Gh} (h : Nodes c E g) {m : Msg} (hm : Sent c E g m) : CluRel c E g (c.arrive m) := by
 unfold Clu.arrive
 by_cases ht : m.kind = 4 ∧ 300 ≤ m.dst ∧ m.dst ≤ 303
 ·have e : c.tell m = { c with told := c.told ++ [⟨m.dst - 300,m.pos,m.value⟩] } := by unfold Clu.tell; rw [if_pos ht]
  rw [e]
  have h1 : Nodes { c with told := c.told ++ [⟨m.dst - 300,m.pos,m.value⟩] } E g := h.bag _ _
  have h2 := rel_takes h1 m
  refine ⟨h2.reps, ?_⟩
  obtain ⟨news,q1,q2⟩ := h2.told
  refine ⟨[⟨m.dst - 300,m.pos,m.value⟩] ++ news, ?_, ?_⟩
  ·show ((Clu.takes _ m).1).told = _
   rw [q1,List.append_assoc]
  ·intro a ha
   rcases List.mem_append.1 ha with q | q
   ·rw [List.mem_singleton] at q
    exact ⟨m,hm,ht.1,q⟩
   ·exact q2 a q
 ·have e : c.tell m = c := by unfold Clu.tell; rw [if_neg ht]
  rw [e]
  exact (rel_takes h m).bag _
theorem rel_deliver {c : Clu} {E : Int} {g : Gh} (h : Good c E g) (i : Int) : CluRel c E g (c.deliver i).1 := by
 unfold Clu.deliver
 split
 ·rename_i hi
  split
  ·exact (CluRel.same c E g).bag _
  ·rename_i m hm
   have := rel_arrive (h.gone i).nodes (m := m) (h.msg (frameAt_mem hi) hm)
   exact ⟨this.reps,this.told⟩
 ·exact CluRel.same c E g
theorem rel_change (c : Clu) (E : Int) (g : Gh) (d : Int) (l : List Int) : CluRel c E g (c.change d l).1 := by
 unfold Clu.change
 split
 ·exact CluRel.same c E g
 ·split
  ·exact CluRel.same c E g
  ·split
   ·exact CluRel.same c E g
   ·exact (CluRel.nodes c E g _ _).bag _
theorem RI.step {r : Run} {E : Int} {g : Gh} (h : RI r E g) {c' : Clu} (hs : StepOK r.x E g c') (hr : CluRel r.x E g c') (b0 b1 : Nat) : ∃ E' g',Mid { r with x := c',begun0 := b0,begun1 := b1 } E' g' := by
 obtain ⟨E',g',hg,hle,hE,hl⟩ := hs
 refine ⟨E',g', ?_⟩
 have hL : Later r.x E g c' E' g' := ⟨hg.nodes,hle,hE,hl⟩
 obtain ⟨news,n1,n2⟩ := hr.told
 have hans := h.ans
 exact
  {good := hg
   n := by show r.n = _; rw [hl]; exact h.mid.n
   flags := h.mid.flags
   asked := fun x hx => h.mid.asked x (hle.back hx)
   wok := h.mid.wok
   wnd := h.mid.wnd
   fix := by
    intro p f hp
    obtain ⟨c,q1,q2⟩ := h.mid.fix p f hp
    obtain ⟨c2,q3,q4⟩ := hle.com q1
    exact ⟨c2,q3,prefix_get q4 q2⟩
   seen := by
    intro K hK hc
    exact hle.top K (Nat.le_trans h.seen hK) (fun i h0 h1 => hc i h0 (by rw [hle.n]; exact h1))
   rel := by
    intro p hp
    show RepRel p.1 p.2
    have hp' : p ∈ r.last.zip c'.reps := hp
    rw [h.last] at hp'
    obtain ⟨i,hi,hie⟩ := List.getElem_of_mem hp'
    rw [List.getElem_zip] at hie
    rw [List.length_zip] at hi
    rw [← hie]
    have := hr.reps i (by omega)
    rw [rep_nat (by omega),rep_nat (by omega)] at this
    exact this
   ans := by
    refine ⟨by show r.answers ≤ c'.told.length; rw [n1,List.length_append]; omega, ?_⟩
    intro a ha
    have ha' : a ∈ c'.told.drop r.answers := ha
    rw [n1,hans,List.drop_left] at ha'
    obtain ⟨m,m1,m2,m3⟩ := n2 a ha'
    exact ⟨m,m1.2.mono hle,m2,m3⟩
   top := h.mid.top
   floor := h.mid.floor }
theorem pick_rep {r : Run} {E : Int} {g : Gh} (h : Mid r E g) (c : Int) : r.x.isRep (pickI c r.n) := by
 have hn := h.n
 have := h.good.nodes.n1
 have := pickI_lt c r.n (by omega)
 unfold Clu.isRep
 omega
theorem lastWish_ok (client : Int) : ∀ (ws : List Wish) (e : Ent),(∀ w ∈ ws,w.e.ok = true) → (e.client = client ∧ (e.seq = -1 ∨ e.ok = true)) → (ws.foldl (fun e w => if w.e.client = client then w.e else e) e).client = client ∧ ((ws.foldl (fun e w => if w.e.client = client then w.e else e) e).seq = -1 ∨ (ws.foldl (fun e w => if w.e.client = client then w.e else e) e).ok = true) := by
 intro ws
 induction ws with
 | nil => intro e _ h; exact h
 | cons w ws ih =>
  intro e hw he
  rw [List.foldl_cons]
  refine ih _ (fun x hx => hw x (List.mem_cons_of_mem _ hx)) ?_
  split
  ·rename_i q; exact ⟨q, .inr (hw w List.mem_cons_self)⟩
  ·exact he
theorem entry_ok {r : Run} (hw : ∀ w ∈ r.wishes,w.e.ok = true) (o : KStep) : (r.entry o).ok = true := by
 have hb := pickI_lt o.B 4 (by omega)
 obtain ⟨l1,l2⟩ := lastWish_ok (pickI o.B 4) r.wishes ⟨pickI o.B 4, -1,0,0,0⟩ hw ⟨rfl, .inl rfl⟩
 unfold Run.entry
 have e : lastWish (pickI o.B 4) r.wishes = r.wishes.foldl (fun e w => if w.e.client = pickI o.B 4 then w.e else e) ⟨pickI o.B 4, -1,0,0,0⟩ := rfl
 rw [← e] at l1 l2
 generalize lastWish (pickI o.B 4) r.wishes = W at *
 split
 ·rename_i hc
  rcases l2 with q | q
  ·omega
  ·exact q
 ·rename_i hc
  have hseq : 0 ≤ W.seq + 1 ∧ W.seq + 1 ≤ 999 := by
   rcases l2 with q | q
   ·omega
   ·have := ent_bounds q
    have : ¬ 900 ≤ W.seq := fun q' => hc ⟨by omega, .inr q'⟩
    omega
  have k1 := pickI_lt (o.L.getD 0 0) 3 (by omega)
  have k2 := pickI_lt (o.L.getD 2 0) 1000 (by omega)
  unfold nextEntry
  generalize pickI (o.L.getD 0 0) 3 = z0 at *
  generalize pickI (o.L.getD 1 0) 3 = z1 at *
  generalize pickI (o.L.getD 2 0) 1000 = z2 at *
  unfold Ent.ok
  split <;> simp <;> omega
theorem RI.ask {r : Run} {E : Int} {g : Gh} (h : RI r E g) (d : Int) (e : Ent) (hd : r.x.isRep d) (he : e.ok = true) : Mid (r.ask d e) E (g.addAsk e) := by
 obtain ⟨h1,h2⟩ := h.mid.good.ask d e hd he
 obtain ⟨f1,f2,f3,f4,f5⟩ := h.mid.flags
 have hx : (r.x.ask d e).1 = r.x.send [{ kind := 1,src := 300 + e.client,dst := d,log := [e] }] := by
  unfold Clu.ask
  rw [if_neg (fun q => q hd),if_neg (by rw [he]; exact Bool.noConfusion)]
 have hw : (r.ask d e).wishes = if r.wishes.any (fun w => decide (w.e = e)) then r.wishes else r.wishes ++ [⟨e,r.top⟩] := rfl
 have hmem : ∀ w ∈ (r.ask d e).wishes,w ∈ r.wishes ∨ (w = ⟨e,r.top⟩ ∧ ∀ v ∈ r.wishes,v.e ≠ e) := by
  intro w hwm
  rw [hw] at hwm
  split at hwm
  ·exact .inl hwm
  ·rename_i hno
   rcases List.mem_append.1 hwm with q | q
   ·exact .inl q
   ·rw [List.mem_singleton] at q
    refine .inr ⟨q, ?_⟩
    intro v hv he'
    apply hno
    rw [List.any_eq_true]
    exact ⟨v,hv,by simpa using he'⟩
 have hold : ∀ w ∈ r.wishes,w ∈ (r.ask d e).wishes := by
  intro w hwm
  rw [hw]
  split
  ·exact hwm
  ·exact List.mem_append_left _ hwm
 have hst : stOf (r.ask d e).x = stOf r.x := by show stOf (r.x.ask d e).1 = _; rw [hx]; rfl
 have htl : (r.ask d e).x.told = r.x.told := by show (r.x.ask d e).1.told = _; rw [hx]; rfl
 have hrp : (r.ask d e).x.reps = r.x.reps := by show (r.x.ask d e).1.reps = _; rw [hx]; rfl
 exact
  {good := h1
   n := by rw [hrp]; exact h.mid.n
   flags := ⟨by show (r.ok && decide _) = true; rw [f1,h2]; rfl,f2,f3,f4,f5⟩
   asked := by
    rintro x (q | q)
    ·obtain ⟨w,w1,w2⟩ := h.mid.asked x q
     exact ⟨w,hold w w1,w2⟩
    ·subst q
     by_cases hany : r.wishes.any (fun w => decide (w.e = x)) = true
     ·obtain ⟨w,w1,w2⟩ := List.any_eq_true.1 hany
      exact ⟨w,hold w w1,by simpa using w2⟩
     ·exact ⟨⟨x,r.top⟩,by rw [hw,if_neg hany]; simp,rfl⟩
   wok := by
    intro w hwm
    rcases hmem w hwm with q | ⟨q,_⟩
    ·exact h.mid.wok w q
    ·rw [q]; exact he
   wnd := by
    rw [hw]
    split
    ·exact h.mid.wnd
    ·rename_i hno
     rw [List.map_append,List.map_singleton]
     unfold List.Nodup
     rw [List.pairwise_append]
     refine ⟨h.mid.wnd,List.pairwise_singleton _ _, ?_⟩
     intro a ha b hb hab
     rw [List.mem_singleton] at hb
     simp only [List.mem_map] at ha
     obtain ⟨w,w1,w2⟩ := ha
     apply hno
     rw [List.any_eq_true]
     exact ⟨w,w1,by rw [w2,hab,hb]; simp⟩
   fix := by
    intro p f hp
    obtain ⟨c,q1,q2⟩ := h.mid.fix p f hp
    exact ⟨c,q1,q2⟩
   seen := fun K hK _ => Nat.le_trans h.seen hK
   rel := by
    intro p hp
    refine h.mid.rel p ?_
    have hp' : p ∈ r.last.zip (r.ask d e).x.reps := hp
    rw [hrp] at hp'
    exact hp'
   ans := by
    rw [htl,hst]
    refine ⟨h.mid.ans.1, ?_⟩
    intro a ha
    obtain ⟨m,m1,m2⟩ := h.mid.ans.2 a ha
    exact ⟨m,m1.addAsk e,m2⟩
   top := h.mid.top
   floor := by
    intro w hwm
    rcases hmem w hwm with q | ⟨q,q2⟩
    ·exact h.mid.floor w q
    ·rw [q]
     refine ⟨h.mid.top.1,Int.le_refl _, ?_⟩
     intro p f hp hfe
     exfalso
     obtain ⟨c,c1,c2⟩ := h.mid.fix p f hp
     have := (h.mid.good.nodes.inv.com_log c1).2 f.e (List.mem_of_getElem? c2)
     obtain ⟨v,v1,v2⟩ := h.mid.asked _ this
     exact q2 v v1 (v2.trans hfe) }
theorem mod_inj {n a i j : Nat} (hi : i < n) (hj : j < n) (h : (a + i) % n = (a + j) % n) : i = j := by
 have h1 := Nat.div_add_mod (a + i) n
 have h2 := Nat.div_add_mod (a + j) n
 rw [h] at h1
 rcases Nat.lt_trichotomy ((a + i) / n) ((a + j) / n) with q | q | q
 ·have := Nat.mul_le_mul_left n (Nat.succ_le_of_lt q)
  rw [Nat.mul_succ] at this
  omega
 ·rw [q] at h1; omega
 ·have := Nat.mul_le_mul_left n (Nat.succ_le_of_lt q)
  rw [Nat.mul_succ] at this
  omega
theorem members_ok (n : Nat) (h : 1 ≤ n) (a b : Int) : memsOk (membersOf n a b) n = true := by
 unfold membersOf
 rw [memsOk_iff]
 split
 ·exact ⟨fun x hx => by rw [List.mem_singleton] at hx; subst hx; omega,List.pairwise_singleton _ _,by simp⟩
 ·rename_i hne
  refine ⟨?_, ?_,hne⟩
  ·intro x hx
   unfold chosenOf at hx
   rw [List.mem_filterMap] at hx
   obtain ⟨k,hk,hx⟩ := hx
   simp only [List.mem_map,List.mem_range] at hk
   obtain ⟨i,_,rfl⟩ := hk
   split at hx
   ·injection hx with hx
    have := Nat.mod_lt ((pickI b n).toNat + i) (show n > 0 by omega)
    omega
   ·cases hx
  ·unfold chosenOf
   refine List.Pairwise.filterMap _ (R := fun x y => x ≠ y) ?_ ?_
   ·intro x y hxy u hu v hv e
    split at hu
    ·split at hv
     ·injection hu with hu
      injection hv with hv
      subst e
      exact hxy (by omega)
     ·cases hv
    ·cases hu
   ·rw [List.pairwise_map]
    refine List.Pairwise.imp_of_mem ?_ List.nodup_range
    intro i j hi hj hij e
    rw [List.mem_range] at hi hj
    exact hij (mod_inj hi hj e)
theorem Mid.okTrue {r : Run} {E : Int} {g : Gh} (h : Mid r E g) {b : Bool} (hb : b = true) : Mid { r with ok := b } E g := by
 obtain ⟨f1,f2,f3,f4,f5⟩ := h.flags
 exact { h with flags := ⟨hb,f2,f3,f4,f5⟩ }
theorem RI.drain : ∀ (k : Nat) {r : Run} {E : Int} {g : Gh},RI r E g → ∃ E' g',RI (Run.drain k r) E' g' := by
 intro k
 induction k with
 | zero => intro r E g h; exact ⟨E,g,h⟩
 | succ k ih =>
  intro r E g h
  unfold Run.drain
  split
  ·exact ⟨E,g,h⟩
  ·rename_i hb
   have f1 := h.mid.flags.1
   have hfr : r.x.hasFrame 0 := by
    unfold Clu.hasFrame
    have : r.x.bag.length ≠ 0 := fun q => hb (.inl q)
    omega
   obtain ⟨E',g',hm⟩ := h.step (h.mid.good.deliver 0) (rel_deliver h.mid.good 0) r.begun0 r.begun1
   have hd : (r.x.deliver 0).2 = 0 := by
    unfold Clu.deliver
    rw [if_pos hfr]
    split <;> rfl
   exact ih (hm.okTrue (b := r.ok && decide ((r.x.deliver 0).2 = 0)) (by rw [f1,hd]; rfl)).look.1
end Go.Proofs.YtgieeeeeiggoeaaGreat
