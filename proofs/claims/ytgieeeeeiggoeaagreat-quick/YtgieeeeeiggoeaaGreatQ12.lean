import Derived.Test.YtgieeeeeiggoeaaGreatQ11
import Derived.Test.YtgieeeeeiggoeaaGreatQ06
namespace Go.Proofs.YtgieeeeeiggoeaaGreat
theorem MP.insts (p : MP) (h : memsOk p.l p.n = true) {E : Int} {R : Nat → Rep} {A : Nat → Acc} {t : List Ans} {C : Nat} (hC : ∀ i,i < p.n → (R i).commit ≤ C) : ∀ (post pre : List Nat) {c : Clu},p.xs = pre ++ post → post ≠ [] → post.length ≤ 5 →
  PS p.n E c R A p.mi (p.s 5 1 (firstInts p.n) p.l p.L (pre.map p.id)) (post.map p.id) t → ∃ c',Goes C c c' post.length ∧ PS p.n E c' R A p.mi (p.s 6 1 (firstInts p.n) p.l p.L []) [p.wr 0,p.wr 1,p.wr 2] t := by
 intro post
 induction post with
 | nil => intro pre c _ hne _ _; exact absurd rfl hne
 | cons i post ih =>
  intro pre c hx _ hl hp
  have ht := p.t8 h pre i post hx
  have hl' : post.length + 1 ≤ 5 := by simpa using hl
  by_cases hpo : post = []
  ·subst hpo
   rw [if_pos rfl] at ht
   have h1 := PS.toMas (m := p.id i) (ms := []) (by simpa using hp) rfl rfl ht (by simp) (by show E + 0 ≤ 2000; have := hp.E0; omega)
   have e : E + (p.s 5 1 (firstInts p.n) p.l p.L (pre.map p.id)).reads - (p.s 6 1 (firstInts p.n) p.l p.L []).reads = E := by show E + 0 - 0 = E; omega
   rw [e] at h1
   exact ⟨_,Goes.step (PS.ne (m := p.id i) (ms := []) (by simpa using hp)) (hp.cap hC) (Goes.refl (h1.cap hC)),by simpa using h1⟩
  ·rw [if_neg hpo] at ht
   have h1 := PS.toMas (m := p.id i) (ms := post.map p.id) (by simpa using hp) rfl rfl ht (by simp; omega) (by show E + 0 ≤ 2000; have := hp.E0; omega)
   have e : E + (p.s 5 1 (firstInts p.n) p.l p.L (pre.map p.id)).reads - (p.s 5 1 (firstInts p.n) p.l p.L ((pre ++ [i]).map p.id)).reads = E := by show E + 0 - 0 = E; omega
   rw [e,List.append_nil] at h1
   obtain ⟨c',g1,g2⟩ := ih (pre ++ [i]) (by rw [hx,List.append_assoc]; rfl) hpo (by omega) h1
   exact ⟨c',Goes.step (PS.ne (m := p.id i) (ms := post.map p.id) (by simpa using hp)) (hp.cap hC) g1,g2⟩
theorem range_cons {n : Nat} (h : 1 ≤ n) : List.range n = 0 :: (List.range (n - 1)).map Nat.succ := by
 obtain ⟨m,rfl⟩ : ∃ m,n = m + 1 := ⟨n - 1,by omega⟩
 rw [List.range_succ_eq_map]
 rfl
theorem MP.change (p : MP) (h1 : 1 ≤ p.n) (h : memsOk p.l p.n = true) {c : Clu} {t : List Ans} (hp : PS p.n 0 c (fun _ => p.calm) (fun _ => p.a0) p.mi (p.s 1 0 [] [] [] []) [p.rd 0,p.rd 1,p.rd 2] t) :
  ∃ k c',k ≤ 100 ∧ Goes p.L.length c c' k ∧ PS p.n 1 c' (fun i => if i ∈ p.xs then p.anew else p.shut) (fun _ => p.a3) p.mi (p.s 0 1 (firstInts p.n) p.l p.L []) [] t := by
 have h5 := hp.n5
 have hxl : p.xs.length ≤ 5 := by
  have : p.xs.length = p.l.length := by unfold MP.xs; simp
  have := memsOk_length h
  omega
 have hxne : p.xs ≠ [] := by
  intro e
  have : p.l = [] := by
   unfold MP.xs at e
   exact List.map_eq_nil_iff.1 e
  exact ((memsOk_iff _ _).1 h).2.2 this
 have cc : ∀ i : Nat,i < p.n → ((fun _ : Nat => p.calm) i).commit ≤ p.L.length := fun _ _ => Nat.le_refl _
 have cs : ∀ i : Nat,i < p.n → ((fun _ : Nat => p.shut) i).commit ≤ p.L.length := fun _ _ => Nat.le_refl _
 obtain ⟨c1,g1,q1⟩ := PS.acc3 (C := p.L.length) (M := p.rd) (O := p.rg) (A' := fun _ => p.a0) (rest := []) (by simpa using hp) (fun i _ => rfl) (fun _ _ => rfl) (fun i _ => p.rd_take i) (by simp) cc
 obtain ⟨c2,g2,q2⟩ := PS.mas3 (C := p.L.length) (E' := 1) (M := p.rg) (rest := []) (by simpa using q1) (fun i _ => rfl) rfl rfl rfl p.t1 p.t2 (no_fit (.inl (by show ¬ (6 : Int) = 4 + 2 * (2 : Nat); decide))) rfl rfl rfl (by show (0 : Int) + 1 ≤ 2000; decide) (by simp; omega) cc
 obtain ⟨c3,g3,q3⟩ := PS.repsN (C := p.L.length) p.sl p.sd (fun _ => p.shut) (fun i => rfl) (fun _ _ => Nat.le_refl _) (List.range p.n) (fun _ => p.calm) [] List.nodup_range (fun i hi => List.mem_range.1 hi) (by simpa using q2) (fun i _ => ⟨rfl,p.sl_take i⟩) cc (by simp; omega)
 have e3 : PS p.n 1 c3 (fun _ => p.shut) (fun _ => p.a0) p.mi (p.s 2 1 (firstInts p.n) [] [] []) ((List.range p.n).map p.sd) t :=
  {q3 with
   reps := by
    rw [q3.reps]
    apply List.map_congr_left
    intro i hi
    rw [if_pos hi]
   bag := by rw [q3.bag]; simp
   wfR := by
    intro i hi
    have := q3.wfR i hi
    rw [if_pos (List.mem_range.2 hi)] at this
    exact this
   wfm := by simpa using q3.wfm
   few := by simp; omega }
 rw [range_cons h1,List.map_cons] at e3
 have q4 := e3.toMas rfl rfl (p.t3 h1) (by simp; omega) (by show (1 : Int) + 0 ≤ 2000; decide)
 have e4 : (1 : Int) + (p.s 2 1 (firstInts p.n) [] [] []).reads - (p.s 3 1 (firstInts p.n) [] p.L []).reads = 1 := by show (1 : Int) + 0 - 0 = 1; decide
 rw [e4] at q4
 obtain ⟨c5,g5,q5⟩ := PS.masNone (C := p.L.length) rfl rfl cs _ _ q4 (by
  intro m hm
  simp only [List.mem_map] at hm
  obtain ⟨i,_,rfl⟩ := hm
  exact ⟨rfl,no_fit (.inl (by show ¬ (8 : Int) = 4 + 2 * (3 : Nat); decide))⟩) (by simp; omega)
 have g4 := Goes.step e3.ne (e3.cap cs) g5
 obtain ⟨c6,g6,q6⟩ := PS.acc3 (C := p.L.length) (M := p.pp) (O := p.pm) (A' := fun _ => p.a1) (rest := []) (by simpa using q5) (fun i _ => rfl) (fun _ _ => rfl) (fun i _ => p.pp_take i) (by simp) cs
 obtain ⟨c7,g7,q7⟩ := PS.mas3 (C := p.L.length) (E' := 1) (M := p.pm) (rest := []) (by simpa using q6) (fun i _ => rfl) rfl rfl rfl p.t4 p.t5 (no_fit (.inl (by show ¬ (10 : Int) = 4 + 2 * (4 : Nat); decide))) rfl rfl rfl (by show (1 : Int) + 0 ≤ 2000; decide) (by simp) cs
 obtain ⟨c8,g8,q8⟩ := PS.acc3 (C := p.L.length) (M := p.ac) (O := p.ad) (A' := fun _ => p.a2) (rest := []) (by simpa using q7) (fun i _ => rfl) (fun _ _ => rfl) (fun i _ => p.ac_take i) (by simp) cs
 obtain ⟨c9,g9,q9⟩ := PS.mas3 (C := p.L.length) (E' := 1) (M := p.ad) (rest := []) (by simpa using q8) (fun i _ => rfl) rfl rfl rfl p.t6 (p.t7 h) (no_fit (.inl (by show ¬ (12 : Int) = 4 + 2 * (5 : Nat); decide))) rfl rfl rfl (by show (1 : Int) + 0 ≤ 2000; decide) (by simp; omega) cs
 obtain ⟨c10,g10,q10⟩ := PS.repsN (C := p.L.length) p.il p.id (fun _ => p.anew) (fun i => rfl) (fun _ _ => Nat.le_refl _) p.xs (fun _ => p.shut) [] (p.xs_nodup h) (p.xs_lt h) (by simpa using q9) (fun i _ => ⟨rfl,p.il_take i⟩) cs (by simp; omega)
 have cx : ∀ i : Nat,i < p.n → ((fun j => if j ∈ p.xs then p.anew else p.shut) i).commit ≤ p.L.length := by
  intro i _
  show (if i ∈ p.xs then p.anew else p.shut).commit ≤ _
  split <;> exact Nat.le_refl _
 obtain ⟨c11,g11,q11⟩ := p.insts h (C := p.L.length) cx p.xs [] rfl hxne hxl (by simpa using q10)
 obtain ⟨c12,g12,q12⟩ := PS.acc3 (C := p.L.length) (M := p.wr) (O := p.wn) (A' := fun _ => p.a3) (rest := []) (by simpa using q11) (fun i _ => rfl) (fun _ _ => rfl) (fun i _ => p.wr_take i) (by simp) cx
 obtain ⟨c13,g13,q13⟩ := PS.mas3 (C := p.L.length) (E' := 1) (M := p.wn) (rest := []) (by simpa using q12) (fun i _ => rfl) rfl rfl rfl p.t9 p.t10 (no_fit (.inr rfl)) rfl rfl rfl (by show (1 : Int) + 0 ≤ 2000; decide) (by simp) cx
 refine ⟨_,c13, ?_,g1.trans (g2.trans (g3.trans (g4.trans (g6.trans (g7.trans (g8.trans (g9.trans (g10.trans (g11.trans (g12.trans g13)))))))))),by simpa using q13⟩
 simp
 omega
theorem RI.begins {r : Run} {E : Int} {g : Gh} (h : RI r E g) (d : Int) (l : List Int) : ∃ E' g',RI { r with x := (r.x.change d l).1 } E' g' := by
 obtain ⟨E',g',hm⟩ := h.step (h.mid.good.change d l) (rel_change r.x E g d l) r.begun0 r.begun1
 have hreps : (r.x.change d l).1.reps = r.x.reps ∧ (r.x.change d l).1.told = r.x.told := by
  unfold Clu.change
  split
  ·exact ⟨rfl,rfl⟩
  ·split
   ·exact ⟨rfl,rfl⟩
   ·split <;> exact ⟨rfl,rfl⟩
 refine ⟨E',g',hm, ?_, ?_, ?_⟩
 ·refine hm.seen r.fixed.length (Nat.le_refl _) ?_
  intro i h0 h1
  have hn := hm.good.nodes.n
  have hn2 := h.mid.good.nodes.n
  have hr1 : (r.x.change d l).1.isRep i := by
   unfold Clu.isRep
   have : g'.n = (r.x.change d l).1.reps.length := hn
   omega
  have hr2 : r.x.isRep i := by
   unfold Clu.isRep at hr1 ⊢
   rw [hreps.1] at hr1
   exact hr1
  have e1 : (r.x.change d l).1.rep i = r.x.rep i := by unfold Clu.rep; rw [hreps.1]
  show ((stOf (r.x.change d l).1).R i).commit ≤ _
  rw [stOf_R hr1,e1]
  have hh := (h.mid.good.nodes.inv.rep (i := i) h0 (by unfold Clu.isRep at hr2; omega)).2.2.1
  rw [stOf_R hr2] at hh
  exact Nat.le_trans hh h.seen
 ·show r.last = (r.x.change d l).1.reps
  rw [hreps.1]; exact h.last
 ·show r.answers = (r.x.change d l).1.told.length
  rw [hreps.2]; exact h.ans
def lastAsk : Ent := ⟨1,999,2,0,0⟩
theorem QI.moves {r : Run} {n : Nat} {L : List Ent} (h : QI r n L) (hL : L.length ≤ 21) (mi : Nat) (hmi : mi < 2) (l : List Int) (hl : memsOk l n = true) :
  (r.x.change (200 + (mi : Int)) l).2 = 0 ∧ ∃ R1,Run.drain 5000 { r with x := (r.x.change (200 + (mi : Int)) l).1 } = R1 ∧ (∃ E g,RI R1 E g) ∧ R1.n = n ∧ R1.last.length = n ∧ R1.fixed.length = L.length ∧
   (∀ i,i < n → ((i : Int) ∈ l → (R1.last.getD i (Rep.first 0)).epoch = 1 ∧ (R1.last.getD i (Rep.first 0)).mems = l ∧ (R1.last.getD i (Rep.first 0)).commit = L.length) ∧ ((i : Int) ∉ l → (R1.last.getD i (Rep.first 0)).epoch = 0)) ∧
   R1.x.accs.length = 3 ∧ (∀ a ∈ R1.x.accs,a.epoch = 1 ∧ a.mems = l) ∧ lastAsk.ok = true ∧ R1.x.isRep (l.headD 0) ∧
   (∃ E g,RI (Run.drain 5000 (R1.ask (l.headD 0) lastAsk)) E g) ∧ (Run.drain 5000 (R1.ask (l.headD 0) lastAsk)).answers = R1.answers + 1 := by
 have h1 := h.n1
 have h5 := h.n5
 obtain ⟨E,g,hri⟩ := h.ri
 obtain ⟨t,hqs,ht⟩ := h.qs Ent.zero
 have hrl : r.x.reps.length = n := by rw [hqs.reps,qreps_len]
 have hm : isMas (200 + (mi : Int)) := by unfold isMas; omega
 have hmas : r.x.mas (200 + (mi : Int)) = Mas.still true 0 := by
  unfold Clu.mas
  rw [hqs.oth.2,show (200 + (mi : Int) - 200).toNat = mi by omega,List.getD,List.getElem?_replicate,if_pos hmi]
  rfl
 let p : MP := ⟨n,mi,L,l⟩
 have hch : r.x.change (200 + (mi : Int)) l = ((r.x.setMas (200 + (mi : Int)) ((Mas.still true 0).begin (200 + (mi : Int)) l)).send (((Mas.still true 0).begin (200 + (mi : Int)) l).asks (200 + (mi : Int))),0) := by
  unfold Clu.change
  rw [if_neg (fun q => q hm),hmas,if_neg (by show ¬ (true = false ∨ 1000 ≤ 0); decide),if_neg (by rw [hrl,hl]; exact Bool.noConfusion)]
 have hbeg : (Mas.still true 0).begin (200 + (mi : Int)) l = p.s 1 0 [] [] [] [] := by
  unfold Mas.begin MP.s
  congr 1
  show 2 * (((0 : Nat) : Int) + 1) + (200 + (mi : Int) - 200) = 2 + (mi : Int)
  omega
 refine ⟨by rw [hch],_,rfl, ?_⟩
 obtain ⟨E1,g1,hri1⟩ := hri.begins (200 + (mi : Int)) l
 have hx1 : ({ r with x := (r.x.change (200 + (mi : Int)) l).1 } : Run).x = (r.x.setMas (200 + (mi : Int)) (p.s 1 0 [] [] [] [])).send [p.rd 0,p.rd 1,p.rd 2] := by
  show (r.x.change (200 + (mi : Int)) l).1 = _
  rw [hch,hbeg]
  rfl
 have hps : PS n 0 ({ r with x := (r.x.change (200 + (mi : Int)) l).1 } : Run).x (fun _ => p.calm) (fun _ => p.a0) mi (p.s 1 0 [] [] [] []) [p.rd 0,p.rd 1,p.rd 2] t := by
  rw [hx1]
  have hentL : entsOk L := ⟨by omega,h.ok⟩
  have hwf : MasWF n 0 (p.s 1 0 [] [] [] []) := by
   rw [← hbeg]
   exact masBegin_wf (by show 0 < 1000; decide) (Int.le_refl _) hm hl
  exact
   {n5 := h5,mi2 := hmi,E0 := ⟨Int.le_refl _,by decide⟩
    reps := by
     show r.x.reps = _
     rw [hqs.reps]
     unfold qreps
     apply List.map_congr_left
     intro i hi
     rw [List.mem_range] at hi
     rw [qrep_eq,if_neg (Nat.not_lt_zero i),if_neg (by omega)]
     rfl
    accs := by
     show r.x.accs = _
     rw [hqs.oth.1]
     rfl
    mass := by
     show r.x.mass.set (200 + (mi : Int) - 200).toNat _ = _
     rw [hqs.oth.2,show (200 + (mi : Int) - 200).toNat = mi by omega]
     have : List.replicate 2 (Mas.still true 0) = (List.range 2).map (fun _ => Mas.still true 0) := rfl
     rw [this,map_set]
    bag := by
     show (r.x.bag ++ _).take 200 = _
     rw [hqs.bag]
     rfl
    told := hqs.told
    wfR := fun i _ => ⟨⟨Int.le_refl _,Int.le_refl _⟩,⟨Int.le_refl _,Int.le_refl _⟩,firstInts_ok n h1,hentL,Nat.zero_le _,Nat.le_refl _,Nat.zero_le _⟩
    wfA := fun i _ => ⟨⟨Int.le_refl _,Int.le_refl _⟩,firstInts_ok n h1,fun e => ⟨by show (-1 : Int) ≤ -1 ∧ (-1 : Int) ≤ 2001; omega,by show (-1 : Int) ≤ -1 ∧ (-1 : Int) ≤ 2001; omega, .inl rfl,fun q => absurd q (by show ¬ (0 : Int) ≤ -1; omega),entsOk_nil⟩⟩
    wfS := hwf
    wfm := by
     intro m hm'
     refine asks_wf hwf h5 (Int.le_refl _) (own := 200 + (mi : Int)) (by omega) m ?_
     exact hm'
    few := by simp }
 obtain ⟨k,c',k1,k2,k3⟩ := p.change h1 hl hps
 have hfix : ({ r with x := (r.x.change (200 + (mi : Int)) l).1 } : Run).fixed.length ≤ L.length := by show r.fixed.length ≤ _; rw [h.fixed]; exact Nat.le_refl _
 obtain ⟨E2,g2,m1,m2,m3,m4,m5,m6,m7,m8⟩ := drain_run k 5000 (C := L.length) (Q := fun x => x = c') hri1 (by omega) ⟨k2.1,k2.2.1,k2.2.2⟩ (by rw [k2.1,k3.bag]; rfl) hfix
 rw [k2.1] at m2
 generalize hR1 : Run.drain 5000 { r with x := (r.x.change (200 + (mi : Int)) l).1 } = R1 at *
 have hfixed : R1.fixed.length = L.length := by
  have : r.fixed.length ≤ R1.fixed.length := m8
  rw [h.fixed] at this
  omega
 have hlast : R1.last = (List.range n).map (fun i => if i ∈ p.xs then p.anew else p.shut) := by rw [m1.last,m2]; exact k3.reps
 have hmemx : ∀ i : Nat,(i : Int) ∈ l ↔ i ∈ p.xs := by
  intro i
  constructor
  ·intro q
   show i ∈ l.map Int.toNat
   rw [List.mem_map]
   exact ⟨(i : Int),q,by omega⟩
  ·exact fun q => p.xs_mem hl q
 have hx : R1.x = c' := m2
 have hhead : l.headD 0 ∈ l := headD_mems hl
 have hhr := ((memsOk_iff _ _).1 hl).1 _ hhead
 have hlen : R1.x.reps.length = n := by rw [hx,k3.reps,List.length_map,List.length_range]
 have hd2 : R1.x.isRep (l.headD 0) := by unfold Clu.isRep; rw [hlen]; exact hhr
 refine ⟨⟨E2,g2,m1⟩,by rw [m4]; exact h.nn,by rw [hlast]; simp,hfixed, ?_,by rw [hx,k3.accs]; simp, ?_,rfl,hd2, ?_⟩
 ·intro i hi
  rw [hlast,map_get _ _ _ _ hi]
  constructor
  ·intro q
   rw [if_pos ((hmemx i).1 q)]
   exact ⟨rfl,rfl,rfl⟩
  ·intro q
   rw [if_neg (fun q' => q ((hmemx i).2 q'))]
   rfl
 ·intro a ha
  rw [hx,k3.accs] at ha
  simp only [List.mem_map] at ha
  obtain ⟨_,_,rfl⟩ := ha
  exact ⟨rfl,rfl⟩
 have hri3 := m1.ask' (l.headD 0) lastAsk hd2 rfl
 let q : CP := ⟨l,1,1,L.length,L,lastAsk⟩
 have hq : q.Ok n := ⟨h5,hl,Int.le_refl _,⟨by show (0 : Int) ≤ 1; decide,by show (1 : Int) ≤ 2000; decide⟩,by show (0 : Int) ≤ 1; decide,Nat.le_refl _,by show L.length < 24; omega,by
  refine ⟨by show (L ++ [lastAsk]).length ≤ 24; simp; omega, ?_⟩
  intro x hx
  rcases List.mem_append.1 hx with w | w
  ·exact h.ok x w
  ·rw [List.mem_singleton] at w; subst w; rfl⟩
 have hsmall : ∀ x ∈ L,x.seq ≤ 22 := by
  intro x hx
  have a1 := h.seqs x hx
  have a2 := h.small x.client
  omega
 have hno : L.any (isReq lastAsk) = false := by
  rw [List.any_eq_false]
  intro x hx w
  unfold isReq at w
  simp only [Bool.and_eq_true,decide_eq_true_eq] at w
  have := hsmall x hx
  have w2 : x.seq = 999 := w.2
  omega
 have hla : L.any (isLater lastAsk) = false := by
  rw [List.any_eq_false]
  intro x hx w
  unfold isLater at w
  simp only [Bool.and_eq_true,decide_eq_true_eq] at w
  have := hsmall x hx
  have w2 : 999 < x.seq := w.2
  omega
 have hx3 : (R1.ask (l.headD 0) lastAsk).x = R1.x.send [{ kind := 1,src := 301,dst := l.headD 0,log := [lastAsk] }] := by
  show (R1.x.ask (l.headD 0) lastAsk).1 = _
  unfold Clu.ask
  rw [if_neg (fun q => q hd2),if_neg (by show ¬ lastAsk.ok = false; decide)]
  rfl
 have hl0 : l[0]? = some (l.headD 0) := headD_at ((memsOk_iff _ _).1 hl).2.2
 have hcs : CS q n (R1.ask (l.headD 0) lastAsk).x 0 100 [{ kind := 1,src := 301,dst := l.headD 0,log := [lastAsk] }] t := by
  rw [hx3,hx]
  refine ⟨by show c'.reps.length = n; rw [← hx]; exact hlen, ?_, ?_, ?_, ?_,k3.told⟩
  ·intro j x hj
   have hxl : x ∈ l := List.mem_of_getElem? hj
   have hxr := ((memsOk_iff _ _).1 hl).1 x hxl
   have hjl := (List.getElem?_eq_some_iff.1 hj).1
   have hml := memsOk_length hl
   have hjl' : j < l.length := hjl
   show c'.reps.getD x.toNat _ = _
   rw [k3.reps,map_get _ _ _ _ (by show x.toNat < n; omega),if_pos ((hmemx x.toNat).1 (by rw [show ((x.toNat : Nat) : Int) = x by omega]; exact hxl))]
   unfold CP.rep MP.anew
   rw [if_neg (Nat.not_lt_zero j),if_neg (by omega)]
  ·intro x hx'
   have hx2 : x ∈ c'.reps := hx'
   rw [k3.reps] at hx2
   simp only [List.mem_map] at hx2
   obtain ⟨i,_,rfl⟩ := hx2
   show (if i ∈ p.xs then p.anew else p.shut).commit ≤ L.length + 1
   split <;> exact Nat.le_succ _
  ·show (c'.bag ++ _).take 200 = _
   rw [k3.bag]
   rfl
  ·intro m hm'
   rw [List.mem_singleton] at hm'
   subst hm'
   exact (request_wf (n := n) (E := 0) (e := lastAsk) rfl (Int.le_refl _) (o := 301) (by decide) (d := l.headD 0) ⟨hhr.1,by omega⟩).ok h5 (by decide)
 obtain ⟨k',j1,j2⟩ := CS.asked hq hno hla hl0 hcs
 obtain ⟨E3,g3,w1,w2,w3,w4,w5,w6,w7,w8⟩ := drain_run k' 5000 hri3 (by omega) j2 (by rw [j2.1.bag]; rfl) (by show R1.fixed.length ≤ L.length + 1; omega)
 refine ⟨⟨E3,g3,w1⟩, ?_⟩
 rw [w1.ans,w2,j2.1.told,List.length_append,m1.ans,hx,k3.told]
 rfl
structure PMas where
 begun : Nat
 doing : Int
 waits : List Int
 epoch : Int
 old : List Int
 vote : Int
 mems : List Int
 log : List Ent
def PMas.ballot (p : PMas) (own : Int) : Int := 2 * (p.begun : Int) + own - 200
def PMas.question (p : PMas) (own : Int) : Msg :=
 if p.doing = 1 then { kind := 5,src := 0,dst := 0,ballot := p.ballot own }
 else if p.doing = 2 then { kind := 7,src := 0,dst := 0,epoch := p.epoch,ballot := p.ballot own }
 else if p.doing = 3 then { kind := 9,src := 0,dst := 0,epoch := p.epoch,ballot := p.ballot own }
 else if p.doing = 4 then { kind := 11,src := 0,dst := 0,epoch := p.epoch,ballot := p.ballot own,mems := p.mems,log := p.log }
 else if p.doing = 5 then { kind := 13,src := 0,dst := 0,epoch := p.epoch,mems := p.mems,log := p.log }
 else { kind := 15,src := 0,dst := 0,epoch := p.epoch,mems := p.mems }
def PMas.askOf (p : PMas) (own dd : Int) : Msg := { p.question own with src := own,dst := dd }
def PMas.asks (p : PMas) (own : Int) : List Msg := p.waits.map (p.askOf own)
def PMas.turnTo (p : PMas) (own d : Int) (l : List Int) : PMas × List Msg := ({ p with doing := d,waits := l }, { p with doing := d,waits := l }.asks own)
def PMas.idle (p : PMas) : PMas := { begun := p.begun,doing := 0,waits := [],epoch := 0,old := [],vote := 0,mems := [],log := [] }
def PMas.fresh (p : PMas) (l : List Int) : PMas := { begun := p.begun + 1,doing := 0,waits := [],epoch := 0,old := [],vote := -1,mems := l,log := [] }
def PMas.enough (p : PMas) : Bool := if p.doing = 2 then true else if p.doing = 5 then decide ((p.waits.length : Int) = 0) else decide ((p.waits.length : Int) ≤ 1)
def PMas.isAnswer (p : PMas) (own : Int) (m : Msg) : Bool :=
 if p.doing = 1 then (m.kind == 6) && (m.ballot == p.ballot own)
 else if p.doing = 2 then ((m.kind == 8) && (m.epoch == p.epoch)) && (m.ballot == p.ballot own)
 else if p.doing = 3 then ((m.kind == 10) && (m.epoch == p.epoch)) && (m.ballot == p.ballot own)
 else if p.doing = 4 then ((m.kind == 12) && (m.epoch == p.epoch)) && (m.ballot == p.ballot own)
 else if p.doing = 5 then (m.kind == 14) && (m.epoch == p.epoch)
 else if p.doing = 6 then (m.kind == 16) && (m.epoch == p.epoch)
 else false
def PMas.learnRegister (p : PMas) (m : Msg) : PMas := if p.epoch < m.epoch + 1 then { p with epoch := m.epoch + 1,old := m.mems } else p
def PMas.learnVote (p : PMas) (m : Msg) : PMas := if p.vote < m.vote then { p with vote := m.vote,mems := m.mems,log := m.log } else p
def PMas.learn (p : PMas) (m : Msg) : PMas :=
 if p.doing = 1 then p.learnRegister m else if p.doing = 2 then { p with log := m.log } else if p.doing = 3 then p.learnVote m else p
def PMas.goOn (p : PMas) (own : Int) : PMas × List Msg :=
 if p.doing = 1 then { p with old := [] }.turnTo own 2 p.old
 else if p.doing = 2 then p.turnTo own 3 [100,101,102]
 else if p.doing = 3 then p.turnTo own 4 [100,101,102]
 else if p.doing = 4 then p.turnTo own 5 p.mems
 else if p.doing = 5 then p.turnTo own 6 [100,101,102]
 else (p.idle, [])
def PMas.less (p : PMas) (x : Int) : PMas := { p with waits := p.waits.eraseIdx (p.waits.idxOf x) }
def PMas.take (p : PMas) (own : Int) (m : Msg) : PMas × List Msg :=
 if m.src ∈ p.waits ∧ p.isAnswer own m = true then
  if ((p.less m.src).learn m).enough = true then ((p.less m.src).learn m).goOn own else ((p.less m.src).learn m, [])
 else (p, [])
structure MRel (own : Int) (s : Mas) (p : PMas) : Prop where
 begun : p.begun = s.begun
 doing : p.doing = (s.does : Int)
 ballot : s.does ≠ 0 → p.ballot own = s.ballot
 waits : p.waits = s.all.filter (fun x => !s.cameFrom x)
 count : p.waits.length + s.came.length = s.all.length
 one : s.does = 1 → (s.came = [] → p.epoch = 0 ∧ p.old = []) ∧ ∀ m r,s.came = m :: r → p.epoch = m.epoch + 1 ∧ p.old = m.mems
 epoch : 2 ≤ s.does → p.epoch = s.epoch
 vote : s.does = 1 ∨ s.does = 2 → p.vote = -1 ∧ p.mems = s.want
 three : s.does = 3 → ((s.came = [] ∨ ∃ m r,s.came = m :: r ∧ m.vote ≤ -1) → p.vote = -1 ∧ p.mems = s.want ∧ p.log = s.log) ∧ ∀ m r,s.came = m :: r → -1 < m.vote → p.vote = m.vote ∧ p.mems = m.mems ∧ p.log = m.log
 last : 4 ≤ s.does → p.mems = s.mems ∧ p.log = s.log
 old5 : p.old.length ≤ 5
 mems5 : p.mems.length ≤ 5
 log24 : p.log.length ≤ 24
end Go.Proofs.YtgieeeeeiggoeaaGreat
