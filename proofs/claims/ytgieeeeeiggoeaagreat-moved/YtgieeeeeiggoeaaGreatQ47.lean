import Derived.Test.YtgieeeeeiggoeaaGreatQ46
namespace Go.Proofs.YtgieeeeeiggoeaaGreat
open Go.RowKit Go.Shelf
theorem ansNums_snoc (l : List Ans) (a : Ans) : ints (ansNums (l ++ [a])) = ints (ansNums l) ++ [.int .i64 a.client, .int .i64 a.seq, .int .i64 a.value] := by
 unfold ansNums ints
 rw [List.flatMap_append,List.map_append]
 rfl
def arrOf (c : Clu) (L : List UInt8) : Clu := match msgOf L with | none => c | some m => c.arrive m
theorem findIn_no {c : Clu} {gs : Nat} {d : Int} (h : c.upOf d ≠ some true) : ∃ en,(en == (0 : Int)) = false ∧ findIn c gs true d = .tuple #[.pointer none, .int .i64 en] := by
 rw [upOf_nod] at h
 unfold findIn
 cases hp : nodPlace c.reps.length d with
 | none => exact ⟨4,rfl,rfl⟩
 | some j =>
  rw [hp] at h
  simp only [Option.map_some,ne_eq,Option.some.injEq] at h
  exact ⟨5,rfl,by simp [h]⟩
theorem findIn_yes {c : Clu} {gs : Nat} {d : Int} (h : c.upOf d = some true) : ∃ j,nodPlace c.reps.length d = some j ∧ (c.nod j).up = true ∧ findIn c gs true d = .tuple #[.pointer (some ⟨gs,j * 3,none⟩), .int .i64 0] := by
 rw [upOf_nod] at h
 unfold findIn
 cases hp : nodPlace c.reps.length d with
 | none => rw [hp] at h; cases h
 | some j =>
  rw [hp] at h
  simp only [Option.map_some,Option.some.injEq] at h
  exact ⟨j,rfl,h,by simp [h]⟩
set_option maxRecDepth 100000 in
set_option maxHeartbeats 2000000 in
theorem cluTell_any {X : World} {F : Nat → Prop} {x : Nat} {c : Clu} (m : Msg) (a1 : Option Addr) (d1 : Nat) (a2 : Option Addr) (d2 : Nat) (h : CAt X F x c) (ht : c.told.length ≤ 2999999999999) :
  Calls Tryz.prog 118 #[.pointer (some ⟨x,0,none⟩), .agg #[.int .i64 m.kind, .int .i64 m.src, .int .i64 m.dst, .int .i64 m.epoch, .int .i64 m.ballot, .int .i64 m.vote, .int .i64 m.pos, .int .i64 m.value, .slice a1 m.mems.length d1, .slice a2 m.log.length d2]] X fun r w' => (∃ v,r = .returned v) ∧ CAfter X F x (c.tell m) w' := by
 have HA := hideA h
 obtain ⟨gs,cap,b,Fn,vr,va,vm,vb,vt,h⟩ := h
 have IX := hideA h
 have hxl : x < X.heap.size := h.lt x (h.inO x (.inl rfl))
 have HCl := fun W => hideA (isClient_any m.dst W)
 have HT : Hid (c.tell m = if m.kind = 4 ∧ 300 ≤ m.dst ∧ m.dst ≤ 303 then { c with told := c.told ++ [⟨m.dst - 300,m.pos,m.value⟩] } else c) := hideA rfl
 obtain ⟨B0,hB0,hbB0,hMB0⟩ := msg_box X m (.slice a1 m.mems.length d1) (.slice a2 m.log.length d2)
 have k0 : B0.cell? ⟨X.heap.size,0,none⟩ = some (.int .i64 m.kind) := cell_of_heap hMB0 0
 have k2 : B0.cell? ⟨X.heap.size,2,none⟩ = some (.int .i64 m.dst) := cell_of_heap hMB0 2
 have k6 : B0.cell? ⟨X.heap.size,6,none⟩ = some (.int .i64 m.pos) := cell_of_heap hMB0 6
 have k7 : B0.cell? ⟨X.heap.size,7,none⟩ = some (.int .i64 m.value) := cell_of_heap hMB0 7
 clear h hMB0
 cases tk : (m.kind == 4) with
 | false =>
  have HV : Hid (c.tell m = c) := hideA (by rw [HT.out,if_neg (fun e => by rw [e.1] at tk; simp at tk)])
  go_enter Tryz.func118,Tryz.ntmps118
  go_wp2_with fail
  go_end0
  rw [HV.out]
  exact ⟨⟨_,rfl⟩,CAfter.still HA.out hbB0⟩
 | true =>
  have PK : Hid (m.kind = 4) := hideA (by simpa using tk)
  by_cases hcl : 300 ≤ m.dst ∧ m.dst ≤ 303
  ·have HV : Hid (c.tell m = { c with told := c.told ++ [⟨m.dst - 300,m.pos,m.value⟩] }) := hideA (by rw [HT.out,if_pos ⟨PK.out,hcl⟩])
   have hdd : decide (300 ≤ m.dst ∧ m.dst ≤ 303) = true := decide_eq_true hcl
   rw [hdd] at HCl
   clear hdd
   have hwr : IntKind.i64.wrap (m.dst - 300) = m.dst - 300 := by rw [IntKind.wrap_i64]; omega
   have mixed : Tryz.prog.follows Departure.mixedOrders = true := by kernel_rfl
   obtain ⟨av,cv,hvt⟩ := owns_shape IX.out.rt
   subst hvt
   have c5 := cell_of_heap IX.out.bag.blk 5
   have c5B := cell_later hbB0 c5
   obtain ⟨Z,hZ⟩ : ∃ Z,Z = (B0.alloc (.cells #[.int .i64 (m.dst - 300), .int .i64 m.pos, .int .i64 m.value] 113)).drew := ⟨_,rfl⟩
   have hbZ : Below X.heap.size X Z := by rw [hZ]; exact hbB0.trans ((((Below.refl _ B0).alloc (Nat.le_refl _) _).drew).mono hbB0.size)
   have hs0 := hbB0.size
   have IZ := IX.out.below hbZ
   have hsZ : Z.heap.size = B0.heap.size + 1 := by rw [hZ]; simp
   obtain ⟨g',cap',W1,hrun,ho1,hg1,hwh⟩ := append_row3 (t := 91) infoAns Tryz.underlying91 rfl (by decide) Z 0 (.slice av c.told.length cv) c.told.length (ints (ansNums c.told)) [.int .i64 (m.dst - 300), .int .i64 m.pos, .int .i64 m.value] B0.heap.size IZ.rt (by rw [hZ]; exact heap_new _ _) rfl (by intro u hu; simp at hu; rcases hu with rfl | rfl | rfl <;> rfl) (by omega) (by decide) (Nat.zero_le _)
   have nb : (Value.slice av c.told.length cv).ownBlock ≠ some x := blk_type IX.out.bag.blk IX.out.rt (by decide)
   have hxW : W1.heap[x]? = some (.cells #[.slice (some ⟨gs,0,none⟩) (c.reps.length + 5) cap,vr,va,vm,vb, .slice av c.told.length cv] 93) := (hg1.block x (by omega) (fun e => nb e.symm)).trans IZ.bag.blk
   have d5 := cell_of_heap hxW 5
   have e5 := frozen_of_heap hxW 5
   have z5 : ∀ o,(B0.alloc o).cell? ⟨x,5,none⟩ = some (.slice av c.told.length cv) := fun o => cell_later ((Below.refl _ B0).alloc (Nat.le_refl _) o) c5B
   have M1 : Moved X W1 (fun k => k = x ∨ (Value.slice av c.told.length cv).ownBlock = some k) := ((Moved.refl X _).below hbZ).grown hg1 (fun k _ e => .inr e)
   have HFin : Hid (CAfter X F x { c with told := c.told ++ [⟨m.dst - 300,m.pos,m.value⟩] } (W1.setCell ⟨x,5,none⟩ (.slice (some ⟨g',0,none⟩) (c.told.length + 1) cap'))) := hideA (by
    refine IX.out.toldTo _ (.slice (some ⟨g',0,none⟩) (c.told.length + 1) cap') (set6_5 _ hxW) ?_ (M1.setCell ⟨x,5,none⟩ (.inl rfl) _) ?_
    ·rw [List.length_append,ansNums_snoc]
     exact ownsRow_setCell_other ho1 (blk_type hxW ho1 (by decide)) _
    ·intro k hk
     have : g' = k := by simpa [Value.ownBlock] using hk
     subst this
     rcases hwh with h5 | h5
     ·exact .inl h5
     ·exact .inr (by omega))
   rw [hZ] at hrun
   clear hg1 hwh ho1 hxW M1 IZ hbZ hsZ hZ hs0
   go_enter Tryz.func118,Tryz.ntmps118
   go_wp2_with fail
   refine (HCl _).out.mono ?_
   rintro e W ⟨rfl,rfl⟩
   go_wp2_with fail
   go_region_law (first | (refine op_append rfl (.tmp 16) (.tmp 25) 91 rfl _ _ _ _ (by simp [Act.eval]) (by simp [Act.eval]) hrun ?_))
   all_goals (
    go_wp2_with fail
    go_end0
    rw [HV.out]
    exact ⟨⟨_,rfl⟩,HFin.out⟩)
  ·have HV : Hid (c.tell m = c) := hideA (by rw [HT.out,if_neg (fun e => hcl e.2)])
   have hdd : decide (300 ≤ m.dst ∧ m.dst ≤ 303) = false := decide_eq_false hcl
   rw [hdd] at HCl
   clear hdd hcl
   go_enter Tryz.func118,Tryz.ntmps118
   go_wp2_with fail
   refine (HCl _).out.mono ?_
   rintro e W ⟨rfl,rfl⟩
   go_wp2_with fail
   go_end0
   rw [HV.out]
   exact ⟨⟨_,rfl⟩,CAfter.still HA.out hbB0⟩
set_option maxRecDepth 100000 in
set_option maxHeartbeats 2000000 in
theorem arrive_any {w : World} {F : Nat → Prop} {x : Nat} {c : Clu} {E : Int} {g : Gh} (L : List UInt8) (sp : Bool) (hL : L.length ≤ 100000) (h : CAt w F x c) (hg : Good c E g) (ht : c.told.length ≤ 2999999999999) (hs : ∀ m,msgOf L = some m → Sent c E g m) :
  Calls Tryz.prog 63 #[.pointer (some ⟨x,0,none⟩), .agg #[.string (bs L), .bool sp]] w fun r w' => (∃ v,r = .returned v) ∧ CAfter w F x (arrOf c L) w' := by
 have HA := hideA h
 obtain ⟨gs,cap,b,Fn,vr,va,vm,vb,vt,h⟩ := h
 obtain ⟨B0,hB0,hbB0,hMB0⟩ := box_more1 w #[.string (bs L), .bool sp] 138
 have b0 : B0.cell? ⟨w.heap.size,0,none⟩ = some (.string (bs L)) := cell_of_heap hMB0 0
 have HD := hideA (wireDecode_any L B0 (by omega))
 have hmo := msgOf_dec L
 have HV : Hid (∀ mem log,(decOf L).value mem log = .tuple #[mval (decMsg L) mem log, .int .i64 (decOf L).err] ∧ (decOf L).ms = (decMsg L).mems ∧ (decOf L).es = (decMsg L).log) := hideA fun mem log => ⟨rfl,rfl,rfl⟩
 generalize decMsg L = m at *
 generalize (decOf L).err = er at *
 have HI := hideA h
 have hxl : x < w.heap.size := h.lt x (h.inO x (.inl rfl))
 have hgl : gs < w.heap.size := h.lt gs (h.inO gs (.inr (.inl rfl)))
 have HF : Hid (∀ W,Below w.heap.size w W → Calls Tryz.prog 65 #[.pointer (some ⟨x,0,none⟩), .int .i64 0, .int .i64 m.dst] W fun e w' => e = .returned (findIn c gs true m.dst) ∧ w' = W) := hideA fun W hb => findIn_any W F x gs cap c b Fn vr va vm vb vt true m.dst (h.below hb)
 have HTl : Hid (∀ (a1 a2 : Option Addr) (d1 d2 : Nat) W F' c',CAt W F' x c' → c'.told.length ≤ 2999999999999 → Calls Tryz.prog 118 #[.pointer (some ⟨x,0,none⟩), .agg #[.int .i64 m.kind, .int .i64 m.src, .int .i64 m.dst, .int .i64 m.epoch, .int .i64 m.ballot, .int .i64 m.vote, .int .i64 m.pos, .int .i64 m.value, .slice a1 m.mems.length d1, .slice a2 m.log.length d2]] W fun r w' => (∃ v,r = .returned v) ∧ CAfter W F' x (c'.tell m) w') := hideA fun a1 a2 d1 d2 W F' c' h1 h2 => cluTell_any m a1 d1 a2 d2 h1 h2
 clear h
 go_enter Tryz.func63,Tryz.ntmps63
 go_wp2_with fail
 refine HD.out.mono ?_
 rintro e Y ⟨hbY0,mem,log,rfl,o1,o2⟩
 have hbY := hbB0.trans (hbY0.mono hbB0.size)
 have hB0s := hbB0.size
 replace o1 := owns_base o1 (base' := w.heap.size + 1) (by omega)
 replace o2 := owns_base o2 (base' := w.heap.size + 1) (by omega)
 obtain ⟨v1,v2,v3⟩ := HV.out mem log
 rw [v2] at o1
 rw [v3] at o2
 rw [v1]
 clear v1 v2 v3
 obtain ⟨a1,d1,rfl⟩ := owns_shape o1
 obtain ⟨a2,d2,rfl⟩ := owns_shape o2
 have HO := hideA (And.intro o1 o2)
 clear o1 o2 HD HV b0 hMB0 hB0s
 unfold mval
 go_upto_region 2 with fail
 obtain ⟨X,hX,hbYX,hM⟩ := msg_box Y m (.slice a1 m.mems.length d1) (.slice a2 m.log.length d2)
 rw [hX]
 clear hX
 have hbX := hbY.trans (hbYX.mono hbY.size)
 have HOX : Hid (X.ownsRow (w.heap.size + 1) 3 1 (.slice a1 m.mems.length d1) m.mems.length (ints m.mems) ∧ X.ownsRow (w.heap.size + 1) 42 5 (.slice a2 m.log.length d2) m.log.length (ints (entsNums m.log))) := hideA ⟨owns_kept HO.out.1 fun k _ hk => hbYX.block k hk,owns_kept HO.out.2 fun k _ hk => hbYX.block k hk⟩
 have hys := hbY.size
 have gM := fun j => cell_of_heap hM j
 have HM := hideA hM
 clear hM HO
 have IX := hideA (HI.out.below hbX)
 cases her : (er == 0) with
 | false =>
  have N0 : Hid (¬ er = 0) := hideA (by simpa using her)
  have H : Hid (arrOf c L = c) := hideA (by unfold arrOf; rw [hmo,if_neg N0.out])
  go_wp2_with fail
  (try simp only [Exit.inBlock,Exit.then]); refine bodyPost_ret (results_none rfl _ _ _) rfl ?_
  rw [H.out]
  exact ⟨⟨_,rfl⟩,CAfter.still HA.out hbX⟩
 | true =>
  have P0 : er = 0 := by simpa using her
  subst P0
  rw [if_pos rfl] at hmo
  have hsent := hs m hmo
  have H : Hid (arrOf c L = c.arrive m) := hideA (by unfold arrOf; rw [hmo])
  by_cases hup : c.upOf m.dst = some true
  ·obtain ⟨j,hp,hu2,hfi⟩ := findIn_yes (gs := gs) hup
   rw [hfi] at HF
   have hj := nodPlace_lt hp
   have hnum := nodPlace_num hp
   have hA := arrive_node hg.nodes.n5 hp hu2
   have hd3 : m.dst < 300 := by rw [← hnum]; exact num_small hg.nodes.n5 hj
   have hout : Hid ((∀ z ∈ ((c.nod j).take m.dst m).2,z.ok = true) ∧ ((c.nod j).take m.dst m).2.length ≤ 100) := hideA (by
    obtain ⟨E',g',hl,ho⟩ := hg.nodes.takes hsent
    rw [takes_nod hp hu2] at hl ho
    refine ⟨fun z hz => (ho z hz).1.ok hl.nodes.n5 hl.nodes.E2000, ?_⟩
    have hk := nodOK hg j hj
    rw [hnum] at hk
    refine nodTake_len hk fun s hsm => ⟨E', ?_⟩
    have hr := hl.reps
    rcases nod_at hp with ⟨_,h2,_⟩ | ⟨_,_,h3,_⟩ | ⟨h1,h2,h3,h4,h5⟩
    ·rw [h2] at hsm; cases hsm
    ·rw [h3] at hsm; cases hsm
    ·have hS := hl.nodes.S m.dst h3
     rw [h4] at hsm
     cases hsm
     rw [h4] at hS
     simp only [Nod.take] at hS
     rw [h5,mas_setMas hg.nodes.m2 h3 h3,if_pos rfl] at hS
     exact hS)
   obtain ⟨cs,hcs,hst⟩ := IX.out.sta
   have HST := hideA (And.intro hcs (hst j hj))
   have c2 : X.cell? ⟨gs,j * 3 + 2,none⟩ = some (.iface (nodTy (c.nod j)) (.pointer (some ⟨b j,0,none⟩))) := (cell_of_heap hcs (j * 3 + 2)).trans (hst j hj).2.2
   clear hcs hst
   have hm := meth_take (c.nod j) (some ⟨b j,0,none⟩)
   have HC : Hid (∀ W,Below X.heap.size X W → Calls Tryz.prog (takeFn (c.nod j)) #[.pointer (some ⟨b j,0,none⟩), .agg #[.int .i64 m.kind, .int .i64 m.src, .int .i64 m.dst, .int .i64 m.epoch, .int .i64 m.ballot, .int .i64 m.vote, .int .i64 m.pos, .int .i64 m.value, .slice a1 m.mems.length d1, .slice a2 m.log.length d2]] W fun e w' => NodOut X w' (Fn j) (b j) m.dst e ((c.nod j).take m.dst m)) := hideA fun W hb => by
    have hN : NodAt W (Fn j) (b j) m.dst (c.nod j) := by
     rw [← hnum]
     exact (IX.out.nod j hj).keep fun k hk => hb.block k ((IX.out.nod j hj).lt hk)
    have hnF : ∀ k,w.heap.size + 1 ≤ k → ¬ Fn j k := fun k hk e => by
     have := HI.out.lt k (HI.out.inN j hj k e)
     omega
    exact (nodTake_any c.reps.length E (Fn j) (b j) m.dst (c.nod j) m _ _ W hN (hnum ▸ nodOK hg j hj) hu2 hsent.1 (owns_base (owns_kept HOX.out.1 fun k _ hk => hb.block k hk) (Nat.zero_le _)) (owns_base (owns_kept HOX.out.2 fun k _ hk => hb.block k hk) (Nat.zero_le _)) rfl
     (fun k e => hnF k (ownBlock_cells HOX.out.1 e).choose_spec.2) (fun k e => hnF k (ownBlock_cells HOX.out.2 e).choose_spec.2)).mono fun e w' ho => NodOut.below hb ho
   have HS : Hid (∀ W v,Moved X W (Fn j) → MsgsOwn W X.heap.size v ((c.nod j).take m.dst m).2 → Calls Tryz.prog 36 #[.pointer (some ⟨x,4,none⟩),v] W fun e w' => (∃ v,e = .returned v) ∧ BagTo W w' x (.slice (some ⟨gs,0,none⟩) (c.reps.length + 5) cap) vr va vm vb vt (puts c.bag ((c.nod j).take m.dst m).2)) := hideA fun W v hM hv => bagSend_any x _ vr va vm vb vt c.bag _ v _ W (IX.out.bagBeside j hj hM).1 hg.bag hv hout.out.1 (by have := hout.out.2; omega)
   have HK : Hid (∀ W,Moved X W (Fn j) → (W.cell? ⟨gs,j * 3 + 2,none⟩ = some (.iface (nodTy (c.nod j)) (.pointer (some ⟨b j,0,none⟩))) ∧ W.heap[Y.heap.size]? = some (.cells #[.int .i64 m.kind, .int .i64 m.src, .int .i64 m.dst, .int .i64 m.epoch, .int .i64 m.ballot, .int .i64 m.vote, .int .i64 m.pos, .int .i64 m.value, .slice a1 m.mems.length d1, .slice a2 m.log.length d2] 134)) ∧ ∀ w' l',BagTo W w' x (.slice (some ⟨gs,0,none⟩) (c.reps.length + 5) cap) vr va vm vb vt l' → w'.cell? ⟨gs,j * 3 + 2,none⟩ = some (.iface (nodTy (c.nod j)) (.pointer (some ⟨b j,0,none⟩))) ∧ w'.heap[Y.heap.size]? = some (.cells #[.int .i64 m.kind, .int .i64 m.src, .int .i64 m.dst, .int .i64 m.epoch, .int .i64 m.ballot, .int .i64 m.vote, .int .i64 m.pos, .int .i64 m.value, .slice a1 m.mems.length d1, .slice a2 m.log.length d2] 134)) := hideA fun W hM => by
    obtain ⟨q1,q2⟩ := IX.out.bagBeside j hj hM
    have q3 := q2.trans HST.out.1
    have q4 : W.heap[Y.heap.size]? = some (.cells #[.int .i64 m.kind, .int .i64 m.src, .int .i64 m.dst, .int .i64 m.epoch, .int .i64 m.ballot, .int .i64 m.vote, .int .i64 m.pos, .int .i64 m.value, .slice a1 m.mems.length d1, .slice a2 m.log.length d2] 134) := (hM.block _ (Array.getElem?_eq_some_iff.1 HM.out).1 (fun e => by have := HI.out.lt _ (HI.out.inN j hj _ e); omega)).trans HM.out
    refine ⟨⟨(cell_of_heap q3 (j * 3 + 2)).trans HST.out.2.2.2,q4⟩,fun w' l' hB => ⟨(cell_of_heap (hB.beside q1 q3) (j * 3 + 2)).trans HST.out.2.2.2, ?_⟩⟩
    obtain ⟨vb',z1,z2,z3⟩ := hB
    refine (z2.block _ (Array.getElem?_eq_some_iff.1 q4).1 ?_).trans q4
    rintro (e | e)
    ·rw [e,q1.blk] at q4
     simp at q4
    ·exact blk_type q4 q1.row (by decide) e
   clear hsent hup hfi
   rcases kinds (c.nod j) with ⟨k1,k2,_⟩ | ⟨k1,k2,_⟩ | ⟨k1,k2,_⟩
   ·rw [k1] at c2 hm HK
    rw [k2] at hm HC
    go_wp2_with fail
    refine (HF.out X hbX).mono ?_
    rintro e W9 ⟨rfl,rfl⟩
    go_wp2_with fail
    have hbd := (Below.refl W9.heap.size W9).drew
    go_region_held3 (fun w' => w'.cell? ⟨gs,j * 3 + 2,none⟩ = some (.iface 129 (.pointer (some ⟨b j,0,none⟩))) ∧ ∀ t,w'.cell? ⟨Y.heap.size,t,none⟩ = (#[.int .i64 m.kind, .int .i64 m.src, .int .i64 m.dst, .int .i64 m.epoch, .int .i64 m.ballot, .int .i64 m.vote, .int .i64 m.pos, .int .i64 m.value, .slice a1 m.mems.length d1, .slice a2 m.log.length d2] : Array Value)[t]?) (first | (simp [go_sem]; done) | (simp [go_sem, *]; done) | go_keep)
     (first
      | (go_at_call 261; refine (HC.out _ hbd).mono ?_; rintro e W ⟨v,F',rfl,n1,n2,n3,n4⟩; have HN := hideA (And.intro n1 (And.intro n2 (And.intro n3 n4))); have cW := (HK.out W n2).1.1; have gW := fun t => cell_of_heap (HK.out W n2).1.2 t; clear n1 n2 n3 n4)
      | (go_at_call 36; refine (HS.out _ _ HN.out.2.1 HN.out.2.2.2).mono ?_; rintro e W2 ⟨⟨v2,rfl⟩,hB⟩; have HB := hideA hB; have hz := (HK.out W HN.out.2.1).2 _ _ hB; have cZ := hz.1; have gZ := fun t => cell_of_heap hz.2 t; clear hB hz))
    all_goals (
     obtain ⟨F9,q1,q2,q3⟩ := IX.out.sends j hj ((c.nod j).take m.dst m).1 F' _ (by rw [hnum]; exact HN.out.1) HN.out.2.1 HN.out.2.2.1 (kin_take _ _ _) (nodTake_up _ _ _) HB.out
     have HQ := hideA (And.intro q1 (And.intro q2 q3))
     clear q1 q2 q3
     go_wp2_with fail
     refine (HTl.out a1 a2 d1 d2 _ F9 _ HQ.out.1 (by rw [show ({ c.setNod j ((c.nod j).take m.dst m).1 with bag := puts c.bag ((c.nod j).take m.dst m).2 } : Clu).told = c.told from (setNod_rest c j _).2.1]; exact ht)).mono ?_
     rintro e W3 ⟨⟨v3,rfl⟩,hC⟩
     rw [tell_no hd3] at hC
     have HCf := hideA hC
     clear hC
     go_wp2_with fail
     go_end0
     rw [H.out,hA]
     exact ⟨⟨_,rfl⟩,CAfter.trans ((Moved.refl w F).below hbX) (fun _ e => .inl e) (CAfter.trans HQ.out.2.1 HQ.out.2.2 HCf.out)⟩)
   ·rw [k1] at c2 hm HK
    rw [k2] at hm HC
    go_wp2_with fail
    refine (HF.out X hbX).mono ?_
    rintro e W9 ⟨rfl,rfl⟩
    go_wp2_with fail
    have hbd := (Below.refl W9.heap.size W9).drew
    go_region_held3 (fun w' => w'.cell? ⟨gs,j * 3 + 2,none⟩ = some (.iface 99 (.pointer (some ⟨b j,0,none⟩))) ∧ ∀ t,w'.cell? ⟨Y.heap.size,t,none⟩ = (#[.int .i64 m.kind, .int .i64 m.src, .int .i64 m.dst, .int .i64 m.epoch, .int .i64 m.ballot, .int .i64 m.vote, .int .i64 m.pos, .int .i64 m.value, .slice a1 m.mems.length d1, .slice a2 m.log.length d2] : Array Value)[t]?) (first | (simp [go_sem]; done) | (simp [go_sem, *]; done) | go_keep)
     (first
      | (go_at_call 250; refine (HC.out _ hbd).mono ?_; rintro e W ⟨v,F',rfl,n1,n2,n3,n4⟩; have HN := hideA (And.intro n1 (And.intro n2 (And.intro n3 n4))); have cW := (HK.out W n2).1.1; have gW := fun t => cell_of_heap (HK.out W n2).1.2 t; clear n1 n2 n3 n4)
      | (go_at_call 36; refine (HS.out _ _ HN.out.2.1 HN.out.2.2.2).mono ?_; rintro e W2 ⟨⟨v2,rfl⟩,hB⟩; have HB := hideA hB; have hz := (HK.out W HN.out.2.1).2 _ _ hB; have cZ := hz.1; have gZ := fun t => cell_of_heap hz.2 t; clear hB hz))
    all_goals (
     obtain ⟨F9,q1,q2,q3⟩ := IX.out.sends j hj ((c.nod j).take m.dst m).1 F' _ (by rw [hnum]; exact HN.out.1) HN.out.2.1 HN.out.2.2.1 (kin_take _ _ _) (nodTake_up _ _ _) HB.out
     have HQ := hideA (And.intro q1 (And.intro q2 q3))
     clear q1 q2 q3
     go_wp2_with fail
     refine (HTl.out a1 a2 d1 d2 _ F9 _ HQ.out.1 (by rw [show ({ c.setNod j ((c.nod j).take m.dst m).1 with bag := puts c.bag ((c.nod j).take m.dst m).2 } : Clu).told = c.told from (setNod_rest c j _).2.1]; exact ht)).mono ?_
     rintro e W3 ⟨⟨v3,rfl⟩,hC⟩
     rw [tell_no hd3] at hC
     have HCf := hideA hC
     clear hC
     go_wp2_with fail
     go_end0
     rw [H.out,hA]
     exact ⟨⟨_,rfl⟩,CAfter.trans ((Moved.refl w F).below hbX) (fun _ e => .inl e) (CAfter.trans HQ.out.2.1 HQ.out.2.2 HCf.out)⟩)
   ·rw [k1] at c2 hm HK
    rw [k2] at hm HC
    go_wp2_with fail
    refine (HF.out X hbX).mono ?_
    rintro e W9 ⟨rfl,rfl⟩
    go_wp2_with fail
    have hbd := (Below.refl W9.heap.size W9).drew
    go_region_held3 (fun w' => w'.cell? ⟨gs,j * 3 + 2,none⟩ = some (.iface 81 (.pointer (some ⟨b j,0,none⟩))) ∧ ∀ t,w'.cell? ⟨Y.heap.size,t,none⟩ = (#[.int .i64 m.kind, .int .i64 m.src, .int .i64 m.dst, .int .i64 m.epoch, .int .i64 m.ballot, .int .i64 m.vote, .int .i64 m.pos, .int .i64 m.value, .slice a1 m.mems.length d1, .slice a2 m.log.length d2] : Array Value)[t]?) (first | (simp [go_sem]; done) | (simp [go_sem, *]; done) | go_keep)
     (first
      | (go_at_call 239; refine (HC.out _ hbd).mono ?_; rintro e W ⟨v,F',rfl,n1,n2,n3,n4⟩; have HN := hideA (And.intro n1 (And.intro n2 (And.intro n3 n4))); have cW := (HK.out W n2).1.1; have gW := fun t => cell_of_heap (HK.out W n2).1.2 t; clear n1 n2 n3 n4)
      | (go_at_call 36; refine (HS.out _ _ HN.out.2.1 HN.out.2.2.2).mono ?_; rintro e W2 ⟨⟨v2,rfl⟩,hB⟩; have HB := hideA hB; have hz := (HK.out W HN.out.2.1).2 _ _ hB; have cZ := hz.1; have gZ := fun t => cell_of_heap hz.2 t; clear hB hz))
    all_goals (
     obtain ⟨F9,q1,q2,q3⟩ := IX.out.sends j hj ((c.nod j).take m.dst m).1 F' _ (by rw [hnum]; exact HN.out.1) HN.out.2.1 HN.out.2.2.1 (kin_take _ _ _) (nodTake_up _ _ _) HB.out
     have HQ := hideA (And.intro q1 (And.intro q2 q3))
     clear q1 q2 q3
     go_wp2_with fail
     refine (HTl.out a1 a2 d1 d2 _ F9 _ HQ.out.1 (by rw [show ({ c.setNod j ((c.nod j).take m.dst m).1 with bag := puts c.bag ((c.nod j).take m.dst m).2 } : Clu).told = c.told from (setNod_rest c j _).2.1]; exact ht)).mono ?_
     rintro e W3 ⟨⟨v3,rfl⟩,hC⟩
     rw [tell_no hd3] at hC
     have HCf := hideA hC
     clear hC
     go_wp2_with fail
     go_end0
     rw [H.out,hA]
     exact ⟨⟨_,rfl⟩,CAfter.trans ((Moved.refl w F).below hbX) (fun _ e => .inl e) (CAfter.trans HQ.out.2.1 HQ.out.2.2 HCf.out)⟩)
  ·obtain ⟨en,hen,hfi⟩ := findIn_no (gs := gs) hup
   rw [hfi] at HF
   have hA := arrive_tell hup hg.bag
   go_wp2_with fail
   refine (HF.out X hbX).mono ?_
   rintro e W ⟨rfl,rfl⟩
   go_wp2_with fail
   refine (HTl.out a1 a2 d1 d2 _ F c ⟨gs,cap,b,Fn,vr,va,vm,vb,vt,IX.out⟩ ht).mono ?_
   rintro e W3 ⟨⟨v3,rfl⟩,hC⟩
   have HCf := hideA hC
   clear hC
   go_wp2_with fail
   go_end0
   rw [H.out,hA]
   exact ⟨⟨_,rfl⟩,CAfter.trans ((Moved.refl w F).below hbX) (fun _ e => .inl e) HCf.out⟩
theorem frame_len {c : Clu} {E : Int} {g : Gh} (hg : Good c E g) {f : List UInt8 × Bool} (hf : f ∈ c.bag) : f.1.length ≤ 100000 := by
 obtain ⟨m,hm,h2⟩ := hg.frames f hf
 have hl : m.frame.length ≤ 1000 := by
  have h5 := hm.1.mems5 hg.nodes.n5
  have h24 := hm.1.log.1
  unfold Msg.frame frame
  rw [List.length_append,body_length,sumOf_length]
  have : m.head.length = 7 := rfl
  omega
 rcases h2 with q | ⟨_,_,q⟩
 ·rw [q]; omega
 ·omega
set_option maxRecDepth 100000 in
theorem cluDeliver_any {w : World} {F : Nat → Prop} {x : Nat} {c : Clu} {E : Int} {g : Gh} (d : Int) (h : CAt w F x c) (hg : Good c E g) (ht : c.told.length ≤ 2999999999999) :
  Calls Tryz.prog 31 #[.pointer (some ⟨x,0,none⟩), .int .i64 d] w fun r w' => r = .returned (.int .i64 (c.deliver d).2) ∧ CAfter w F x (c.deliver d).1 w' := by
 have HA := hideA h
 obtain ⟨gs,cap,b,Fn,vr,va,vm,vb,vt,h⟩ := h
 have hf := bagHas_any x _ vr va vm vb vt c.bag d w h.bag
 by_cases hh : c.hasFrame d
 ·have e : decide (0 ≤ d ∧ d < (c.bag.length : Int)) = true := decide_eq_true hh
  rw [e] at hf
  have hd : d = ((d.toNat : Nat) : Int) := by have := hh.1; omega
  have hfm := frameAt_mem hh
  have H : Hid (c.deliver d = (arrOf (c.gone d) (c.frameAt d).1,0)) := hideA (by
   unfold Clu.deliver arrOf
   rw [if_pos hh]
   cases msgOf (c.frameAt d).1 <;> rfl)
  have HT := hideA (bagTake_any x _ vr va vm vb vt c.bag d.toNat w h.bag (by have := hh.1; have := hh.2; omega) hg.bag)
  have hg2 := hg.gone d
  have HR : Hid (∀ W F',CAt W F' x (c.gone d) → Calls Tryz.prog 63 #[.pointer (some ⟨x,0,none⟩), .agg #[.string (bs (c.frameAt d).1), .bool (c.frameAt d).2]] W fun r w' => (∃ v,r = .returned v) ∧ CAfter W F' x (arrOf (c.gone d) (c.frameAt d).1) w') := hideA fun W F' hA => arrive_any (c.frameAt d).1 (c.frameAt d).2 (frame_len hg hfm) hA hg2 ht (fun m hm => hg.msg hfm hm)
  have HI := hideA h
  rw [← hd] at HT
  have hfr : (c.bag.getD d.toNat ([],false)) = c.frameAt d := rfl
  rw [hfr] at HT
  have hgo : ({ c with bag := c.bag.eraseIdx d.toNat } : Clu) = c.gone d := rfl
  clear h e hd hfr
  generalize c.frameAt d = fr at *
  go_enter Tryz.func31,Tryz.ntmps31
  go_wp2_with fail
  refine hf.mono ?_
  rintro e w1 ⟨rfl,rfl⟩
  clear hf
  go_wp2_with fail
  refine HT.out.mono ?_
  rintro e W ⟨rfl,hB⟩
  obtain ⟨F1,q1,q2,q3⟩ := HI.out.bagAfter _ hB
  rw [hgo] at q1
  have HQ := hideA (And.intro q1 (And.intro q2 q3))
  clear hB q1 q2 q3
  go_wp2_with fail
  refine (HR.out W F1 HQ.out.1).mono ?_
  rintro e Z ⟨⟨v,rfl⟩,hC⟩
  have HC := hideA hC
  clear hC
  go_wp2_with fail
  go_ret
  rw [H.out]
  exact ⟨rfl,CAfter.trans HQ.out.2.1 HQ.out.2.2 HC.out⟩
 ·have e : decide (0 ≤ d ∧ d < (c.bag.length : Int)) = false := decide_eq_false hh
  rw [e] at hf
  have H : Hid (c.deliver d = (c,8)) := hideA (by unfold Clu.deliver; rw [if_neg hh])
  clear h e
  go_enter Tryz.func31,Tryz.ntmps31
  go_wp2_with fail
  refine hf.mono ?_
  rintro e w1 ⟨rfl,rfl⟩
  clear hf
  go_wp2_with fail
  go_ret
  rw [H.out]
  exact ⟨rfl,CAfter.still HA.out (Below.refl _ _)⟩
end Go.Proofs.YtgieeeeeiggoeaaGreat
