import Derived.Test.YtgieeeeeiggoeaaGreatQ52
import Derived.Test.YtgieeeeeiggoeaaGreatQ14
import Derived.Test.YtgieeeeeiggoeaaGreatQ50
import Derived.BigRegion
import Derived.Test.YtgieeeeeiggoeaaGreatQ49
import Derived.ProofKit
import Derived.OpenShut
import Derived.Deep.Slices
import Derived.SizedLaws
import Derived.Test.YtgieeeeeiggoeaaGreatQ15
namespace Go.Proofs.YtgieeeeeiggoeaaGreat
open Go.RowKit Go.Shelf
theorem listIn_own {w : World} {base : Nat} {v : Value} {l : List Int} (h : w.ownsRow base 3 1 v l.length (ints l)) : ListIn w v l := ⟨IntsAt.of_owns h,own_cap h⟩
end Go.Proofs.YtgieeeeeiggoeaaGreat
namespace Go.Proofs.YtgieeeeeiggoeaaGreat
open Go.ChangeShapes Go.WideShapes Go.ChangeAt Go.RowKit Go.Deep
def ScrAt (w : World) (v : Value) (l : List KStep) : Prop :=
 ∃ a c,v = .slice a l.length c ∧ ∀ i o,l[i]? = some o → ∃ b off vL,a = some ⟨b,off,none⟩ ∧ b < w.heap.size ∧
  w.cell? ⟨b,off + i * 6,none⟩ = some (.int .i64 o.kind) ∧ w.cell? ⟨b,off + i * 6 + 1,none⟩ = some (.int .i64 o.N) ∧ w.cell? ⟨b,off + i * 6 + 2,none⟩ = some (.int .i64 o.I) ∧
  w.cell? ⟨b,off + i * 6 + 3,none⟩ = some (.int .i64 o.A) ∧ w.cell? ⟨b,off + i * 6 + 4,none⟩ = some (.int .i64 o.B) ∧ w.cell? ⟨b,off + i * 6 + 5,none⟩ = some vL ∧ IntsAt w vL o.L ∧ o.Fit
section
variable {H : Type} {enc : TypeId × Value → H} {W : World}
theorem scr_cells_int : Tryz.prog.cellsOf 3 = 1 := by kernel_rfl
theorem scr_cells_row : Tryz.prog.cellsOf 29 = 1 := by kernel_rfl
theorem scr_cells : Tryz.prog.cellsOf 31 = 6 := by kernel_rfl
theorem scr_list6 {cs : List Value} (h : cs.length = 6) : ∃ c0 c1 c2 c3 c4 c5,cs = [c0,c1,c2,c3,c4,c5] := by
 match cs,h with
 | [c0,c1,c2,c3,c4,c5],_ => exact ⟨c0,c1,c2,c3,c4,c5,rfl⟩
theorem scr_int {n : Nat} {c : Value} {xs : List (DataW H × List MemPlace)} {i : Nat} (hi : i < xs.length) (h : DataW.trod enc Tryz.prog W 0 (fun _ => true) true n 3 [c] = xs[i]?) : ∃ z,c = .int .i64 z ∧ -9223372036854775808 ≤ z ∧ z ≤ 9223372036854775807 := by
 rw [List.getElem?_eq_getElem hi] at h
 obtain ⟨z,hz,_,hw⟩ := DataW.trod_int Tryz.underlying3 h
 exact ⟨z,by simpa using hz,bounds_i64 hw⟩
theorem scr_ints {n : Nat} {v : Value} {x : DataW H × List MemPlace} (h : DataW.trod enc Tryz.prog W 0 (fun _ => true) true n 29 [v] = some x) :
  ∃ ms : List Int,IntsAt W v ms ∧ I64s ms := by
 rcases open_ints Tryz.underlying29 Tryz.underlying3 (by kernel_rfl) h with ⟨hcs,_⟩ | ⟨a,len,cap,zs,hcs,_,hl,hm,hz,rfl,hcell,hwz⟩
 ·obtain rfl : v = .slice none 0 0 := by simpa using hcs
  exact ⟨[],⟨none,0,rfl,fun i hi => absurd hi (Nat.not_lt_zero _)⟩,fun x hx => by cases hx⟩
 ·obtain rfl : v = .slice (some a) len cap := by simpa using hcs
  have hz' : zs.length = cap := by simpa using hz
  have hlen : (zs.take len).length = len := by rw [List.length_take]; omega
  refine ⟨zs.take len,⟨some a,cap,by rw [hlen],fun i hi => ?_⟩,fun x hx => bounds_i64 (hwz x (List.mem_of_mem_take hx))⟩
  rw [hlen] at hi
  obtain ⟨b,off,rfl,hc⟩ := ints_at hcell (by omega)
  refine ⟨b,off,rfl, ?_⟩
  rw [hc i (by omega)]
  simp [List.getD,hi]
theorem open_step {n : Nat} {cs : List Value} {x : DataW H × List MemPlace} (h : DataW.trod enc Tryz.prog W 0 (fun _ => true) true n 31 cs = some x) :
  ∃ (o : KStep) (vL : Value),cs = [.int .i64 o.kind, .int .i64 o.N, .int .i64 o.I, .int .i64 o.A, .int .i64 o.B,vL] ∧ IntsAt W vL o.L ∧ o.Fit := by
 obtain ⟨xs,m,_,_,hl,hlen,hf⟩ := DataW.trod_struct Tryz.underlying31 h
 obtain ⟨c0,c1,c2,c3,c4,c5,rfl⟩ := scr_list6 (hl.trans scr_cells)
 have hlen' : xs.length = 6 := hlen
 have f0 : DataW.trod enc Tryz.prog W 0 (fun _ => true) true m 3 (([c0,c1,c2,c3,c4,c5].drop 0).take (Tryz.prog.cellsOf 3)) = xs[0]? := hf 0 _ rfl
 have f1 : DataW.trod enc Tryz.prog W 0 (fun _ => true) true m 3 (([c0,c1,c2,c3,c4,c5].drop 1).take (Tryz.prog.cellsOf 3)) = xs[1]? := hf 1 _ rfl
 have f2 : DataW.trod enc Tryz.prog W 0 (fun _ => true) true m 3 (([c0,c1,c2,c3,c4,c5].drop 2).take (Tryz.prog.cellsOf 3)) = xs[2]? := hf 2 _ rfl
 have f3 : DataW.trod enc Tryz.prog W 0 (fun _ => true) true m 3 (([c0,c1,c2,c3,c4,c5].drop 3).take (Tryz.prog.cellsOf 3)) = xs[3]? := hf 3 _ rfl
 have f4 : DataW.trod enc Tryz.prog W 0 (fun _ => true) true m 3 (([c0,c1,c2,c3,c4,c5].drop 4).take (Tryz.prog.cellsOf 3)) = xs[4]? := hf 4 _ rfl
 have f5 : DataW.trod enc Tryz.prog W 0 (fun _ => true) true m 29 (([c0,c1,c2,c3,c4,c5].drop 5).take (Tryz.prog.cellsOf 29)) = xs[5]? := hf 5 _ rfl
 rw [scr_cells_int] at f0 f1 f2 f3 f4
 rw [scr_cells_row] at f5
 obtain ⟨z0,rfl,b0⟩ := scr_int (by omega) f0
 obtain ⟨z1,rfl,b1⟩ := scr_int (by omega) f1
 obtain ⟨z2,rfl,b2⟩ := scr_int (by omega) f2
 obtain ⟨z3,rfl,b3⟩ := scr_int (by omega) f3
 obtain ⟨z4,rfl,b4⟩ := scr_int (by omega) f4
 have e5 : xs[5]? = some xs[5] := List.getElem?_eq_getElem (by omega)
 rw [e5] at f5
 obtain ⟨ms,hms,hm6⟩ := scr_ints f5
 exact ⟨⟨z0,z1,z2,z3,z4,ms⟩,c5,rfl,hms,⟨b0,b1,b2,b3,b4,hm6⟩⟩
theorem open_script {n : Nat} {v : Value} {x : DataW H × List MemPlace} (h : DataW.trod enc Tryz.prog W 0 (fun _ => true) true n 26 [v] = some x) :
  ∃ l : List KStep,ScrAt W v l ∧ (l = [] ∨ ∃ el sp,x.1 = .slice el sp ∧ el.length = l.length) := by
 rcases open_slice Tryz.underlying26 h with ⟨hcs,_⟩ | ⟨a,len,cap,m,k,D,Pl,hcs,hb,hl,hm,hmm,rfl,hx⟩
 ·obtain rfl : v = .slice none 0 0 := by simpa using hcs
  exact ⟨[],⟨none,0,rfl,fun i o hi => by simp at hi⟩, .inl rfl⟩
 ·obtain rfl : v = .slice (some a) len cap := by simpa using hcs
  have hm' : m = cap := by simpa using hmm
  have ad2 : ∀ x y,(a.add x).add y = a.add (x + y) := by
   intro x y
   unfold Addr.add
   by_cases hx : x = 0 <;> by_cases hy : y = 0 <;> simp [hx,hy,Nat.add_assoc]
  haveI : Inhabited (KStep × Value) := ⟨(⟨0,0,0,0,0, []⟩, .bool false)⟩
  obtain ⟨E,hE⟩ := choose_lt (α := KStep × Value) (n := len) (p := fun i e => (∀ j,j < 6 → W.cell? (a.add (i * 6 + j)) = [Value.int .i64 e.1.kind, .int .i64 e.1.N, .int .i64 e.1.I, .int .i64 e.1.A, .int .i64 e.1.B,e.2][j]?) ∧ IntsAt W e.2 e.1.L ∧ e.1.Fit) (fun i hi => by
   obtain ⟨cs',h1,h2⟩ := hx i (by omega)
   obtain ⟨o,vL,rfl,hL,hF⟩ := open_step h2
   rw [scr_cells] at h1
   refine ⟨(o,vL),fun j hj => ?_,hL,hF⟩
   have := (World.cells?_some h1).2.2 j hj
   rw [← this,ad2])
  refine ⟨(List.range len).map (fun i => (E i).1),⟨some a,cap,by simp,fun i o hi => ?_⟩, .inr ⟨_,_,rfl,by simp⟩⟩
  have hi' : i < len := by
   have := (List.getElem?_eq_some_iff.1 hi).1
   simpa using this
  have ho : (E i).1 = o := by
   rw [List.getElem?_map,List.getElem?_range hi'] at hi
   simpa using hi
  subst ho
  obtain ⟨hs,hL,hF⟩ := hE i hi'
  obtain ⟨b,off,spot⟩ := a
  have hspot : spot = none := by simpa [Addr.add] using World.cell?_spot ((hE 0 (by omega)).1 0 (by omega))
  subst hspot
  have ad : ∀ j,(⟨b,off,none⟩ : Addr).add j = ⟨b,off + j,none⟩ := fun j => by unfold Addr.add; simp
  have c0 : W.cell? ⟨b,off + i * 6,none⟩ = some (.int .i64 (E i).1.kind) := by have := hs 0 (by omega); rw [ad] at this; exact this
  refine ⟨b,off,(E i).2,rfl,cell_lt c0,c0, ?_, ?_, ?_, ?_, ?_,hL,hF⟩
  ·have := hs 1 (by omega); rw [ad] at this; exact this
  ·have := hs 2 (by omega); rw [ad] at this; exact this
  ·have := hs 3 (by omega); rw [ad] at this; exact this
  ·have := hs 4 (by omega); rw [ad] at this; exact this
  ·have := hs 5 (by omega); rw [ad] at this; exact this
theorem scr_bytes : Tryz.prog.bytesOf 31 = 64 := by kernel_rfl
end
theorem ScrAt.below {w w' : World} {v : Value} {l : List KStep} (h : ScrAt w v l) (hb : Below w.heap.size w w') : ScrAt w' v l := by
 obtain ⟨a,c,rfl,h⟩ := h
 refine ⟨a,c,rfl,fun i o hi => ?_⟩
 obtain ⟨b,off,vL,ha,hlt,h0,h1,h2,h3,h4,h5,hL,hF⟩ := h i o hi
 have hs := hb.size
 exact ⟨b,off,vL,ha,by omega,cell_later hb h0,cell_later hb h1,cell_later hb h2,cell_later hb h3,cell_later hb h4,cell_later hb h5,hL.below hb,hF⟩
end Go.Proofs.YtgieeeeeiggoeaaGreat
namespace Go.Proofs.YtgieeeeeiggoeaaGreat
open Go.RowKit Go.Shelf
theorem quick_fine {r : Run} {n : Nat} {L : List Ent} {B : Nat} (h : QI r n L) (hf : Fine r B) (o : KStep) (hL : L.length ≤ 22) :
  ∃ E g,r.x.isRep (pickI o.N r.n) ∧ (r.entry { o with A := 0 }).ok = true ∧ Mid r E g ∧ Good (r.x.ask (pickI o.N r.n) (r.entry { o with A := 0 })).1 E (g.addAsk (r.entry { o with A := 0 })) ∧ Fine (r.ask (pickI o.N r.n) (r.entry { o with A := 0 })) B := by
 obtain ⟨E,g,hri⟩ := hf.ri
 have hd := pick_rep hri.mid o.N
 have he : (r.entry { o with A := 0 }).ok = true := entry_ok hri.mid.wok _
 have hri2 := hri.ask' _ _ hd he
 have hwl : r.wishes.length = L.length := by
  have := congrArg List.length h.wish
  rwa [List.length_map] at this
 refine ⟨E,g,hd,he,hri.mid,hri2.mid.good,⟨_,_,hri2⟩, ?_,hf.fl, ?_⟩
 ·unfold Run.ask
  simp only []
  split
  ·omega
  ·rw [List.length_append,List.length_singleton]; omega
 ·show (r.x.ask _ _).1.told.length ≤ _
  rw [ask_told]
  exact hf.tl
def RunOff (G : Nat → Prop) (w0 w : World) (p x : Nat) (r : Run) : Prop :=
 ∃ FX FR vW vF vL,RunIn w p x FX FR r vW vF vL ∧ (∀ k,FX k ∨ OwnR p vW vF vL FR k → w0.heap.size ≤ k) ∧ Below w0.heap.size w0 w ∧ ∀ k,G k → k < w.heap.size ∧ ¬ (FX k ∨ OwnR p vW vF vL FR k)
theorem RunOff.at {G : Nat → Prop} {w0 w : World} {p x : Nat} {r : Run} (h : RunOff G w0 w p x r) : RunAt w0 w p x r := by
 obtain ⟨FX,FR,vW,vF,vL,h1,h2,h3, -⟩ := h
 exact ⟨FX,FR,vW,vF,vL,h1,h2,h3⟩
theorem RunOff.below {G : Nat → Prop} {w0 w w' : World} {p x : Nat} {r : Run} (h : RunOff G w0 w p x r) (hb : Below w.heap.size w w') : RunOff G w0 w' p x r := by
 obtain ⟨FX,FR,vW,vF,vL,h1,h2,h3,h4⟩ := h
 have := hb.size
 exact ⟨FX,FR,vW,vF,vL,h1.below hb,h2,h3.trans (hb.mono h3.size),fun k hk => ⟨by have := (h4 k hk).1; omega,(h4 k hk).2⟩⟩
theorem RunOff.after {G : Nat → Prop} {w0 w w' : World} {p x : Nat} {FX FR : Nat → Prop} {r : Run} {vW vF vL : Value} (h : RunIn w p x FX FR r vW vF vL) (hn : ∀ k,FX k ∨ OwnR p vW vF vL FR k → w0.heap.size ≤ k) (hb : Below w0.heap.size w0 w) (hG : ∀ k,G k → k < w.heap.size ∧ ¬ (FX k ∨ OwnR p vW vF vL FR k)) (c' : Clu) (ha : CAfter w FX x c' w') :
  RunOff G w0 w' p x { r with x := c' } ∧ ∀ k,G k → w'.heap[k]? = w.heap[k]? := by
 obtain ⟨F',h1,h2,h3⟩ := h.after c' ha
 have hs := hb.size
 have hs2 := h2.size
 refine ⟨⟨F',FR,vW,vF,vL,h1,fun k hk => ?_,hb.trans (h2.to_below (fun k e => hn k (.inl e)) hs),fun k hk => ?_⟩,fun k hk => h2.block k (hG k hk).1 (fun e => (hG k hk).2 (.inl e))⟩
 ·rcases hk with e | e
  ·rcases h3 k e with e | e
   ·exact hn k (.inl e)
   ·omega
  ·exact hn k (.inr e)
 ·obtain ⟨q1,q2⟩ := hG k hk
  refine ⟨by omega,fun e => ?_⟩
  rcases e with e | e
  ·rcases h3 k e with e | e
   ·exact q2 (.inl e)
   ·omega
  ·exact q2 (.inr e)
theorem look_off {G : Nat → Prop} {w0 w : World} {p x : Nat} {r : Run} {E : Int} {g : Gh} (h : RunOff G w0 w p x r) (hm : Mid r E g) (hwl : r.wishes.length ≤ 900000) (hfl : r.fixed.length ≤ 24) (htl : r.x.told.length ≤ 2999999999999) :
  Calls Tryz.prog 27 #[.pointer (some ⟨p,0,none⟩)] w fun z w' => (∃ v,z = .returned v) ∧ RunOff G w0 w' p x r.look ∧ ∀ k,G k → w'.heap[k]? = w.heap[k]? := by
 obtain ⟨FX,FR,vW,vF,vL,h,hn,hb0,hG⟩ := h
 refine (look_in h hn hb0 hm hwl hfl htl).mono ?_
 rintro z w' ⟨h1,FX',FR',vW',vF',vL',h2,h3,h4,h5,h6⟩
 have hk6 : ∀ k,G k → w'.heap[k]? = w.heap[k]? := fun k hk => h6 k (hG k hk).1 (hG k hk).2
 refine ⟨h1,⟨FX',FR',vW',vF',vL',h2,h3,h4,fun k hk => ⟨lt_of_keep (hG k hk).1 (hk6 k hk),fun e => ?_⟩⟩,hk6⟩
 rcases h5 k e with q | q
 ·exact (hG k hk).2 q
 ·have := (hG k hk).1
  omega
set_option maxRecDepth 100000 in
set_option maxHeartbeats 2000000 in
theorem kdrain_off {G : Nat → Prop} {w0 w : World} {p x : Nat} {r : Run} {B : Nat} (h : RunOff G w0 w p x r) (hf : Fine r B) (hB : B + 5000 ≤ 2999999999999) :
  Calls Tryz.prog 16 #[.pointer (some ⟨p,0,none⟩)] w fun z w' => (∃ v,z = .returned v) ∧ RunOff G w0 w' p x (Run.drain 5000 r) ∧ Fine (Run.drain 5000 r) (B + 5000) ∧ ∀ k,G k → w'.heap[k]? = w.heap[k]? := by
 have H0 := hideA (And.intro h hf)
 clear h
 go_enter Tryz.func16,Tryz.ntmps16
 go_wp2_with fail
 go_loopw [2] (fun i wr => ∃ k : Nat,k ≤ 5000 ∧ i = .int .i64 k ∧ ∃ r',RunOff G w0 wr p x r' ∧ Fine r' (B + k) ∧ Run.drain (5000 - k) r' = Run.drain 5000 r ∧ ∀ k,G k → wr.heap[k]? = w.heap[k]?) (fun i _ => 5000 - (intOf i).toNat)
 case atStart => exact ⟨0,Nat.zero_le _,rfl,r,H0.out.1,H0.out.2,rfl,fun _ _ => rfl⟩
 case round =>
  obtain ⟨k,hk,rfl,r',hA,hF,hD,hKp⟩ := hrel
  obtain ⟨E,g,hri⟩ := hF.ri
  have hA2 := hA
  obtain ⟨FX,FR,vW,vF,vL,hR,hn,hb0,hG⟩ := hA2
  have HR := hideA (And.intro hR (And.intro hn (And.intro hb0 hG)))
  have HF := hideA hF
  have HA := hideA hA
  have HD := hideA hD
  have HKp := hideA hKp
  have hpok : POK r'.x := ⟨⟨_,_,hri.mid.good⟩,by have := hF.tl; omega⟩
  by_cases hlt : k < 5000
  ·have hk1 : (k : Int) < 5000 := by omega
   have q0 : wr.cell? ⟨p,0,none⟩ = some (.pointer (some ⟨x,0,none⟩)) := cell_of_heap hR.blk 0
   have HBg := hideA (bagLen_any cApi p x FX r'.x wr q0 hR.clu hpok)
   clear hR hn hb0 hA hF hD hG hKp
   go_wp2_with fail
   refine HBg.out.mono ?_
   rintro z V ⟨rfl,hbV⟩
   have hRV := HR.out.1.below hbV
   by_cases hbag : r'.x.bag.length = 0
   ·have hfin : Hid (Run.drain 5000 r = r') := hideA (by rw [← HD.out]; exact drain_stop hbag _)
    have hz : ((r'.x.bag.length : Nat) : Int) = 0 := by omega
    rw [hz]
    clear hz q0
    go_wp2_with fail
    go_end0
    rw [hfin.out]
    exact ⟨⟨_,rfl⟩,HA.out.below hbV,⟨HF.out.ri,HF.out.wl,HF.out.fl,by have := HF.out.tl; omega⟩,fun k hk => (hbV.block k (HR.out.2.2.2 k hk).1).trans (HKp.out k hk)⟩
   ·have hz : (0 : Int) < (r'.x.bag.length : Int) := by omega
    obtain ⟨d0,⟨E',g',hmid⟩,dk⟩ := drain_step hri hbag
    have v0 : V.cell? ⟨p,0,none⟩ = some (.pointer (some ⟨x,0,none⟩)) := cell_of_heap hRV.blk 0
    have v9 : V.cell? ⟨p,9,none⟩ = some (.bool true) := by
     have := cell_of_heap hRV.blk 9
     rw [show (runCells r' x vW vF vL)[9]? = some (.bool r'.ok) from rfl,hri.mid.flags.1] at this
     exact this
    have HDl := hideA (cApi.deliver 0 hRV.clu hpok)
    rw [d0] at HDl
    have HRV := hideA hRV
    clear hRV q0
    go_wp2_with fail
    refine HDl.out.mono ?_
    rintro z U ⟨rfl,hAf⟩
    have hAU := RunOff.after (G := G) HRV.out HR.out.2.1 (HR.out.2.2.1.trans (hbV.mono HR.out.2.2.1.size)) (fun k hk => ⟨by have := hbV.size; have := (HR.out.2.2.2 k hk).1; omega,(HR.out.2.2.2 k hk).2⟩) _ hAf
    obtain ⟨F',r1,r2,r3⟩ := HRV.out.after _ hAf
    have u9 : U.cell? ⟨p,9,none⟩ = some (.bool true) := by
     have := cell_of_heap r1.blk 9
     rw [show (runCells { r' with x := (r'.x.deliver 0).1 } x vW vF vL)[9]? = some (.bool r'.ok) from rfl,hri.mid.flags.1] at this
     exact this
    have f9 := frozen_of_heap r1.blk 9
    have hsame : U.setCell ⟨p,9,none⟩ (.bool true) = U := setCell_same r1.blk (by rw [show (runCells { r' with x := (r'.x.deliver 0).1 } x vW vF vL)[9]? = some (.bool r'.ok) from rfl,hri.mid.flags.1])
    have HLk := hideA (look_off hAU.1 hmid HF.out.wl HF.out.fl (by have := deliver_told r'.x 0; have := HF.out.tl; show (r'.x.deliver 0).1.told.length ≤ _; omega))
    have HU : Hid (∀ k,G k → U.heap[k]? = w.heap[k]?) := hideA fun k hk => (hAU.2 k hk).trans ((hbV.block k (HR.out.2.2.2 k hk).1).trans (HKp.out k hk))
    clear hAf r1 r2 r3 v0 v9 hAU
    go_wp2_with fail
    refine HLk.out.mono ?_
    rintro z T ⟨⟨v,rfl⟩,hAT,hKT⟩
    have HAT := hideA (And.intro hAT hKT)
    clear hAT hKT u9 f9 hsame
    go_wp2_with fail
    go_roundw
    case rel =>
     refine ⟨k + 1,by omega,by go_num,_,HAT.out.1,⟨⟨_,_,hmid.look.1⟩, ?_,look_small hmid HF.out.fl, ?_⟩, ?_,fun k hk => (HAT.out.2 k hk).trans (HU.out k hk)⟩
     ·rw [hmid.look.2.2.2.1]
      exact HF.out.wl
     ·rw [hmid.look.2.1]
      have := deliver_told r'.x 0
      have := HF.out.tl
      show (r'.x.deliver 0).1.told.length ≤ _
      omega
     ·rw [← HD.out,show 5000 - k = (5000 - (k + 1)) + 1 by omega,dk]
    case measure => simp [intOf]; omega
  ·obtain rfl : k = 5000 := by omega
   have hfin : Hid (Run.drain 5000 r = r') := hideA (by rw [← HD.out]; rfl)
   clear hR hn hb0 hA hF hD hG hKp
   go_wp2_with fail
   go_end0
   rw [hfin.out]
   exact ⟨⟨_,rfl⟩,HA.out,HF.out,HKp.out⟩
end Go.Proofs.YtgieeeeeiggoeaaGreat
namespace Go.Proofs.YtgieeeeeiggoeaaGreat
open Go.RowKit
set_option maxHeartbeats 1000000 in
theorem cordonkeep_sameInts_gen (a b : Value) (l m : List Int) (w : World) (ha : IntsAt w a l) (hb : IntsAt w b m) (hl : l.length ≤ 140737488355328) (hm : m.length ≤ 140737488355328) :
  Calls Tryz.prog 19 #[a,b] w fun e w' => (∃ t,e = .returned (.bool t) ∧ (l = m → t = true)) ∧ ∃ q,w' = w.drewN q := by
 by_cases hlm : l = m
 ·subst hlm
  refine (cordonkeep_sameInts a b l w ha hb hl).mono ?_
  rintro e w' ⟨rfl,q⟩
  exact ⟨⟨true,rfl,fun _ => rfl⟩,q⟩
 obtain ⟨x,c,rfl,ha⟩ := ha
 obtain ⟨y,d,rfl,hb⟩ := hb
 have HA : Hid (∀ i,i < l.length → ∃ b off,x = some ⟨b,off,none⟩ ∧ w.cell? ⟨b,off + i,none⟩ = some (.int .i64 (l.getD i 0))) := ha
 have HB : Hid (∀ i,i < m.length → ∃ b off,y = some ⟨b,off,none⟩ ∧ w.cell? ⟨b,off + i,none⟩ = some (.int .i64 (m.getD i 0))) := hb
 have HN := hideA hlm
 clear ha hb hlm
 by_cases hle : l.length = m.length
 ·rw [← hle] at HB ⊢
  go_enter Tryz.func19,Tryz.ntmps19
  go_wp2_with fail
  go_loopw [5] (fun i wr => ∃ k q : Nat,k ≤ l.length ∧ i = .int .i64 k ∧ wr = w.drewN q) (fun i _ => l.length - (intOf i).toNat)
  case atStart => exact ⟨0,0,Nat.zero_le _,rfl,rfl⟩
  case round =>
   obtain ⟨k,q,hk,rfl,rfl⟩ := hrel
   have hl0 : (0 : Int) ≤ (k : Int) := by omega
   by_cases hlt : k < l.length
   ·obtain ⟨b1,o1,rfl,c1⟩ := HA.out k hlt
    obtain ⟨b2,o2,rfl,c2⟩ := HB.out k hlt
    generalize l.getD k 0 = v at *
    generalize m.getD k 0 = u at *
    have hl1 : (k : Int) < (l.length : Int) := by omega
    by_cases huv : v = u
    ·subst huv
     go_wp2_with fail
     go_quiet (fail)
     go_wp2_with fail
     exact ⟨⟨k + 1,_,by omega,by go_num,rfl⟩,by simp [intOf]; omega⟩
    ·have hd : (v == u) = false := by simpa using huv
     go_wp2_with fail
     go_quiet (fail)
     go_wp2_with fail
     go_ret
     exact ⟨⟨_,rfl,fun e => absurd e HN.out⟩,q + nq,by simp⟩
   ·go_wp2_with fail
    go_ret
    exact ⟨⟨_,rfl,fun e => absurd e HN.out⟩,_,rfl⟩
 ·have h1 : ¬ ((l.length : Int) = (m.length : Int)) := by omega
  have h2 : ((l.length : Int) == (m.length : Int)) = false := by simpa using h1
  go_enter Tryz.func19,Tryz.ntmps19
  go_wp2_with fail
  go_ret
  exact ⟨⟨_,rfl,fun e => absurd e HN.out⟩,0,rfl⟩
end Go.Proofs.YtgieeeeeiggoeaaGreat
