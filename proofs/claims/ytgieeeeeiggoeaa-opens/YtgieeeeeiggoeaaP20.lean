import Derived.Test.YtgieeeeeiggoeaaP11
import Derived.BigRegion
import Derived.Lib.SmallJoins
import Derived.Test.YtgieeeeeiggoeaaP03
import Derived.Test.YtgieeeeeiggoeaaP05
import Derived.Deep.AppendLies
import Derived.Deep.RegionLaw
import Derived.Test.YtgieeeeeiggoeaaP04
import Derived.Test.YtgieeeeeiggoeaaP01
import Derived.Test.YtgieeeeeiggoeaaP08
import Derived.Test.YtgieeeeeiggoeaaP02
import Derived.Test.YtgieeeeeiggoeaaP06
import Derived.Test.YtgieeeeeiggoeaaP19
namespace Go.Proofs.Ytgieeeeeiggoeaa
open Go.RowKit
def AnsAt (w : World) (a : Option Addr) (l : List Ans) : Prop := ∀ (i : Nat) (x : Ans), l[i]? = some x → ∃ b, a = some ⟨b, 0, none⟩ ∧
 w.cell? ⟨b, i * 3, none⟩ = some (.int .i64 x.client) ∧ w.cell? ⟨b, i * 3 + 1, none⟩ = some (.int .i64 x.seq) ∧ w.cell? ⟨b, i * 3 + 2, none⟩ = some (.int .i64 x.value)
theorem ansAt_of {w : World} {base : Nat} {v : Value} {l : List Ans} (h : w.ownsRow base 77 3 v l.length (ints (ansNums l))) : ∃ a c, v = .slice a l.length c ∧ AnsAt w a l := by
 obtain ⟨a, c, rfl⟩ := owns_shape h
 refine ⟨a, c, rfl, ?_⟩
 intro i x hx
 have hi := (List.getElem?_eq_some_iff.1 hx).1
 obtain ⟨g, cap, hv, _, _⟩ := h.form (by omega)
 cases hv
 have at_ : ∀ j, j < 3 → ∀ z, x.nums[j]? = some z → w.cell? ⟨g, i * 3 + j, none⟩ = some (.int .i64 z) := by
  intro j hj z hz
  rw [World.ownsRow.cellAt h (i * 3 + j) (by omega)]
  unfold ints
  rw [List.getElem?_map, ansNums_at l i j x hx hj, hz]
  rfl
 exact ⟨g, rfl, at_ 0 (by omega) _ rfl, at_ 1 (by omega) _ rfl, at_ 2 (by omega) _ rfl⟩
end Go.Proofs.Ytgieeeeeiggoeaa
namespace Go.Proofs.Ytgieeeeeiggoeaa
open Go.RowKit Go.Shelf
def TxtsAt (w : World) (v : Value) (l : List (List UInt8)) : Prop :=
 ∃ a c, v = .slice a l.length c ∧ ∀ i x, l[i]? = some x → ∃ g, a = some ⟨g, 0, none⟩ ∧ w.cell? ⟨g, i, none⟩ = some (.string (bs x))
theorem TxtsAt.of_owns {w : World} {base : Nat} {v : Value} {l : List (List UInt8)} (h : w.ownsRow base 9 1 v l.length (strs l)) : TxtsAt w v l := by
 obtain ⟨a, c, rfl⟩ := owns_shape h
 refine ⟨a, c, rfl, fun i x hx => ?_⟩
 have hi := (List.getElem?_eq_some_iff.1 hx).1
 obtain ⟨g, cap, hv, -, -⟩ := h.form (by omega)
 cases hv
 refine ⟨g, rfl, ?_⟩
 rw [World.ownsRow.cellAt h i (by omega)]
 unfold strs
 rw [List.getElem?_map, hx]
 rfl
set_option maxHeartbeats 1000000 in
theorem sameTexts_any (a b : Value) (l : List (List UInt8)) (w : World) (ha : TxtsAt w a l) (hb : TxtsAt w b l) (hl : l.length ≤ 1000000000) :
  Calls Try.prog 67 #[a, b] w fun e w' => e = .returned (.bool true) ∧ ∃ q, w' = w.drewN q := by
 obtain ⟨x, c, rfl, ha⟩ := ha
 obtain ⟨y, d, rfl, hb⟩ := hb
 have HA := hideA ha
 have HB := hideA hb
 clear ha hb
 go_enter Try.func67, Try.ntmps67
 go_wp2_with fail
 go_loopw [5] (fun i wr => ∃ k q : Nat, k ≤ l.length ∧ i = .int .i64 k ∧ wr = w.drewN q) (fun i _ => l.length - (intOf i).toNat)
 case atStart => exact ⟨0, 0, Nat.zero_le _, rfl, rfl⟩
 case round =>
  obtain ⟨k, q, hk, rfl, rfl⟩ := hrel
  have hl0 : (0 : Int) ≤ (k : Int) := by omega
  by_cases hlt : k < l.length
  ·obtain ⟨b1, rfl, c1⟩ := HA.out k _ (List.getElem?_eq_getElem hlt)
   obtain ⟨b2, rfl, c2⟩ := HB.out k _ (List.getElem?_eq_getElem hlt)
   generalize l[k] = v at *
   have hl1 : (k : Int) < (l.length : Int) := by omega
   go_wp2_with fail
   go_quiet (fail)
   go_wp2_with fail
   exact ⟨⟨k + 1, _, by omega, by go_num, rfl⟩, by simp [intOf]; omega⟩
  ·go_wp2_with fail
   go_ret
   exact ⟨rfl, q, rfl⟩
set_option maxHeartbeats 1000000 in
set_option maxRecDepth 100000 in
theorem sameAnswers_any (xa ya : Option Addr) (ca cb : Nat) (l : List Ans) (w : World) (ha : AnsAt w xa l) (hb : AnsAt w ya l) (hl : l.length ≤ 1000000000) :
  Calls Try.prog 70 #[.slice xa l.length ca, .slice ya l.length cb] w fun e w' => e = .returned (.bool true) ∧ ∃ q, w' = w.drewN q := by
 have HA := hideA ha
 have HB := hideA hb
 clear ha hb
 go_enter Try.func70, Try.ntmps70
 go_wp2_with fail
 go_loopw [5] (fun i wr => ∃ k q : Nat, k ≤ l.length ∧ i = .int .i64 k ∧ wr = w.drewN q) (fun i _ => l.length - (intOf i).toNat)
 case atStart => exact ⟨0, 0, Nat.zero_le _, rfl, rfl⟩
 case round =>
  obtain ⟨k, q, hk, rfl, rfl⟩ := hrel
  have hl0 : (0 : Int) ≤ (k : Int) := by omega
  by_cases hlt : k < l.length
  ·obtain ⟨b1, rfl, c1, c2, c3⟩ := HA.out k _ (List.getElem?_eq_getElem hlt)
   obtain ⟨b2, rfl, d1, d2, d3⟩ := HB.out k _ (List.getElem?_eq_getElem hlt)
   generalize l[k] = v at *
   have hl1 : (k : Int) < (l.length : Int) := by omega
   go_wp2_with fail
   go_quiet (fail)
   go_wp2_with fail
   exact ⟨⟨k + 1, _, by omega, by go_num, rfl⟩, by simp [intOf]; omega⟩
  ·go_wp2_with fail
   go_ret
   exact ⟨rfl, q, rfl⟩
structure Pr where
 q : Nat
 x : Nat
 y : Nat
 c : Clu
 F : Nat → Prop
def PrAt (w : World) (p : Pr) : Prop :=
 ∃ FX FY, w.heap[p.q]? = some (.cells #[.pointer (some ⟨p.x, 0, none⟩), .pointer (some ⟨p.y, 0, none⟩)] 89) ∧ CAt w FX p.x p.c ∧ RefAt w FY p.y p.c ∧ (∀ k, k = p.q ∨ FX k ∨ FY k → p.F k) ∧ (∀ k, FX k → ¬ FY k) ∧ ∀ k, p.F k → k < w.heap.size
theorem PrAt.keep {w w' : World} {p : Pr} (h : PrAt w p) (hk : ∀ k, p.F k → w'.heap[k]? = w.heap[k]?) : PrAt w' p := by
 obtain ⟨FX, FY, h1, h2, h3, h4, h5, h6⟩ := h
 refine ⟨FX, FY, (hk _ (h4 _ (.inl rfl))).trans h1, ?_, h3.keep fun k e => hk k (h4 k (.inr (.inr e))), h4, h5, fun k e => lt_of_keep (h6 k e) (hk k e)⟩
 obtain ⟨gs, cap, b, Fn, vr, va, vm, vb, vt, h2⟩ := h2
 exact ⟨gs, cap, b, Fn, vr, va, vm, vb, vt, h2.keep fun k e => hk k (h4 k (.inr (.inl e)))⟩
structure LawIn (w0 w : World) (B : Nat) (x5 : Value) (M : Nat) (b : Bk) (ps : List Pr) (vC vI vL vT vA : Value) : Prop where
 book : BookIn w B (B + 1) vC x5 b vI vL vT vA
 row : w.ownsRow (B + 1) 87 1 vC ps.length (ps.map fun p => Value.pointer (some ⟨p.q, 0, none⟩))
 prs : ∀ p ∈ ps, PrAt w p
 off : ∀ p ∈ ps, ∀ k, p.F k → B + 1 ≤ k ∧ ¬ b.own vI vL vT vA k ∧ vC.ownBlock ≠ some k
 small : b.lI.length ≤ M ∧ b.lL.length ≤ M ∧ b.lT.length ≤ M ∧ b.lA.length ≤ M
 be : Below w0.heap.size w0 w
 new : w0.heap.size ≤ B
def LawAt (w0 w : World) (B : Nat) (x5 : Value) (M : Nat) (ps : List Pr) : Prop := ∃ b vC vI vL vT vA, LawIn w0 w B x5 M b ps vC vI vL vT vA
theorem Bk.lt {w : World} {B base : Nat} {x0 x5 : Value} {b : Bk} {vI vL vT vA : Value} (h : BookIn w B base x0 x5 b vI vL vT vA) {k : Nat} (hk : b.own vI vL vT vA k) : k < w.heap.size := by
 have key : ∀ {base size n : Nat} {e : TypeId} {v : Value} {xs : List Value}, w.ownsRow base e size v n xs → v.ownBlock = some k → k < w.heap.size := fun hr e => (Array.getElem?_eq_some_iff.1 (ownBlock_cells hr e).choose_spec.1).1
 rcases hk with q | q | q | q | ⟨p, hp, q⟩ | ⟨p, hp, q⟩ | ⟨p, hp, q⟩ | ⟨p, hp, q⟩
 ·exact key h.rI q
 ·exact key h.rL q
 ·exact key h.rT q
 ·exact key h.rA q
 ·obtain ⟨i, hi, rfl⟩ := List.getElem_of_mem hp
  exact key (h.eI i _ (List.getElem?_eq_getElem hi)).2 q
 ·obtain ⟨i, hi, rfl⟩ := List.getElem_of_mem hp
  exact key (h.eL i _ (List.getElem?_eq_getElem hi)).2 q
 ·obtain ⟨i, hi, rfl⟩ := List.getElem_of_mem hp
  exact key (h.eT i _ (List.getElem?_eq_getElem hi)).2 q
 ·obtain ⟨i, hi, rfl⟩ := List.getElem_of_mem hp
  exact key (h.eA i _ (List.getElem?_eq_getElem hi)).2 q
theorem LawIn.below {w0 w w' : World} {B : Nat} {x5 : Value} {M : Nat} {b : Bk} {ps : List Pr} {vC vI vL vT vA : Value} (h : LawIn w0 w B x5 M b ps vC vI vL vT vA) (hb : Below w.heap.size w w') : LawIn w0 w' B x5 M b ps vC vI vL vT vA where
 book := h.book.keep hb.size fun k hk => hb.block k (hk.elim (fun e => by rw [e]; exact (Array.getElem?_eq_some_iff.1 h.book.blk).1) (fun e => Bk.lt h.book e))
 row := owns_kept h.row fun k _ hk => hb.block k hk
 prs := fun p hp => (h.prs p hp).keep fun k hk => hb.block k (by obtain ⟨_, _, _, _, _, _, _, h6⟩ := h.prs p hp; exact h6 k hk)
 off := h.off
 small := h.small
 be := h.be.trans (hb.mono h.be.size)
 new := h.new
theorem LawIn.turned {w0 w w' : World} {B : Nat} {x5 : Value} {M : Nat} {b b' : Bk} {ps : List Pr} {vC vI vL vT vA vI' vL' vT' vA' v u : Value} {bv : Nat} {e1 e2 : TypeId} {s1 s2 n1 n2 : Nat} {xs1 xs2 : List Value} (h : LawIn w0 w B x5 M b ps vC vI vL vT vA) (hbook : BookIn w' B (B + 1) vC x5 b' vI' vL' vT' vA')
  (hM : Moved w w' (fun k => k = B ∨ v.ownBlock = some k ∨ u.ownBlock = some k)) (hu : w.ownsRow (B + 1) e2 s2 u n2 xs2) (huB : ∀ k, u.ownBlock = some k → b.own vI vL vT vA k) (he2 : e2 ≠ 87) (hv : w.ownsRow bv e1 s1 v n1 xs1) (he1 : e1 ≠ 87) (hbv : ∀ p ∈ ps, ∀ k, p.F k → k < bv) (hB : B + 1 ≤ bv)
  (hown : ∀ k, b'.own vI' vL' vT' vA' k → b.own vI vL vT vA k ∨ bv ≤ k) (hs : b'.lI.length ≤ M + 4 ∧ b'.lL.length ≤ M + 4 ∧ b'.lT.length ≤ M + 4 ∧ b'.lA.length ≤ M + 4) : LawIn w0 w' B x5 (M + 4) b' ps vC vI' vL' vT' vA' where
 book := hbook
 row := hM.owns h.row fun k hk hS => by
  rcases hS with q | q | q
  ·exact blk_type h.book.blk h.row (by decide) (q ▸ hk)
  ·exact owns_two hv h.row he1 k q hk
  ·exact owns_two hu h.row he2 k q hk
 prs := fun p hp => (h.prs p hp).keep fun k hk => hM.block k (by obtain ⟨_, _, _, _, _, _, _, h6⟩ := h.prs p hp; exact h6 k hk) (fun hS => by
  have ho := h.off p hp k hk
  rcases hS with q | q | q
  ·omega
  ·have := (hv.lt k q).1
   have := hbv p hp k hk
   omega
  ·exact ho.2.1 (huB k q))
 off := fun p hp k hk => ⟨(h.off p hp k hk).1, fun e => by
  rcases hown k e with q | q
  ·exact (h.off p hp k hk).2.1 q
  ·have := hbv p hp k hk
   omega, (h.off p hp k hk).2.2⟩
 small := hs
 be := h.be.trans (hM.to_below (fun k q => by
  have := h.new
  rcases q with q | q | q
  ·omega
  ·have := (hv.lt k q).1
   omega
  ·have := (hu.lt k q).1
   omega) h.be.size)
 new := h.new
theorem strs_map (l : List (List UInt8 × Bool)) : bagV l = strs (l.map Prod.fst) := by
 unfold bagV
 unfold strs
 rw [List.map_map]
 rfl
set_option maxRecDepth 100000 in
set_option maxHeartbeats 2000000 in
theorem lawBag_any {w0 w : World} {B : Nat} {x5 : Value} {M : Nat} {ps : List Pr} {p : Pr} {E : Int} {g : Gh} (h : LawAt w0 w B x5 M ps) (hp : p ∈ ps) (hg : Good p.c E g) (hM : M ≤ 1000000000) :
  Calls Try.prog 45 #[.pointer (some ⟨B, 0, none⟩), .pointer (some ⟨p.q, 0, none⟩)] w fun e w' => e = .returned (.bool true) ∧ LawAt w0 w' B x5 (M + 4) ps := by
 obtain ⟨b, vC, vI, vL, vT, vA, h⟩ := h
 obtain ⟨FX, FY, hq, hX, hY, hF, hXY, hlt⟩ := h.prs p hp
 have hbl := hg.bag
 have q0 : w.cell? ⟨p.q, 0, none⟩ = some (.pointer (some ⟨p.x, 0, none⟩)) := cell_of_heap hq 0
 have q1 : w.cell? ⟨p.q, 1, none⟩ = some (.pointer (some ⟨p.y, 0, none⟩)) := cell_of_heap hq 1
 have HB := hideA (cluBag_any hX hg.bag)
 have HY := hideA hY
 have HL := hideA h
 have Hlt : Hid (∀ p ∈ ps, ∀ k, p.F k → k < w.heap.size) := hideA fun p hp k hk => by obtain ⟨_, _, _, _, _, _, _, h6⟩ := h.prs p hp; exact h6 k hk
 clear hq hX hY hF hXY hlt h hg
 go_enter Try.func45, Try.ntmps45
 go_wp2_with fail
 refine HB.out.mono ?_
 rintro e W1 ⟨v, rfl, hv, hb1⟩
 rw [strs_map] at hv
 obtain ⟨av, cv, hvv⟩ := owns_shape hv
 subst hvv
 have q1' := cell_later hb1 q1
 have HV := hideA hv
 have HT := hideA (refTexts_any (HY.out.keep fun k hk => hb1.block k (by obtain ⟨_, _, _, _, _, _, _, h6⟩ := HY.out; exact h6.lt k hk)) (by omega))
 clear hv q0
 go_wp2_with fail
 refine HT.out.mono ?_
 rintro e W2 ⟨v2, rfl, hv2, hb2⟩
 obtain ⟨av2, cv2, hvv2⟩ := owns_shape hv2
 subst hvv2
 have hlm : (p.c.bag.map Prod.fst).length = p.c.bag.length := List.length_map _
 have hb12 := hb1.trans (hb2.mono hb1.size)
 have hvW2 : W2.ownsRow w.heap.size 9 1 (.slice av p.c.bag.length cv) p.c.bag.length (strs (p.c.bag.map Prod.fst)) := owns_kept HV.out fun k _ hk => hb2.block k hk
 have HS := hideA (sameTexts_any (.slice av p.c.bag.length cv) (.slice av2 p.c.bag.length cv2) (p.c.bag.map Prod.fst) W2 (TxtsAt.of_owns (base := w.heap.size) (by rw [hlm]; exact hvW2)) (TxtsAt.of_owns (base := W1.heap.size) (by rw [hlm]; exact hv2)) (by omega))
 have HW2 := hideA hvW2
 clear hv2 hvW2 q1 q1'
 go_wp2_with fail
 refine HS.out.mono ?_
 rintro e W3 ⟨rfl, q9, rfl⟩
 have hb3 : Below w.heap.size w (W2.drewN q9) := below_drewN hb12 q9
 have hL3 := HL.out.below hb3
 have hv3 : (W2.drewN q9).ownsRow w.heap.size 9 1 (.slice av p.c.bag.length cv) (p.c.bag.map Prod.fst).length (strs (p.c.bag.map Prod.fst)) := by rw [hlm]; exact HW2.out
 have hBl : B + 1 ≤ w.heap.size := HL.out.book.bs
 have HK := hideA (hL3.book.keepTexts _ (p.c.bag.map Prod.fst) hv3 hBl (by have := hb3.size; exact this) (fun k hk ho => by
  have h1 := (hv3.lt k hk).1
  have h2 := Bk.lt HL.out.book ho
  omega) (by have := hL3.small.2.2.1; omega) (by omega))
 have HL3 := hideA (And.intro hL3 hv3)
 clear hL3 hv3
 go_wp2_with fail
 refine HK.out.mono ?_
 rintro e W4 ⟨rfl, u', l4, hl4, hbook, hMv, hown⟩
 have hfin : LawAt w0 W4 B x5 (M + 4) ps := by
  obtain ⟨s1, s2, s3, s4⟩ := HL3.out.1.small
  refine ⟨_, vC, vI, vL, u', vA, HL3.out.1.turned hbook hMv HL3.out.1.book.rT (fun k e => .inr (.inr (.inl e))) (by decide) HL3.out.2 (by decide) Hlt.out hBl hown ⟨?_, ?_, ?_, ?_⟩⟩
  ·show b.lI.length ≤ M + 4; omega
  ·show b.lL.length ≤ M + 4; omega
  ·show (b.lT ++ l4).length ≤ M + 4
   rw [List.length_append]; omega
  ·show b.lA.length ≤ M + 4; omega
 have HF := hideA hfin
 clear hbook hMv hown hfin
 go_wp2_with fail
 go_ret
 exact ⟨rfl, HF.out⟩
set_option maxRecDepth 100000 in
set_option maxHeartbeats 2000000 in
theorem lawAnswers_any {w0 w : World} {B : Nat} {x5 : Value} {M : Nat} {ps : List Pr} {p : Pr} (h : LawAt w0 w B x5 M ps) (hp : p ∈ ps) (ht : p.c.told.length ≤ 1000000000) (hM : M ≤ 1000000000) :
  Calls Try.prog 46 #[.pointer (some ⟨B, 0, none⟩), .pointer (some ⟨p.q, 0, none⟩)] w fun e w' => e = .returned (.bool true) ∧ LawAt w0 w' B x5 (M + 4) ps := by
 obtain ⟨b, vC, vI, vL, vT, vA, h⟩ := h
 obtain ⟨FX, FY, hq, hX, hY, hF, hXY, hlt⟩ := h.prs p hp
 have q0 : w.cell? ⟨p.q, 0, none⟩ = some (.pointer (some ⟨p.x, 0, none⟩)) := cell_of_heap hq 0
 have q1 : w.cell? ⟨p.q, 1, none⟩ = some (.pointer (some ⟨p.y, 0, none⟩)) := cell_of_heap hq 1
 have HB := hideA (cluAnswers_any hX (by omega))
 obtain ⟨br, ba, vr, va, vm, vb, vt, hY⟩ := hY
 obtain ⟨at_, ct, hvt, hta⟩ := ansAt_of hY.told
 subst hvt
 have y4 : w.cell? ⟨p.y, 4, none⟩ = some (.slice at_ p.c.told.length ct) := cell_of_heap hY.blk 4
 have HTa := hideA hY.told
 have HL := hideA h
 have Hlt : Hid (∀ p ∈ ps, ∀ k, p.F k → k < w.heap.size) := hideA fun p hp k hk => by obtain ⟨_, _, _, _, _, _, _, h6⟩ := h.prs p hp; exact h6 k hk
 clear hq hX hY hF hXY hlt h hta
 go_enter Try.func46, Try.ntmps46
 go_wp2_with fail
 refine HB.out.mono ?_
 rintro e W1 ⟨v, rfl, hv, hb1⟩
 obtain ⟨av, cv, hvv, hva⟩ := ansAt_of hv
 subst hvv
 have q1' := cell_later hb1 q1
 have y4' := cell_later hb1 y4
 have HV := hideA hv
 obtain ⟨at2, ct2, hvt2, hta2⟩ := ansAt_of (owns_kept HTa.out fun k _ hk => hb1.block k hk)
 cases hvt2
 have HS := hideA (sameAnswers_any av at_ cv ct p.c.told W1 hva hta2 ht)
 clear hv hva hta2 q0 q1 y4
 go_wp2_with fail
 refine HS.out.mono ?_
 rintro e W3 ⟨rfl, q9, rfl⟩
 have hb3 : Below w.heap.size w (W1.drewN q9) := below_drewN hb1 q9
 have hL3 := HL.out.below hb3
 have hv3 : (W1.drewN q9).ownsRow w.heap.size 77 3 (.slice av p.c.told.length cv) p.c.told.length (ints (ansNums p.c.told)) := HV.out
 have hBl : B + 1 ≤ w.heap.size := HL.out.book.bs
 have HK := hideA (hL3.book.keepAns _ p.c.told hv3 hBl (by have := hb3.size; exact this) (fun k hk ho => by
  have h1 := (hv3.lt k hk).1
  have h2 := Bk.lt HL.out.book ho
  omega) (by have := hL3.small.2.2.2; omega) ht)
 have HL3 := hideA (And.intro hL3 hv3)
 clear hL3 hv3 q1' y4'
 go_wp2_with fail
 refine HK.out.mono ?_
 rintro e W4 ⟨rfl, u', l4, hl4, hbook, hMv, hown⟩
 have hfin : LawAt w0 W4 B x5 (M + 4) ps := by
  obtain ⟨s1, s2, s3, s4⟩ := HL3.out.1.small
  refine ⟨_, vC, vI, vL, vT, u', HL3.out.1.turned hbook hMv HL3.out.1.book.rA (fun k e => .inr (.inr (.inr (.inl e)))) (by decide) HL3.out.2 (by decide) Hlt.out hBl hown ⟨?_, ?_, ?_, ?_⟩⟩
  ·show b.lI.length ≤ M + 4; omega
  ·show b.lL.length ≤ M + 4; omega
  ·show b.lT.length ≤ M + 4; omega
  ·show (b.lA ++ l4).length ≤ M + 4
   rw [List.length_append]; omega
 have HF := hideA hfin
 clear hbook hMv hown hfin
 go_wp2_with fail
 go_ret
 exact ⟨rfl, HF.out⟩
end Go.Proofs.Ytgieeeeeiggoeaa
