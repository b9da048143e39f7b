import Derived.Test.YtgieeeeeiggoeaaP30
import Derived.Test.YtgieeeeeiggoeaaRows
import Derived.WalkKit
import Derived.ProofKit
import Derived.OpenShut
import Derived.ShutString
import Derived.ChangeOld
import Derived.Below
namespace Go.Proofs.Ytgieeeeeiggoeaa
open Go.RowKit Go.Shelf
theorem law_first {w X : World} (hb : Below w.heap.size w X) (hM : X.heap[w.heap.size]? = some (.cells #[.slice none 0 0, .slice none 0 0, .slice none 0 0, .slice none 0 0, .slice none 0 0, .int .i64 0] 51)) : LawAt w X w.heap.size (.int .i64 0) 0 [] := by
 have hs := (Array.getElem?_eq_some_iff.1 hM).1
 refine ⟨⟨[], [], [], []⟩, .slice none 0 0, .slice none 0 0, .slice none 0 0, .slice none 0 0, .slice none 0 0, ⟨⟨hM, World.ownsRow_nil _ _ _ _, World.ownsRow_nil _ _ _ _, World.ownsRow_nil _ _ _ _, World.ownsRow_nil _ _ _ _, fun i p hp => absurd hp (by simp), fun i p hp => absurd hp (by simp), fun i p hp => absurd hp (by simp), fun i p hp => absurd hp (by simp), Nat.lt_succ_self _, hs, ⟨rfl, rfl, rfl, rfl⟩⟩, World.ownsRow_nil _ _ _ _, fun p hp => absurd hp (by simp), fun p hp => absurd hp (by simp), ⟨Nat.le_refl _, Nat.le_refl _, Nat.le_refl _, Nat.le_refl _⟩, hb, Nat.le_refl _⟩⟩
theorem first_fit (n : Nat) (h1 : 1 ≤ n) (h5 : n ≤ 5) : (∃ E g, Good (Clu.first n) E g) ∧ (Clu.first n).told.length ≤ 1000000000 := ⟨⟨_, _, first_good n h1 h5⟩, by simp [Clu.first]⟩
set_option maxRecDepth 100000 in
set_option maxHeartbeats 2000000 in
theorem Opens_any (n : Int) (w : World) : Calls Try.prog 5 #[.int .i64 n] w fun e w' => e = .returned (.bool true) ∧ Below w.heap.size w w' := by
 obtain ⟨X, hX, hbX, hM⟩ := box_more1 w #[.slice none 0 0, .slice none 0 0, .slice none 0 0, .slice none 0 0, .slice none 0 0, .int .i64 0] 51
 have HL := hideA (law_first hbX hM)
 generalize hB : w.heap.size = B at *
 have H1 := hideA (lawOpened_any 3 HL.out (by simp))
 clear hM
 go_enter Try.func5, Try.ntmps5
 go_wp2_with fail
 refine H1.out.mono ?_
 rintro e W1 ⟨rfl, ps1, hL1, hps1⟩
 obtain ⟨p1, hp1, hps1'⟩ : ∃ p, p.c = Clu.first 3 ∧ ps1 = [p] := by
  rcases hps1 with ⟨-, -, p, q1, q2⟩ | ⟨q, -⟩
  ·exact ⟨p, q1, by simpa using q2⟩
  ·exact absurd ⟨by omega, by omega⟩ q
 subst hps1'
 have H2 := hideA (lawOpened_any n hL1 (by simp))
 clear hL1 hps1
 go_wp2_with fail
 refine H2.out.mono ?_
 rintro e W2 ⟨rfl, ps2, hL2, hps2⟩
 have hfit : ∀ p ∈ ps2, (∃ E g, Good p.c E g) ∧ p.c.told.length ≤ 1000000000 := by
  intro p hp
  rcases hps2 with ⟨q1, q2, p2, q3, q4⟩ | ⟨-, q4⟩
  ·rw [q4] at hp
   simp at hp
   rcases hp with rfl | rfl
   ·rw [hp1]; exact first_fit 3 (by omega) (by omega)
   ·rw [q3]; exact first_fit n.toNat (by omega) (by omega)
  ·rw [q4] at hp
   simp at hp
   subst hp
   rw [hp1]; exact first_fit 3 (by omega) (by omega)
 have hlen : 0 < ps2.length ∧ ps2.length ≤ 2 := by
  rcases hps2 with ⟨q1, q2, p2, q3, q4⟩ | ⟨-, q4⟩ <;> (rw [q4]; simp)
 obtain ⟨aC, cC, c0, -⟩ := hL2.row
 have H3 := hideA (lawAsked_any hL2 hfit (by omega) (by omega))
 have hl1 : ¬ (ps2.length : Int) = 0 := by omega
 have hl2 : ((ps2.length : Int) == 0) = false := by simpa using hl1
 clear hL2 hps2 hfit
 go_wp2_with fail
 refine H3.out.mono ?_
 rintro e W3 ⟨rfl, hb3⟩
 clear c0
 go_wp2_with fail
 go_ret
 exact ⟨rfl, by rw [← hB]; exact hb3⟩
end Go.Proofs.Ytgieeeeeiggoeaa
namespace Go.Proofs.Ytgieeeeeiggoeaa
open Go.ChangeShapes Go.WideShapes Go.ChangeAt Go.RowKit
set_option linter.unusedVariables false
theorem opens_own : ownKnob Try.prog.godebug = none := by kernel_rfl
theorem opens_laidOut : laidOutB Try.prog = true := by kernel_rfl
set_option maxRecDepth 100000 in
theorem opens_lifted (os : Os) (started : os.Started) (H : Type) (enc : TypeId × Value → H) :
  ReturnsInHanded {} Try.checked os 5 .any (Rows.opensSpec.pre6 enc Try.prog Try.f5 Rows.opensRow.domain false) (Rows.opensSpec.post enc Try.prog Try.f5 false true false false) := by
 refine returnsInHanded_of_change (C := Try.checked) opens_own started (by kernel_rfl) Try.func5
  (ChangeSpec.witness6 (enc := enc) (C := Try.checked) false ⟨#[], #[.int .i64 0], []⟩ 8 (by kernel_rfl) (by kernel_rfl) (by kernel_rfl) (by kernel_rfl)) ?_
 intro W base args ds gs before hval0 hW hcnd _
 have hval : ∀ (j : Nat) t v, Try.f5.params[j]? = some t → args[j]? = some v → Value.okWide Try.prog W .any base t v := hval0
 have hW' := hW
 obtain ⟨p, q, hA0, hV, rfl, hfz, hnd⟩ := hW
 have hA : DataW.TrodAll enc Try.prog W 0 (fun _ => true) true Try.f5.params.toList args.toList ds p := hA0
 rw [Try.params5] at hA hval
 obtain ⟨v0, vs0, d0, ds0, p0, q0, hargs, rfl, rfl, h0, r0⟩ := trodAll_cons hA
 obtain ⟨rfl, rfl, rfl⟩ := trodAll_nil r0
 obtain rfl : args = #[v0] := by cases args; simp_all
 obtain ⟨rfl, rfl⟩ := trodVars_none hV
 obtain ⟨z, rfl, rfl, rfl, hz⟩ := open_int Try.underlying3 (hval 0 3 v0 rfl rfl) h0
 clear hA0 hval0
 refine (Opens_any z W).mono fun e W' ⟨he, bel⟩ => ?_
 subst he
 exact ⟨_, rfl, _, _, _, [], _, [], hW', trodAll_mk1 (shut_bool Try.underlying4 _), (trodAll_cons_mk (shut_int Try.underlying3 hz) trodAll_mk0), rfl, bel.frame _, fun h => by cases h⟩
theorem opens_over : Rows.opensRow.holds Try.pinned (OpenSpec.ofChange Rows.opensSpec) :=
 OpenClaim.holds_of_wide 5 Try.f5 rfl rfl rfl rfl rfl rfl rfl ⟨rfl, rfl, rfl, rfl, rfl⟩ rfl rfl rfl rfl rfl (by kernel_rfl) Try.func5 (by kernel_rfl)
  (of_decide_eq_true (by kernel_rfl)) (by unfold Func.isWrapper; first | (rw [if_pos (by decide +kernel)]; kernel_rfl) | (rw [if_neg (by decide +kernel)]; exact ⟨rfl, rfl⟩))
  (fun os started H enc _ => opens_lifted os started H enc)
theorem opens_proved : Rows.OpensSaid := opens_over
end Go.Proofs.Ytgieeeeeiggoeaa
