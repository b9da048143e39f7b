import Derived.Test.YtlminmokpmdgoabGreatRows
import Derived.Test.YtlminmokpmdgoabGreatK53
import Derived.WalkKit
import Derived.ProofKit
import Derived.OpenShut
import Derived.ShutString
import Derived.ChangeOld
import Derived.Below
import Derived.SizedLaws
namespace Go.Proofs.YtlminmokpmdgoabGreat
open Go.ChangeShapes Go.WideShapes Go.ChangeAt Go.RowKit
set_option linter.unusedVariables false
set_option maxRecDepth 100000 in
set_option maxHeartbeats 1000000 in
theorem sealed_any (z : Int) (v : Value) (l : List KStep) (w : World) (i0 : -9223372036854775808 ≤ z) (i1 : z ≤ 9223372036854775807) (hS : ScrAt w v l) (hl : l.length ≤ 2299999999999) :
  Calls Tryz.prog 4 #[.int .i64 z, v] w fun e w' => e = .returned (.bool true) ∧ Below w.heap.size w w' := by
 have HP := hideA (played_any z v l w i0 i1 hS hl)
 clear hS
 go_enter Tryz.func4, Tryz.ntmps4
 go_wp2_with fail
 refine HP.out.mono ?_
 rintro e W ⟨p, x, r, E, g, rfl, hA, hri⟩
 obtain ⟨FX, FR, vW, vF, vL, hR, hn, hb0⟩ := hA
 have q : W.cell? ⟨p, 13, none⟩ = some (.bool true) := by
  have := cell_of_heap hR.blk 13
  rw [show (runCells r x vW vF vL)[13]? = some (.bool r.sealed) from rfl, hri.mid.flags.2.2.2.2] at this
  exact this
 clear hR hn hri HP
 go_wp2_with fail
 go_ret
 exact ⟨rfl, hb0⟩
theorem sealed_own : ownKnob Tryz.prog.godebug = none := by kernel_rfl
theorem sealed_laidOut : laidOutB Tryz.prog = true := by kernel_rfl
set_option maxRecDepth 100000 in
theorem sealed_lifted (os : Os) (started : os.Started) (H : Type) (enc : TypeId × Value → H) :
  ReturnsInHanded {} Tryz.checked os 4 .any (Rows.sealedSpec.pre6 enc Tryz.prog Tryz.f4 Rows.sealedRow.domain false) (Rows.sealedSpec.post enc Tryz.prog Tryz.f4 false true false false) := by
 refine returnsInHanded_of_change_sized (C := Tryz.checked) sealed_own started (by kernel_rfl) Tryz.func4
  (ChangeSpec.witness6 (enc := enc) (C := Tryz.checked) false ⟨#[], #[.int .i64 0, .slice none 0 0], []⟩ 8 (by kernel_rfl) (by kernel_rfl) (by kernel_rfl) (by kernel_rfl)) ?_
 intro W base args ds gs before hval0 hW hcnd hsz0 _
 have hval : ∀ (j : Nat) t v, Tryz.f4.params[j]? = some t → args[j]? = some v → Value.okWide Tryz.prog W .any base t v := hval0
 have hsz : (DataW.weightsEach Tryz.prog (Tryz.f4.params.toList ++ Rows.sealedSpec.plain.varTypes Tryz.prog) (ds ++ gs)).all (· ≤ reachBytes) = true := hsz0
 have hW' := hW
 obtain ⟨p, q, hA0, hV, rfl, hfz, hnd⟩ := hW
 have hA : DataW.TrodAll enc Tryz.prog W 0 (fun _ => true) true Tryz.f4.params.toList args.toList ds p := hA0
 rw [Tryz.params4] at hA hval hsz
 obtain ⟨v0, vs0, d0, ds0, p0, q0, hargs, rfl, rfl, h0, r0⟩ := trodAll_cons hA
 obtain ⟨v1, vs1, d1, ds1, p1, q1, rfl, rfl, rfl, h1, r1⟩ := trodAll_cons r0
 obtain ⟨rfl, rfl, rfl⟩ := trodAll_nil r1
 obtain rfl : args = #[v0, v1] := by cases args; simp_all
 obtain ⟨rfl, rfl⟩ := trodVars_none hV
 obtain ⟨z, rfl, rfl, rfl, hz⟩ := open_int Tryz.underlying3 (hval 0 3 v0 rfl rfl) h0
 have k1 := h1
 have lt1 : ∀ x ∈ p1, x.block < W.heap.size := by obtain ⟨m, hm⟩ := k1; exact DataW.trod_lt m _ _ _ hm
 obtain ⟨a1, len1, cap1, rfl⟩ := okWide_slice Tryz.underlying22 (hval 1 22 v1 rfl rfl)
 obtain ⟨fuel, hf1⟩ := h1
 obtain ⟨l, hl, hsize⟩ := open_script (v := .slice a1 len1 cap1) hf1
 have hlen : l.length ≤ 2299999999999 := by
  rcases hsize with rfl | ⟨el, sp, hp, hn⟩
  ·simp
  ·have hp' : d1 = .slice el sp := hp
   subst hp'
   have g1 : (el.length + sp.length) * Tryz.prog.bytesOf 37 ∈ DataW.weights Tryz.prog 22 (.slice el sp) := by simp [DataW.weights, Tryz.underlying22]
   have g2 := DataW.weights_mem_each (P := Tryz.prog) (ts := [3, 22] ++ Rows.sealedSpec.plain.varTypes Tryz.prog) (ds := [.lit (.int .i64 z), .slice el sp] ++ []) (j := 1) rfl rfl _ g1
   have g3 := List.all_eq_true.1 hsz _ g2
   have g4 : (el.length + sp.length) * 64 ≤ reachBytes := by rw [scr_bytes] at g3; exact of_decide_eq_true g3
   simp only [reachBytes] at g4
   omega
 clear hA0 hval0 hsz hsz0 hsize
 have b := bounds_i64 hz
 refine (sealed_any z (.slice a1 len1 cap1) l W b.1 b.2 hl hlen).mono fun e W' ⟨he, bel⟩ => ?_
 subst he
 exact ⟨_, rfl, _, _, _, [], _, [], hW', trodAll_mk1 (shut_bool Tryz.underlying4 _), (trodAll_cons_mk (shut_int Tryz.underlying3 hz) (trodAll_cons_mk (Below.trod sealed_laidOut (by kernel_rfl) (of_decide_eq_true (by kernel_rfl)) k1 bel lt1) trodAll_mk0)), rfl, bel.frame _, fun h => by cases h⟩
theorem sealed_over : Rows.sealedRow.holds Tryz.pinned (OpenSpec.ofChange Rows.sealedSpec) :=
 OpenClaim.holds_of_wide 4 Tryz.f4 rfl rfl rfl rfl rfl rfl rfl ⟨rfl, rfl, rfl, rfl, rfl⟩ rfl rfl rfl rfl rfl (by kernel_rfl) Tryz.func4 (by kernel_rfl)
  (of_decide_eq_true (by kernel_rfl)) (by unfold Func.isWrapper; first | (rw [if_pos (by decide +kernel)]; kernel_rfl) | (rw [if_neg (by decide +kernel)]; exact ⟨rfl, rfl⟩))
  (fun os started H enc _ => sealed_lifted os started H enc)
theorem sealed_proved : Rows.SealedSaid := sealed_over
end Go.Proofs.YtlminmokpmdgoabGreat
