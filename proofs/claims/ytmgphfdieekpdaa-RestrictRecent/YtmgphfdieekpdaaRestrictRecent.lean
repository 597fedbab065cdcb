/- The memory of addresses holds those that were heard last, the latest first, whoever was heard. -/
import Derived.Test.YtmgphfdieekpdaaRows
import Derived.WalkKit
import Derived.ProofKit
import Derived.OpenShut
import Derived.ShutString
import Derived.ChangeOld
import Derived.Below
import Derived.SizedLaws
import Derived.Test.YtmgphfdieekpdaaLT
import Derived.Test.YtmgphfdieekpdaaRS
namespace Go.Proofs.Ytmgphfdieekpdaa.restrictRecent
open Go.ChangeShapes Go.WideShapes Go.ChangeAt Go.RowKit
set_option linter.unusedVariables false
theorem own : ownKnob Try.prog.godebug = none := by kernel_rfl
theorem laidOut : laidOutB Try.prog = true := by kernel_rfl
set_option maxRecDepth 100000 in
theorem lifted (os : Os) (started : os.Started) (H : Type) (enc : TypeId × Value → H) :
    ReturnsInHanded {} Try.checked os 8 .any (Rows.restrictRecentSpec.pre6 enc Try.prog Try.f8 Rows.restrictRecentRow.domain false) (Rows.restrictRecentSpec.post enc Try.prog Try.f8 false true false false) := by
  refine returnsInHanded_of_change_sized (C := Try.checked) own started (by kernel_rfl) Try.func8
    (ChangeSpec.witness6 (enc := enc) (C := Try.checked) false ⟨#[], #[.slice none 0 0], []⟩ 8 (by kernel_rfl) (by kernel_rfl) (by kernel_rfl) (by kernel_rfl)) ?_
  intro W base args ds gs before hval0 hW hcnd hsz0 _
  have hval : ∀ (j : Nat) t v, Try.f8.params[j]? = some t → args[j]? = some v → Value.okWide Try.prog W .any base t v := hval0
  have hW' := hW
  obtain ⟨p, q, hA0, hV, rfl, hfz, hnd⟩ := hW
  have hA : DataW.TrodAll enc Try.prog W 0 (fun _ => true) true Try.f8.params.toList args.toList ds p := hA0
  rw [Try.params8] at hA hval
  have hsz : (DataW.weightsEach Try.prog (Try.f8.params.toList ++ Rows.restrictRecentSpec.plain.varTypes Try.prog) (ds ++ gs)).all (fun x => decide (x ≤ reachBytes)) = true := hsz0
  clear hsz0
  rw [Try.params8] at hsz
  obtain ⟨v0, vs0, d0, ds0, p0, q0, hargs, rfl, rfl, h0, r0⟩ := trodAll_cons hA
  obtain ⟨rfl, rfl, rfl⟩ := trodAll_nil r0
  obtain rfl : args = #[v0] := by cases args; simp_all
  obtain ⟨rfl, rfl⟩ := trodVars_none hV
  have k0 := h0
  have lt0 : ∀ x ∈ p0, x.block < W.heap.size := by obtain ⟨m, hm⟩ := k0; exact DataW.trod_lt m _ _ _ hm
  obtain ⟨a0, len0, cap0, rfl⟩ := okWide_slice Try.underlying36 (hval 0 36 v0 rfl rfl)
  obtain ⟨y0, s00, s01, s02, z0⟩ : ∃ xs : List Int, Rk W.heap.size W 1 (.slice a0 len0 cap0) (xs.map (fun p => [Value.int .u32 p])) ∧ Ra' (.slice a0 len0 cap0) ∧ (∀ p ∈ xs, (Lit.int .u32 p).wf = true) ∧ (∀ K, (∀ n ∈ d0.weights Try.prog 36, n ≤ K) → xs.length * Try.prog.bytesOf 24 ≤ K) := by
    obtain ⟨fuel, hf⟩ := h0
    have hf : DataW.trod enc Try.prog W 0 (fun _ => true) true fuel 36 [.slice a0 len0 cap0] = some (d0, p0) := by simpa [Value.cells] using hf
    exact open_nums (k := .u32) Try.underlying36 Try.underlying24 (by kernel_rfl) hf
  have b0 : Try.prog.bytesOf 24 = 4 := by kernel_rfl
  have w0 : y0.length * 4 ≤ 140737488351232 := by
    have hq := z0 140737488351232 (fun n hn => of_decide_eq_true (List.all_eq_true.1 hsz n (DataW.weights_mem_each (j := 0) rfl rfl n hn)))
    rw [b0] at hq
    exact hq
  clear hA0 hval0
  refine (RestrictRecent_row (.slice a0 len0 cap0) y0 W s00 s01 (fun p hp => u32_wf (s02 p hp)) w0).mono fun e W' ⟨he, bel⟩ => ?_
  subst he
  exact ⟨_, rfl, _, _, _, [], _, [], hW', trodAll_mk1 (shut_bool Try.underlying4 _), (trodAll_cons_mk (Below.trod laidOut (by kernel_rfl) (of_decide_eq_true (by kernel_rfl)) k0 bel lt0) trodAll_mk0), rfl, bel.frame _, fun h => by cases h⟩
theorem over : Rows.restrictRecentRow.holds Try.pinned (OpenSpec.ofChange Rows.restrictRecentSpec) :=
  OpenClaim.holds_of_wide 8 Try.f8 rfl rfl rfl rfl rfl rfl rfl ⟨rfl, rfl, rfl, rfl, rfl⟩ rfl rfl rfl rfl rfl (by kernel_rfl) Try.func8 (by kernel_rfl)
    (of_decide_eq_true (by kernel_rfl)) (by unfold Func.isWrapper; first | (rw [if_pos (by decide +kernel)]; kernel_rfl) | (rw [if_neg (by decide +kernel)]; exact ⟨rfl, rfl⟩))
    (fun os started H enc _ => lifted os started H enc)
theorem proved : Rows.RestrictRecentSaid := over
end Go.Proofs.Ytmgphfdieekpdaa.restrictRecent
namespace Go.Proofs.Ytmgphfdieekpdaa
theorem RestrictRecent_holds : Rows.RestrictRecentSaid := restrictRecent.proved
#print axioms RestrictRecent_holds
end Go.Proofs.Ytmgphfdieekpdaa
