/- PulseWild holds for all rows of tame and wild spans and all picks: the middle lies among the tame ones as long as no more than a quarter are wild, and no order changes it. -/
import Derived.Test.YtogloknoaeackaaRows
import Derived.WalkKit
import Derived.ProofKit
import Derived.OpenShut
import Derived.ShutString
import Derived.ChangeOld
import Derived.Below
import Derived.SizedLaws
import Derived.Test.YtogloknoaeackaaPU
import Derived.Test.YtogloknoaeackaaPS
namespace Go.Proofs.Ytogloknoaeackaa.pulseWild
open Go.ChangeShapes Go.WideShapes Go.ChangeAt Go.RowKit
set_option linter.unusedVariables false
theorem own : ownKnob Try.prog.godebug = none := by kernel_rfl
theorem laidOut : laidOutB Try.prog = true := by kernel_rfl
set_option maxRecDepth 100000 in
theorem lifted (os : Os) (started : os.Started) (H : Type) (enc : TypeId × Value → H) :
    ReturnsInHanded {} Try.checked os 5 .any (Rows.pulseWildSpec.pre6 enc Try.prog Try.f5 Rows.pulseWildRow.domain false) (Rows.pulseWildSpec.post enc Try.prog Try.f5 false true false false) := by
  refine returnsInHanded_of_change_sized (C := Try.checked) own started (by kernel_rfl) Try.func5
    (ChangeSpec.witness6 (enc := enc) (C := Try.checked) false ⟨#[], #[.slice none 0 0, .slice none 0 0, .slice none 0 0], []⟩ 8 (by kernel_rfl) (by kernel_rfl) (by kernel_rfl) (by kernel_rfl)) ?_
  intro W base args ds gs before hval0 hW hcnd hsz0 _
  have hval : ∀ (j : Nat) t v, Try.f5.params[j]? = some t → args[j]? = some v → Value.okWide Try.prog W .any base t v := hval0
  have hW' := hW
  obtain ⟨p, q, hA0, hV, rfl, hfz, hnd⟩ := hW
  have hA : DataW.TrodAll enc Try.prog W 0 (fun _ => true) true Try.f5.params.toList args.toList ds p := hA0
  rw [Try.params5] at hA hval
  have hsz : (DataW.weightsEach Try.prog (Try.f5.params.toList ++ Rows.pulseWildSpec.plain.varTypes Try.prog) (ds ++ gs)).all (fun x => decide (x ≤ reachBytes)) = true := hsz0
  clear hsz0
  rw [Try.params5] at hsz
  obtain ⟨v0, vs0, d0, ds0, p0, q0, hargs, rfl, rfl, h0, r0⟩ := trodAll_cons hA
  obtain ⟨v1, vs1, d1, ds1, p1, q1, rfl, rfl, rfl, h1, r1⟩ := trodAll_cons r0
  obtain ⟨v2, vs2, d2, ds2, p2, q2, rfl, rfl, rfl, h2, r2⟩ := trodAll_cons r1
  obtain ⟨rfl, rfl, rfl⟩ := trodAll_nil r2
  obtain rfl : args = #[v0, v1, v2] := by cases args; simp_all
  obtain ⟨rfl, rfl⟩ := trodVars_none hV
  have k0 := h0
  have lt0 : ∀ x ∈ p0, x.block < W.heap.size := by obtain ⟨m, hm⟩ := k0; exact DataW.trod_lt m _ _ _ hm
  obtain ⟨a0, len0, cap0, rfl⟩ := okWide_slice Try.underlying28 (hval 0 28 v0 rfl rfl)
  obtain ⟨y0, s0, z0⟩ : ∃ l : List Int, Sl W.heap.size W (.slice a0 len0 cap0) l ∧ (∀ K, (∀ n ∈ d0.weights Try.prog 28, n ≤ K) → l.length * Try.prog.bytesOf 25 ≤ K) := by
    obtain ⟨fuel, hf⟩ := h0
    have hf : DataW.trod enc Try.prog W 0 (fun _ => true) true fuel 28 [.slice a0 len0 cap0] = some (d0, p0) := by simpa [Value.cells] using hf
    exact open_spans Try.underlying28 Try.underlying25 (by kernel_rfl) hf
  have b0 : Try.prog.bytesOf 25 = 8 := by kernel_rfl
  have w0 : y0.length * 8 ≤ 140737488351232 := by
    have hq := z0 140737488351232 (fun n hn => of_decide_eq_true (List.all_eq_true.1 hsz n (DataW.weights_mem_each (j := 0) rfl rfl n hn)))
    rw [b0] at hq
    omega
  have k1 := h1
  have lt1 : ∀ x ∈ p1, x.block < W.heap.size := by obtain ⟨m, hm⟩ := k1; exact DataW.trod_lt m _ _ _ hm
  obtain ⟨a1, len1, cap1, rfl⟩ := okWide_slice Try.underlying28 (hval 1 28 v1 rfl rfl)
  obtain ⟨y1, s1, z1⟩ : ∃ l : List Int, Sl W.heap.size W (.slice a1 len1 cap1) l ∧ (∀ K, (∀ n ∈ d1.weights Try.prog 28, n ≤ K) → l.length * Try.prog.bytesOf 25 ≤ K) := by
    obtain ⟨fuel, hf⟩ := h1
    have hf : DataW.trod enc Try.prog W 0 (fun _ => true) true fuel 28 [.slice a1 len1 cap1] = some (d1, p1) := by simpa [Value.cells] using hf
    exact open_spans Try.underlying28 Try.underlying25 (by kernel_rfl) hf
  have b1 : Try.prog.bytesOf 25 = 8 := by kernel_rfl
  have w1 : y1.length * 8 ≤ 140737488351232 := by
    have hq := z1 140737488351232 (fun n hn => of_decide_eq_true (List.all_eq_true.1 hsz n (DataW.weights_mem_each (j := 1) rfl rfl n hn)))
    rw [b1] at hq
    omega
  have k2 := h2
  have lt2 : ∀ x ∈ p2, x.block < W.heap.size := by obtain ⟨m, hm⟩ := k2; exact DataW.trod_lt m _ _ _ hm
  obtain ⟨a2, len2, cap2, rfl⟩ := okWide_slice Try.underlying32 (hval 2 32 v2 rfl rfl)
  obtain ⟨y2, s2, z2⟩ : ∃ l : List Int, Sl W.heap.size W (.slice a2 len2 cap2) l ∧ (∀ K, (∀ n ∈ d2.weights Try.prog 32, n ≤ K) → l.length * Try.prog.bytesOf 3 ≤ K) := by
    obtain ⟨fuel, hf⟩ := h2
    have hf : DataW.trod enc Try.prog W 0 (fun _ => true) true fuel 32 [.slice a2 len2 cap2] = some (d2, p2) := by simpa [Value.cells] using hf
    exact open_spans Try.underlying32 Try.underlying3 (by kernel_rfl) hf
  have b2 : Try.prog.bytesOf 3 = 8 := by kernel_rfl
  have w2 : y2.length * 8 ≤ 140737488351232 := by
    have hq := z2 140737488351232 (fun n hn => of_decide_eq_true (List.all_eq_true.1 hsz n (DataW.weights_mem_each (j := 2) rfl rfl n hn)))
    rw [b2] at hq
    omega
  clear hA0 hval0
  refine (PulseWild_row (.slice a0 len0 cap0) (.slice a1 len1 cap1) (.slice a2 len2 cap2) y0 y1 y2 W s0 w0 s1 w1 s2 w2).mono fun e W' ⟨he, bel⟩ => ?_
  subst he
  exact ⟨_, rfl, _, _, _, [], _, [], hW', trodAll_mk1 (shut_bool Try.underlying4 _), (trodAll_cons_mk (Below.trod laidOut (by kernel_rfl) (of_decide_eq_true (by kernel_rfl)) k0 bel lt0) (trodAll_cons_mk (Below.trod laidOut (by kernel_rfl) (of_decide_eq_true (by kernel_rfl)) k1 bel lt1) (trodAll_cons_mk (Below.trod laidOut (by kernel_rfl) (of_decide_eq_true (by kernel_rfl)) k2 bel lt2) trodAll_mk0))), rfl, bel.frame _, fun h => by cases h⟩
theorem over : Rows.pulseWildRow.holds Try.pinned (OpenSpec.ofChange Rows.pulseWildSpec) :=
  OpenClaim.holds_of_wide 5 Try.f5 rfl rfl rfl rfl rfl rfl rfl ⟨rfl, rfl, rfl, rfl, rfl⟩ rfl rfl rfl rfl rfl (by kernel_rfl) Try.func5 (by kernel_rfl)
    (of_decide_eq_true (by kernel_rfl)) (by unfold Func.isWrapper; first | (rw [if_pos (by decide +kernel)]; kernel_rfl) | (rw [if_neg (by decide +kernel)]; exact ⟨rfl, rfl⟩))
    (fun os started H enc _ => lifted os started H enc)
theorem proved : Rows.PulseWildSaid := over
end Go.Proofs.Ytogloknoaeackaa.pulseWild
namespace Go.Proofs.Ytogloknoaeackaa
theorem PulseWild_holds : Rows.PulseWildSaid := pulseWild.proved
#print axioms PulseWild_holds
end Go.Proofs.Ytogloknoaeackaa
