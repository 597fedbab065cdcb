/- choose: the reference's less, and all ends (All). -/
import Derived.Test.YtepbbaeamlimaabUN
namespace Go.Proofs.Ytepbbaeamlimaab
open Go Go.RowKit Go.Sort Ch Pu
set_option linter.unusedVariables false
set_option maxHeartbeats 400000 in
theorem less_any (a b : Int) (w : World) : Calls Try.prog 21 #[.agg (edL a).toArray, .agg (edL b).toArray] w fun e w' => e = .returned (.bool (decide (a < b))) ∧ Below w.heap.size w w' := by
  have hz := z_lt a b
  unfold edL
  obtain ⟨A, hA⟩ : ∃ A, plc a = A := ⟨_, rfl⟩
  obtain ⟨B, hB⟩ : ∃ A, plc b = A := ⟨_, rfl⟩
  obtain ⟨K, hK⟩ : ∃ A, kd a = A := ⟨_, rfl⟩
  obtain ⟨L, hL⟩ : ∃ A, kd b = A := ⟨_, rfl⟩
  rw [hA, hB, hK, hL] at hz
  rw [hA, hB, hK, hL]
  have HZ : Hid (decide (a < b) = decide (A < B ∨ A = B ∧ K < L)) := by show _ = _; rw [decide_eq_decide]; exact hz
  rw [HZ.out]
  clear hz hA hB hK hL HZ
  go_enter Try.func21, Try.ntmps21
  refine post_hid fun Q hQ => ?_
  refine seq_hid fun R hR => ?_
  go_wp2_with fail
  refine world_hid fun W hW => ?_
  have c0 : W.cell? ⟨w.heap.size, 0, none⟩ = some (.int .i64 A) := by rw [hW.out]; go_simp
  have c1 : W.cell? ⟨w.heap.size, 1, none⟩ = some (.int .i64 K) := by rw [hW.out]; go_simp
  have c2 : W.cell? ⟨w.heap.size + 1, 0, none⟩ = some (.int .i64 B) := by rw [hW.out]; go_simp
  have c3 : W.cell? ⟨w.heap.size + 1, 1, none⟩ = some (.int .i64 L) := by rw [hW.out]; go_simp
  have HB : Hid (Below w.heap.size w W) := by show Below _ _ _; rw [hW.out]; exact ((Below.refl _ _).alloc (Nat.le_refl _) _).alloc (by simp) _
  clear hW
  rw [hR.out]
  clear hR
  by_cases h1 : A < B
  · go_wp2_with fail
    rw [hQ.out]
    go_ret
    exact ⟨ret_bool' (by first | rfl | (simp; omega) | (symm; simp; omega)), HB.out⟩
  · by_cases h2 : A = B
    · subst h2
      go_wp2_with fail
      rw [hQ.out]
      go_ret
      exact ⟨ret_bool' (by first | rfl | (simp; done) | (simp; omega)), HB.out⟩
    · have h3 : (A == B) = false := by simpa using h2
      go_wp2_with fail
      rw [hQ.out]
      go_ret
      exact ⟨ret_bool' (by first | rfl | (simp; omega) | (symm; simp; omega)), HB.out⟩
end Go.Proofs.Ytepbbaeamlimaab
