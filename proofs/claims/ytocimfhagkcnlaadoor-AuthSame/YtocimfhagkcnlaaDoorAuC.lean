/- Auth: words of a key file. -/
import Derived.Test.YtocimfhagkcnlaaDoorAuA
import Derived.Test.YtocimfhagkcnlaaDoorAX
import Derived.Test.YtocimfhagkcnlaaDoorShelf
import Derived.Deep.RegionHeld3
namespace Go.Proofs.YtocimfhagkcnlaaDoor
open Go Go.RowKit Go.Sort
set_option linter.unusedVariables false
/-- the names of the kinds -/
def nmS : List UInt8 := [83, 72, 65, 50, 53, 54]
def nmC : List UInt8 := [65, 69, 83, 49, 50, 56, 67, 77, 65, 67]
def rkK (s : ByteArray) : Int × Bool := if (s.toList == nmS) = true then (1, true) else if (s.toList == nmC) = true then (2, true) else (0, false)
set_option maxRecDepth 20000 in
set_option maxHeartbeats 1000000 in
theorem readKind_any (s : ByteArray) (w : World) : Calls Tryd.prog 71 #[.string s] w fun e w' => e = .returned (.tuple #[.int .i64 (rkK s).1, .bool (rkK s).2]) ∧ w' = w := by
  obtain ⟨E1, h1⟩ : ∃ E, (s.toList == nmS) = E := ⟨_, rfl⟩
  obtain ⟨E2, h2⟩ : ∃ E, (s.toList == nmC) = E := ⟨_, rfl⟩
  have HR : Hid (rkK s = if E1 = true then (1, true) else if E2 = true then (2, true) else (0, false)) := by show _ = _; rw [← h1, ← h2]; rfl
  have h1' : (s.toList == [83, 72, 65, 50, 53, 54]) = E1 := h1
  have h2' : (s.toList == [65, 69, 83, 49, 50, 56, 67, 77, 65, 67]) = E2 := h2
  rw [HR.out]
  clear h1 h2 HR
  go_enter Tryd.func71, Tryd.ntmps71
  refine post_hid fun Q hQ => ?_
  cases E1
  · cases E2
    · go_wp2_with fail
      rw [hQ.out]
      go_ret2
      exact ⟨rfl, rfl⟩
    · go_wp2_with fail
      rw [hQ.out]
      go_ret2
      exact ⟨rfl, rfl⟩
  · go_wp2_with fail
    rw [hQ.out]
    go_ret2
    exact ⟨rfl, rfl⟩
set_option maxRecDepth 20000 in
set_option maxHeartbeats 1000000 in
theorem isGap_any (r : Int) (w : World) : Calls Tryd.prog 47 #[.int .i32 r] w fun e w' => e = .returned (.bool (decide (r = 32 ∨ r = 9))) ∧ w' = w := by
  obtain ⟨E, hE⟩ : ∃ E, decide (r = 32 ∨ r = 9) = E := ⟨_, rfl⟩
  have HE : Hid (decide (r = 32 ∨ r = 9) = E) := hE
  rw [hE]
  clear hE
  go_enter Tryd.func47, Tryd.ntmps47
  refine post_hid fun Q hQ => ?_
  by_cases h1 : r = 32
  · have hr : (r == 32) = true := by simpa using h1
    have H2 : Hid (E = true) := by show _ = _; rw [← HE.out]; exact decide_eq_true (.inl h1)
    clear h1
    go_wp2_with fail
    rw [hQ.out]
    go_ret
    exact ⟨by rw [H2.out]; rfl, rfl⟩
  · have hr : (r == 32) = false := by simpa using h1
    by_cases h2 : r = 9
    · have hr2 : (r == 9) = true := by simpa using h2
      have H2 : Hid (E = true) := by show _ = _; rw [← HE.out]; exact decide_eq_true (.inr h2)
      clear h1 h2
      go_wp2_with fail
      rw [hQ.out]
      go_ret
      exact ⟨by rw [H2.out]; rfl, rfl⟩
    · have hr2 : (r == 9) = false := by simpa using h2
      have H2 : Hid (E = false) := by show _ = _; rw [← HE.out]; exact decide_eq_false (by omega)
      clear h1 h2
      go_wp2_with fail
      rw [hQ.out]
      go_ret
      exact ⟨by rw [H2.out]; rfl, rfl⟩
end Go.Proofs.YtocimfhagkcnlaaDoor
