/- assoc: AssocDispatch. -/
import Derived.Test.YtnjdmkgkpdebdaaKQ
namespace Go.Proofs.Ytnjdmkgkpdebdaa
open Go Go.RowKit Go.Sort
set_option linter.unusedVariables false
theorem AssocDispatch_walk (a0 a1 : Int) (w0 : (Lit.int .i64 a0).wf = true) (w1 : (Lit.int .i64 a1).wf = true) (w : World) :
    Calls Try.prog 4 #[.int .i64 a0, .int .i64 a1] w fun e w' => e = .returned (.bool true) ∧ Below w.heap.size w w' := by
  have HD : Hid (∀ u, Calls Try.prog 12 #[.int .i64 a0, .int .i64 a1] u fun e w' => e = .returned (.int .i64 (dsN a0 a1)) ∧ Below u.heap.size u w') := fun u => dispatch_any a0 a1 u w0 w1
  have HE : Hid (∀ u, Calls Try.prog 13 #[.int .i64 a0, .int .i64 a1] u fun e w' => e = .returned (.int .i64 (dsN a0 a1)) ∧ w' = u) := fun u => rdispatch_any a0 a1 u
  clear w0 w1
  obtain ⟨N, hN⟩ : ∃ N, dsN a0 a1 = N := ⟨_, rfl⟩
  rw [hN] at HD HE
  clear hN
  go_enter Try.func4, Try.ntmps4
  go_wp2_with (first
    | (go_at_call 7; refine (shown_any w).mono ?_; rintro e w1 ⟨rfl, hb1⟩)
    | (go_at_call 12; refine (HD.out _).mono ?_; rintro e w2 ⟨rfl, hb2⟩)
    | (go_at_call 13; refine (HE.out _).mono ?_; rintro e w3 ⟨rfl, hw3⟩; rw [hw3]; clear hw3))
  go_ret
  exact ⟨rfl, below_thru hb1 hb2⟩
end Go.Proofs.Ytnjdmkgkpdebdaa
