/- assoc: the reference's group. -/
import Derived.Test.YtnjdmkgkpdebdaaOG
namespace Go.Proofs.Ytnjdmkgkpdebdaa
open Go Go.RowKit Go.Sort
set_option linter.unusedVariables false
/-- a group's address, or everybody's -/
def rgB (a : Int) : Bool := decide (a / 268435456 = 14) || decide (a = 4294967295)
theorem group_any (a : Int) (w : World) : Calls Try.prog 55 #[.int .u32 a] w fun e w' => e = .returned (.bool (rgB a)) ∧ w' = w := by
  unfold rgB
  go_enter Try.func55, Try.ntmps55
  by_cases h1 : a / 268435456 = 14
  · go_wp2_with fail
    go_ret
    exact ⟨ret_bool' (by simp [h1]), rfl⟩
  · have h2 : (a / 268435456 == 14) = false := by simpa using h1
    go_wp2_with fail
    go_ret
    refine ⟨ret_bool' ?_, rfl⟩
    rw [decide_eq_false h1, Bool.false_or, Bool.eq_iff_iff]
    simp
end Go.Proofs.Ytnjdmkgkpdebdaa
