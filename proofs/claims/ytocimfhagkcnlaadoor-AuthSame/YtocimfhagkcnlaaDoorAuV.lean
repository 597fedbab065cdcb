/- Auth: the examples' values. -/
import Derived.Test.YtocimfhagkcnlaaDoorAE
import Derived.Test.YtocimfhagkcnlaaDoorAN
namespace Go.Proofs.YtocimfhagkcnlaaDoor
open Go Go.RowKit Go.Sort
theorem sha_abc : (sha [97, 98, 99]).getD 0 0 = 186 ∧ (sha [97, 98, 99]).getD 1 0 = 120 ∧ (sha [97, 98, 99]).getD 31 0 = 173 := by
  have h : decide ((sha [97, 98, 99]).getD 0 0 = 186 ∧ (sha [97, 98, 99]).getD 1 0 = 120 ∧ (sha [97, 98, 99]).getD 31 0 = 173) = true := by kernel_rfl
  exact of_decide_eq_true h
theorem aes_ex : (aes [0, 1, 2, 3, 4, 5, 6, 7, 8, 9, 10, 11, 12, 13, 14, 15] [0, 17, 34, 51, 68, 85, 102, 119, 136, 153, 170, 187, 204, 221, 238, 255]).getD 0 0 = 105 ∧ (aes [0, 1, 2, 3, 4, 5, 6, 7, 8, 9, 10, 11, 12, 13, 14, 15] [0, 17, 34, 51, 68, 85, 102, 119, 136, 153, 170, 187, 204, 221, 238, 255]).getD 15 0 = 90 := by
  have h : decide ((aes [0, 1, 2, 3, 4, 5, 6, 7, 8, 9, 10, 11, 12, 13, 14, 15] [0, 17, 34, 51, 68, 85, 102, 119, 136, 153, 170, 187, 204, 221, 238, 255]).getD 0 0 = 105 ∧ (aes [0, 1, 2, 3, 4, 5, 6, 7, 8, 9, 10, 11, 12, 13, 14, 15] [0, 17, 34, 51, 68, 85, 102, 119, 136, 153, 170, 187, 204, 221, 238, 255]).getD 15 0 = 90) = true := by kernel_rfl
  exact of_decide_eq_true h
end Go.Proofs.YtocimfhagkcnlaaDoor
