/- less; Sort, as the reference has them. -/
import Derived.Test.YtmgphfdieekpdaaSI
import Derived.Test.YtmgphfdieekpdaaSD
import Derived.Test.YtmgphfdieekpdaaRV
namespace Go.Proofs.Ytmgphfdieekpdaa
open Go Go.RowKit Go.Sort
-- numbers: less 31 Sort 15 rules 4
theorem lt_no {a b : Ru} (h : ¬ ltK a b) : ltR a b = false := by
  cases hh : ltR a b with
  | false => rfl
  | true => exact absurd ((ltK_iff a b).1 hh) h
theorem less_any (x y : Ru) (w : World) : Calls Try.prog 31 #[.agg (ruL x).toArray, .agg (ruL y).toArray] w fun e w' => e = .returned (.bool (ltR x y)) ∧ Below w.heap.size w w' := by
  obtain ⟨a0, a1, a2⟩ := x
  obtain ⟨b0, b1, b2⟩ := y
  unfold ruL
  simp only
  have HE : Hid (ltR ⟨a0, a1, a2⟩ ⟨b0, b1, b2⟩ = decide (a0 < b0 ∨ (a0 = b0 ∧ a1 < b1))) := by show _ = _; rw [Bool.eq_iff_iff, ltR_iff, decide_eq_true_eq]
  go_enter Try.func31, Try.ntmps31
  by_cases h1 : a0 < b0
  · have HT : Hid (ltR ⟨a0, a1, a2⟩ ⟨b0, b1, b2⟩ = true) := by show _ = _; rw [HE.out]; exact decide_eq_true (.inl h1)
    go_wp2
    go_ret
    exact ⟨by rw [HT.out]; rfl, (by repeat' (first | with_reducible exact Below.refl _ _ | with_reducible refine Below.setCell ?_ (by first | (simp; done) | (simp; omega) | omega) _ | with_reducible refine below_drewN ?_ _ | with_reducible refine Below.drew ?_ | with_reducible refine Below.alloc ?_ (by first | (simp; done) | (simp; omega) | omega) _))⟩
  · by_cases h2 : a0 = b0
    · by_cases h3 : a1 < b1
      · have HT : Hid (ltR ⟨a0, a1, a2⟩ ⟨b0, b1, b2⟩ = true) := by show _ = _; rw [HE.out]; exact decide_eq_true (.inr ⟨h2, h3⟩)
        subst h2
        go_wp2
        go_ret
        exact ⟨by rw [HT.out]; rfl, (by repeat' (first | with_reducible exact Below.refl _ _ | with_reducible refine Below.setCell ?_ (by first | (simp; done) | (simp; omega) | omega) _ | with_reducible refine below_drewN ?_ _ | with_reducible refine Below.drew ?_ | with_reducible refine Below.alloc ?_ (by first | (simp; done) | (simp; omega) | omega) _))⟩
      · have HT : Hid (ltR ⟨a0, a1, a2⟩ ⟨b0, b1, b2⟩ = false) := by show _ = _; rw [HE.out]; exact decide_eq_false (by omega)
        subst h2
        go_wp2
        go_ret
        exact ⟨by rw [HT.out]; rfl, (by repeat' (first | with_reducible exact Below.refl _ _ | with_reducible refine Below.setCell ?_ (by first | (simp; done) | (simp; omega) | omega) _ | with_reducible refine below_drewN ?_ _ | with_reducible refine Below.drew ?_ | with_reducible refine Below.alloc ?_ (by first | (simp; done) | (simp; omega) | omega) _))⟩
    · have h2' : (a0 == b0) = false := by simpa using h2
      have HT : Hid (ltR ⟨a0, a1, a2⟩ ⟨b0, b1, b2⟩ = false) := by show _ = _; rw [HE.out]; exact decide_eq_false (by omega)
      go_wp2
      go_ret
      exact ⟨by rw [HT.out]; rfl, (by repeat' (first | with_reducible exact Below.refl _ _ | with_reducible refine Below.setCell ?_ (by first | (simp; done) | (simp; omega) | omega) _ | with_reducible refine below_drewN ?_ _ | with_reducible refine Below.drew ?_ | with_reducible refine Below.alloc ?_ (by first | (simp; done) | (simp; omega) | omega) _))⟩
end Go.Proofs.Ytmgphfdieekpdaa
