/- The next day and the next second by the calendar, in plain numbers. -/
import Derived.Test.YtifaneckfnjgiabCal
namespace Cal
theorem day_next {y m d y' m' d' : Int} (h : Day y m d) (h' : Day y' m' d') (e : num y' m' d' = num y m d + 1) :
    (y' = y ∧ m' = m ∧ d' = d + 1) ∨ (d = dim y m ∧ m < 12 ∧ y' = y ∧ m' = m + 1 ∧ d' = 1) ∨ (d = dim y m ∧ m = 12 ∧ y' = y + 1 ∧ m' = 1 ∧ d' = 1) := by
  obtain ⟨h1, h2, h3, h4, h5, h6⟩ := h
  by_cases c : d < dim y m
  · left
    exact num_one h' ⟨h1, h2, h3, h4, by omega, by omega⟩ (by rw [e]; unfold num; omega)
  have c' : d = dim y m := by omega
  right
  by_cases c2 : m < 12
  · left
    have cs := cum_succ y m h3 h4
    have db := dim_bd y (m + 1)
    obtain ⟨a, b, g⟩ := num_one h' (y' := y) (m' := m + 1) (d' := 1) ⟨h1, h2, by omega, by omega, by omega, by omega⟩ (by rw [e]; unfold num; omega)
    exact ⟨c', c2, a, b, g⟩
  · right
    have m12 : m = 12 := by omega
    subst m12
    have cs := cum_succ y 12 (by omega) (by omega)
    have c13 := cum_13 y
    have s := db_succ y
    have nb := num_bd h'
    have y1 : y + 1 ≤ 2100 := by
      refine Decidable.byContradiction fun x => ?_
      have ey : y = 2100 := by omega
      subst ey
      have := db_2101
      unfold num at *
      simp at cs s
      omega
    have db := dim_bd (y + 1) 1
    obtain ⟨a, b, g⟩ := num_one h' (y' := y + 1) (m' := 1) (d' := 1) ⟨by omega, y1, by omega, by omega, by omega, by omega⟩ (by rw [e]; unfold num; rw [cum_1]; simp at cs; omega)
    exact ⟨c', rfl, a, b, g⟩
/-- the second behind a second -/
theorem sec_next {y m d h n s y' m' d' h' n' s' : Int} (hd : Day y m d) (ht : Time h n s) (hd' : Day y' m' d') (ht' : Time h' n' s') (e : sec y' m' d' h' n' s' = sec y m d h n s + 1) :
    (y' = y ∧ m' = m ∧ d' = d ∧ h' = h ∧ n' = n ∧ s' = s + 1) ∨
    (y' = y ∧ m' = m ∧ d' = d ∧ h' = h ∧ n' = n + 1 ∧ s' = 0 ∧ s = 59) ∨
    (y' = y ∧ m' = m ∧ d' = d ∧ h' = h + 1 ∧ n' = 0 ∧ s' = 0 ∧ n = 59 ∧ s = 59) ∨
    (h' = 0 ∧ n' = 0 ∧ s' = 0 ∧ h = 23 ∧ n = 59 ∧ s = 59 ∧ ((y' = y ∧ m' = m ∧ d' = d + 1) ∨ (d = dim y m ∧ m < 12 ∧ y' = y ∧ m' = m + 1 ∧ d' = 1) ∨ (d = dim y m ∧ m = 12 ∧ y' = y + 1 ∧ m' = 1 ∧ d' = 1))) := by
  obtain ⟨t1, t2, t3, t4, t5, t6⟩ := ht
  obtain ⟨u1, u2, u3, u4, u5, u6⟩ := ht'
  unfold sec at e
  by_cases c : num y' m' d' = num y m d
  · obtain ⟨rfl, rfl, rfl⟩ := num_one hd' hd c
    by_cases c1 : s < 59
    · exact Or.inl ⟨rfl, rfl, rfl, by omega, by omega, by omega⟩
    · by_cases c2 : n < 59
      · exact Or.inr (Or.inl ⟨rfl, rfl, rfl, by omega, by omega, by omega, by omega⟩)
      · exact Or.inr (Or.inr (Or.inl ⟨rfl, rfl, rfl, by omega, by omega, by omega, by omega, by omega⟩))
  · have e1 : num y' m' d' = num y m d + 1 := by omega
    exact Or.inr (Or.inr (Or.inr ⟨by omega, by omega, by omega, by omega, by omega, by omega, day_next hd hd' e1⟩))
end Cal
