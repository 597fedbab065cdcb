/- The calendar in plain numbers: long years, days ahead of a year and of a month, the number of a day, and that a number has one day. -/

namespace Cal
/-- 1 in a year with one day more -/
def lp (y : Int) : Int := if y % 4 = 0 ∧ y % 100 ≠ 0 ∨ y % 400 = 0 then 1 else 0
theorem lp_01 (y : Int) : 0 ≤ lp y ∧ lp y ≤ 1 := by unfold lp; split <;> omega
def lpB (y : Int) : Bool := decide (y % 4 = 0 ∧ y % 100 ≠ 0 ∨ y % 400 = 0)
theorem lp_t {y : Int} (h : lpB y = true) : lp y = 1 := by unfold lp; rw [if_pos (by simpa [lpB] using h)]
theorem lp_f {y : Int} (h : lpB y = false) : lp y = 0 := by unfold lp; rw [if_neg (by simpa [lpB] using h)]
/-- days ahead of a year -/
def db (y : Int) : Int := (y - 1) * 365 + (y - 1) / 4 - (y - 1) / 100 + (y - 1) / 400
theorem db_succ (y : Int) : db (y + 1) = db y + 365 + lp y := by unfold db lp; split <;> omega
theorem db_mono {a b : Int} (h : a ≤ b) : db a ≤ db b := by unfold db; omega
theorem db_bd {y : Int} (h0 : 1 ≤ y) (h1 : y ≤ 2101) : 0 ≤ db y ∧ db y ≤ 767009 := by unfold db; omega
theorem db_1 : db 1 = 0 := by decide
theorem db_1900 : db 1900 = 693595 := by decide
theorem db_2101 : db 2101 = 767009 := by decide
/-- days of a month -/
def dim (y m : Int) : Int := if m = 2 then 28 + lp y else if m = 4 ∨ m = 6 ∨ m = 9 ∨ m = 11 then 30 else 31
theorem dim_bd (y m : Int) : 28 ≤ dim y m ∧ dim y m ≤ 31 := by
  have := lp_01 y
  unfold dim; split
  · omega
  · split <;> omega
/-- days ahead of a month -/
def cum (y m : Int) : Int :=
  if m ≤ 1 then 0 else if m = 2 then 31 else (if m = 3 then 59 else if m = 4 then 90 else if m = 5 then 120 else if m = 6 then 151 else if m = 7 then 181 else if m = 8 then 212 else if m = 9 then 243 else if m = 10 then 273 else if m = 11 then 304 else if m = 12 then 334 else 365) + lp y
theorem month_cases {m : Int} (h0 : 1 ≤ m) (h1 : m ≤ 12) : m = 1 ∨ m = 2 ∨ m = 3 ∨ m = 4 ∨ m = 5 ∨ m = 6 ∨ m = 7 ∨ m = 8 ∨ m = 9 ∨ m = 10 ∨ m = 11 ∨ m = 12 := by omega
theorem cum_succ (y m : Int) (h0 : 1 ≤ m) (h1 : m ≤ 12) : cum y (m + 1) = cum y m + dim y m := by
  rcases month_cases h0 h1 with rfl | rfl | rfl | rfl | rfl | rfl | rfl | rfl | rfl | rfl | rfl | rfl <;> simp [cum, dim] <;> omega
theorem cum_1 (y : Int) : cum y 1 = 0 := rfl
theorem cum_13 (y : Int) : cum y 13 = 365 + lp y := rfl
theorem cum_bd (y m : Int) : 0 ≤ cum y m ∧ cum y m ≤ 366 := by
  have := lp_01 y
  unfold cum
  repeat' split
  all_goals omega
theorem cum_le (y : Int) {a b : Int} (h0 : 1 ≤ a) (h : a ≤ b) (h1 : b ≤ 13) : cum y a ≤ cum y b := by
  obtain ⟨n, hn⟩ : ∃ n : Nat, b = a + n := ⟨(b - a).toNat, by omega⟩
  subst hn
  induction n with
  | zero => simp
  | succ n ih =>
    have := ih (by omega) (by omega)
    have s := cum_succ y (a + n) (by omega) (by omega)
    have := dim_bd y (a + n)
    rw [show a + ((n + 1 : Nat) : Int) = a + n + 1 from by omega]
    omega
/-- a day that may be -/
def Day (y m d : Int) : Prop := 1 ≤ y ∧ y ≤ 2100 ∧ 1 ≤ m ∧ m ≤ 12 ∧ 1 ≤ d ∧ d ≤ dim y m
/-- the number of a day -/
def num (y m d : Int) : Int := db y + cum y m + d - 1
theorem num_in {y m d : Int} (h : Day y m d) : db y ≤ num y m d ∧ num y m d < db (y + 1) := by
  obtain ⟨h1, h2, h3, h4, h5, h6⟩ := h
  have a := cum_succ y m h3 h4
  have b := cum_le y (show 1 ≤ m + 1 by omega) (show m + 1 ≤ 13 by omega) (by omega)
  have c := cum_bd y m
  have e := db_succ y
  rw [cum_13] at b
  unfold num
  omega
theorem num_bd {y m d : Int} (h : Day y m d) : 0 ≤ num y m d ∧ num y m d < 767009 := by
  have a := num_in h
  have b := db_bd h.1 (by have := h.2.1; omega)
  have c := db_mono (show y + 1 ≤ 2101 by have := h.2.1; omega)
  rw [db_2101] at c
  omega
/-- a number has one day -/
theorem num_one {y m d y' m' d' : Int} (h : Day y m d) (h' : Day y' m' d') (e : num y m d = num y' m' d') : y = y' ∧ m = m' ∧ d = d' := by
  have hy : y = y' := by
    have a := num_in h
    have a' := num_in h'
    rcases Int.lt_trichotomy y y' with l | l | l
    · have := db_mono (show y + 1 ≤ y' by omega); omega
    · exact l
    · have := db_mono (show y' + 1 ≤ y by omega); omega
  subst hy
  obtain ⟨_, _, h3, h4, h5, h6⟩ := h
  obtain ⟨_, _, g3, g4, g5, g6⟩ := h'
  unfold num at e
  have hm : m = m' := by
    rcases Int.lt_trichotomy m m' with l | l | l
    · have := cum_le y (show 1 ≤ m + 1 by omega) (show m + 1 ≤ m' by omega) (by omega); have := cum_succ y m h3 h4; omega
    · exact l
    · have := cum_le y (show 1 ≤ m' + 1 by omega) (show m' + 1 ≤ m by omega) (by omega); have := cum_succ y m' g3 g4; omega
  subst hm
  omega
/-- a time of the day that may be -/
def Time (h n s : Int) : Prop := 0 ≤ h ∧ h ≤ 23 ∧ 0 ≤ n ∧ n ≤ 59 ∧ 0 ≤ s ∧ s ≤ 59
/-- the number of a second, from the year 1 on -/
def sec (y m d h n s : Int) : Int := num y m d * 86400 + h * 3600 + n * 60 + s
theorem sec_bd {y m d h n s : Int} (hd : Day y m d) (ht : Time h n s) : 0 ≤ sec y m d h n s ∧ sec y m d h n s < 66269577600 := by
  have := num_bd hd
  obtain ⟨_, _, _, _, _, _⟩ := ht
  unfold sec; omega
theorem sec_one {y m d h n s y' m' d' h' n' s' : Int} (hd : Day y m d) (ht : Time h n s) (hd' : Day y' m' d') (ht' : Time h' n' s') (e : sec y m d h n s = sec y' m' d' h' n' s') : y = y' ∧ m = m' ∧ d = d' ∧ h = h' ∧ n = n' ∧ s = s' := by
  obtain ⟨_, _, _, _, _, _⟩ := ht
  obtain ⟨_, _, _, _, _, _⟩ := ht'
  unfold sec at e
  have hn : num y m d = num y' m' d' := by omega
  obtain ⟨rfl, rfl, rfl⟩ := num_one hd hd' hn
  omega
end Cal
