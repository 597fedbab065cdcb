/- Plain numbers: a number cut at a limit either way, and quotients divided down, by size and sign (no run of the model in this text). -/
namespace Fx
/-- a number, cut at a limit either way -/
def cl (m x : Int) : Int := max (-m) (min x m)
theorem cl_def (m x : Int) : cl m x = max (-m) (min x m) := rfl
theorem cl_in {m x : Int} (h0 : -m ≤ x) (h1 : x ≤ m) : cl m x = x := by unfold cl; omega
theorem cl_up {m x : Int} (h0 : 0 ≤ m) (h1 : m ≤ x) : cl m x = m := by have := h0; unfold cl; omega
theorem cl_dn {m x : Int} (_h0 : 0 ≤ m) (h1 : x ≤ -m) : cl m x = -m := by unfold cl; omega
theorem cl_bd {m : Int} (h0 : 0 ≤ m) (x : Int) : -m ≤ cl m x ∧ cl m x ≤ m := by unfold cl; omega
theorem cl_mono {m x y : Int} (h : x ≤ y) : cl m x ≤ cl m y := by unfold cl; omega

/-- the quotient of a product, by sizes -/
theorem quo_pos (P D : Nat) : ((P : Int)) / (D : Int) = ((P / D : Nat) : Int) := (Int.natCast_ediv P D).symm
theorem quo_neg (P D : Nat) (hD : 0 < D) : (-(P : Int)) / (D : Int) = -(((P / D : Nat) : Int) + if 0 < P % D then 1 else 0) := by
  have h := Nat.div_add_mod P D
  have hm := Nat.mod_lt P hD
  generalize P / D = q at *
  generalize P % D = r at *
  have hP : (P : Int) = (D : Int) * q + r := by rw [← Int.natCast_mul, ← Int.natCast_add, h]
  split
  · rename_i hr
    rw [Int.ediv_eq_iff_of_pos (by omega)]
    rw [hP]
    refine ⟨?_, ?_⟩
    · have : -((q : Int) + 1) * D = -((D : Int) * q) - D := by grind
      omega
    · have : -((q : Int) + 1) * D = -((D : Int) * q) - D := by grind
      omega
  · rename_i hr
    have hr0 : r = 0 := by omega
    rw [hr0] at hP
    rw [hP, Int.ediv_eq_iff_of_pos (by omega)]
    refine ⟨?_, ?_⟩
    · have : -((q : Int) + 0) * D = -((D : Int) * q) := by grind
      omega
    · have : -((q : Int) + 0) * D = -((D : Int) * q) := by grind
      omega
theorem prod_same {a b : Int} (h : (a < 0) ↔ (b < 0)) : a * b = ((a.natAbs * b.natAbs : Nat) : Int) := by
  rw [Int.natCast_mul]
  by_cases ha : a < 0
  · have hb := h.1 ha
    rw [show ((a.natAbs : Nat) : Int) = -a from by omega, show ((b.natAbs : Nat) : Int) = -b from by omega]
    grind
  · have hb : ¬ b < 0 := fun x => ha (h.2 x)
    rw [show ((a.natAbs : Nat) : Int) = a from by omega, show ((b.natAbs : Nat) : Int) = b from by omega]
theorem prod_other {a b : Int} (h : ¬ ((a < 0) ↔ (b < 0))) : a * b = -((a.natAbs * b.natAbs : Nat) : Int) := by
  rw [Int.natCast_mul]
  by_cases ha : a < 0
  · have hb : ¬ b < 0 := fun x => h ⟨fun _ => x, fun _ => ha⟩
    rw [show ((a.natAbs : Nat) : Int) = -a from by omega, show ((b.natAbs : Nat) : Int) = b from by omega]
    grind
  · have hb : b < 0 := Decidable.byContradiction fun x => h ⟨fun y => absurd y ha, fun y => absurd y x⟩
    rw [show ((a.natAbs : Nat) : Int) = a from by omega, show ((b.natAbs : Nat) : Int) = -b from by omega]
    grind
/-- too great for a word -/
theorem quo_big (P D : Nat) (hD : 0 < D) (h : D ≤ P / 18446744073709551616) : 18446744073709551616 ≤ P / D := by
  rw [Nat.le_div_iff_mul_le hD, Nat.mul_comm]
  exact (Nat.le_div_iff_mul_le (by decide)).1 h
theorem words (P : Nat) : P / 18446744073709551616 * 18446744073709551616 + P % 18446744073709551616 = P := Nat.div_add_mod' P _
/-- the quotient that is cut, by sizes and signs -/
def qs (below : Bool) (P D : Nat) (m : Int) : Int := cl m ((if below then -(P : Int) else (P : Int)) / (D : Int))
theorem qs_far (below : Bool) (P D : Nat) (m : Int) (hD : 0 < D) (hm : 0 ≤ m) (h : m ≤ ((P / D : Nat) : Int)) : qs below P D m = if below then -m else m := by
  cases below
  · unfold qs
    rw [if_neg (by decide), if_neg (by decide), quo_pos]
    exact cl_up hm h
  · unfold qs
    rw [if_pos rfl, if_pos rfl, quo_neg P D hD]
    refine cl_dn hm ?_
    split <;> omega
theorem qs_up (P D : Nat) (m : Int) (h : ((P / D : Nat) : Int) < m) : qs false P D m = ((P / D : Nat) : Int) := by
  unfold qs
  rw [if_neg (by decide), quo_pos]
  generalize P / D = q at *
  exact cl_in (by omega) (by omega)
theorem qs_dn0 (P D : Nat) (m : Int) (hD : 0 < D) (h : ((P / D : Nat) : Int) < m) (hr : P % D = 0) : qs true P D m = -((P / D : Nat) : Int) := by
  unfold qs
  rw [if_pos rfl, quo_neg P D hD, if_neg (by omega), Int.add_zero]
  generalize P / D = q at *
  exact cl_in (by omega) (by omega)
theorem qs_dn1 (P D : Nat) (m : Int) (hD : 0 < D) (h : ((P / D : Nat) : Int) < m) (hr : 0 < P % D) : qs true P D m = -(((P / D : Nat) : Int) + 1) := by
  unfold qs
  rw [if_pos rfl, quo_neg P D hD, if_pos hr]
  generalize P / D = q at *
  exact cl_in (by omega) (by omega)
theorem qs_same {a b : Int} (h : (a < 0) ↔ (b < 0)) (D : Nat) (m : Int) : cl m (a * b / D) = qs false (a.natAbs * b.natAbs) D m := by
  rw [prod_same h]; rfl
theorem qs_other {a b : Int} (h : ¬ ((a < 0) ↔ (b < 0))) (D : Nat) (m : Int) : cl m (a * b / D) = qs true (a.natAbs * b.natAbs) D m := by
  rw [prod_other h]; rfl
theorem size_le {a : Int} (h0 : -9223372036854775808 ≤ a) (h1 : a ≤ 9223372036854775807) : a.natAbs ≤ 9223372036854775808 := by omega
end Fx
