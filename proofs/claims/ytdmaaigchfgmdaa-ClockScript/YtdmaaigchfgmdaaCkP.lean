/- clock: what passes, in closed form (pure). -/
import Derived.Test.YtdmaaigchfgmdaaCkK
namespace Go.Proofs.Ytdmaaigchfgmdaa
open Go Go.RowKit Go.Sort
set_option linter.unusedVariables false
theorem pass_add (s : Cs) (a b : Nat) : passS (passS s a) b = passS s (a + b) := by
  induction b with
  | zero => rfl
  | succ b ih => rw [passS, ih]; rfl
/-- what a clock shows that is left alone -/
def runS (s : Cs) (k : Nat) : Cs := { s with x := s.x + 4294967296 * k, n := s.n + k, q := (s.q + (s.r + s.f) * k) % 65536, e := s.e + (s.q + (s.r + s.f) * k) / 65536 }
theorem mul_bd {r : Int} {k : Nat} (h0 : -281474976710710 ≤ r) (h1 : r ≤ 281474976710710) (hk : (k : Int) ≤ 1048576) : -295147905179409448960 ≤ r * k ∧ r * k ≤ 295147905179409448960 := by
  have hk0 : (0 : Int) ≤ k := Int.natCast_nonneg k
  have a : r * k ≤ 281474976710710 * k := Int.mul_le_mul_of_nonneg_right h1 hk0
  have b : -281474976710710 * (k : Int) ≤ r * k := Int.mul_le_mul_of_nonneg_right h0 hk0
  omega
theorem run_pass {s : Cs} (ok : OkC s) (hl : s.l = 0) (h0 : -2305843009213693952 ≤ s.e) (h1 : s.e ≤ 2305843009213693952) (k : Nat) (hk : s.n + k ≤ 1048576) : passS s k = runS s k := by
  obtain ⟨a1, a2, a3, a4, a5, a6, a7, a8, a9, a10, a11, a12, a13, a14⟩ := ok
  induction k with
  | zero =>
    rw [passS]
    unfold runS
    obtain ⟨x, e, r, f, q, l, n⟩ := s
    simp only at *
    congr 1 <;> simp <;> omega
  | succ k ih =>
    rw [passS, ih (by omega), secS_zero (s := runS s k) hl]
    obtain ⟨x, e, r, f, q, l, n⟩ := s
    simp only at *
    obtain ⟨R, hR⟩ : ∃ R, r + f = R := ⟨_, rfl⟩
    have hb := mul_bd (r := R) (k := k) (by omega) (by omega) (by omega)
    obtain ⟨K, hK⟩ : ∃ K, R * k = K := ⟨_, rfl⟩
    have e1 : R * ((k + 1 : Nat) : Int) = K + R := by rw [← hK]; push_cast; rw [Int.mul_add, Int.mul_one]
    rw [hK] at hb
    unfold runS one
    simp only
    rw [hR, hK, e1]
    congr 1
    · push_cast; omega
    · rw [sv_in (by omega) (by omega)]; omega
    · omega
    · push_cast; omega
/-- which second a leap puts in -/
def lpW (l : Int) : Int := if l = 1 then -4294967296 else if l = 2 then 4294967296 else 0
def lepS (s : Cs) (k : Nat) : Cs := { s with x := s.x + 4294967296 * k, n := s.n + k, e := if dayI s.x < dayI (s.x + 4294967296 * k) then lpW s.l else 0, l := if dayI s.x < dayI (s.x + 4294967296 * k) then 0 else s.l }
theorem day_mono {a b : Int} (h : a ≤ b) : dayI a ≤ dayI b := by unfold dayI; omega
theorem lpE_W (l : Int) : lpE l 0 = lpW l := by
  unfold lpE lpW
  split
  · exact sv_in (by omega) (by omega)
  · split
    · exact sv_in (by omega) (by omega)
    · rfl
theorem lpW_bd (l : Int) : -4294967296 ≤ lpW l ∧ lpW l ≤ 4294967296 := by unfold lpW; (repeat' split) <;> omega
theorem lep_pass {s : Cs} (hr : s.r = 0) (hf : s.f = 0) (hq : s.q = 0) (he : s.e = 0) (k : Nat) : passS s k = lepS s k := by
  obtain ⟨x, e, r, f, q, l, n⟩ := s
  simp only at *
  subst hr hf hq he
  induction k with
  | zero => simp [passS, lepS]
  | succ k ih =>
    rw [passS, ih]
    have ex : x + 4294967296 * ((k + 1 : Nat) : Int) = x + 4294967296 * k + 4294967296 := by push_cast; omega
    have m1 := day_mono (a := x) (b := x + 4294967296 * k) (by omega)
    have m2 := day_mono (a := x + 4294967296 * k) (b := x + 4294967296 * k + 4294967296) (by omega)
    by_cases h : dayI x < dayI (x + 4294967296 * k)
    · have e1 : lepS ⟨x, 0, 0, 0, 0, l, n⟩ k = ⟨x + 4294967296 * k, lpW l, 0, 0, 0, 0, n + k⟩ := by
        unfold lepS; simp only; rw [if_pos h, if_pos h]
      have e2 : lepS ⟨x, 0, 0, 0, 0, l, n⟩ (k + 1) = ⟨x + 4294967296 * k + 4294967296, lpW l, 0, 0, 0, 0, n + k + 1⟩ := by
        unfold lepS; simp only; rw [ex, if_pos (by omega), if_pos (by omega)]; congr 1; push_cast; omega
      rw [e1, e2, secS_zero rfl]
      have := lpW_bd l
      unfold one
      simp only
      congr 1
      exact (sv_in (by omega) (by omega)).trans (by omega)
    · have e1 : lepS ⟨x, 0, 0, 0, 0, l, n⟩ k = ⟨x + 4294967296 * k, 0, 0, 0, 0, l, n + k⟩ := by
        unfold lepS; simp only; rw [if_neg h, if_neg h]
      have eo : one ⟨x + 4294967296 * k, 0, 0, 0, 0, l, n + k⟩ = ⟨x + 4294967296 * k + 4294967296, 0, 0, 0, 0, l, n + k + 1⟩ := by
        unfold one; simp only; congr 1
      have e2 : lepS ⟨x, 0, 0, 0, 0, l, n⟩ (k + 1) = ⟨x + 4294967296 * k + 4294967296, if dayI x < dayI (x + 4294967296 * k + 4294967296) then lpW l else 0, 0, 0, 0, if dayI x < dayI (x + 4294967296 * k + 4294967296) then 0 else l, n + k + 1⟩ := by
        unfold lepS; simp only; rw [ex]; congr 1; push_cast; omega
      rw [e1, e2]
      unfold secS
      rw [eo]
      simp only [Int.add_zero]
      by_cases h2 : dayI x < dayI (x + 4294967296 * k + 4294967296)
      · rw [if_pos (show dayI (x + 4294967296 * k) < _ by omega), if_pos h2, if_pos h2, lpE_W]
      · rw [if_neg (show ¬ dayI (x + 4294967296 * k) < _ by omega), if_neg h2, if_neg h2]
theorem at_since (x d : Int) (h0 : -4611686018427387904 ≤ d) (h1 : d ≤ 4611686018427387904) : sn (atI (x + d)) (atI x) = d := by
  unfold sn Fx.cl atI; omega
end Go.Proofs.Ytdmaaigchfgmdaa
