/- Auth: CheckKey, readKind walked. -/
import Derived.Test.YtocimfhagkcnlaaDoorAW
import Derived.Test.YtocimfhagkcnlaaDoorAA
namespace Go.Proofs.YtocimfhagkcnlaaDoor
open Go Go.RowKit Go.Sort
set_option linter.unusedVariables false
/-- which keys may be -/
def ckK (id kd : Int) (n : Nat) : Int := if id < 1 ∨ 65535 < id then 40 else if (kd = 1 ∧ 1 ≤ n ∧ n ≤ 32) ∨ (kd = 2 ∧ n = 16) then 0 else 40
set_option maxRecDepth 20000 in
set_option maxHeartbeats 1000000 in
theorem checkKey_any (id kd : Int) (ao : Option Addr) (n cap : Nat) (w : World) : Calls Tryd.prog 19 #[.agg #[.int .i64 id, .int .i64 kd, .slice ao n cap]] w fun e w' => e = .returned (.int .i64 (ckK id kd n)) ∧ Below w.heap.size w w' := by
  obtain ⟨R, hR⟩ : ∃ R, ckK id kd n = R := ⟨_, rfl⟩
  have HR : Hid (ckK id kd n = R) := hR
  rw [hR]
  clear hR
  go_enter Tryd.func19, Tryd.ntmps19
  refine post_hid fun Q hQ => ?_
  by_cases h1 : id < 1
  · have HE : Hid (R = 40) := by show _ = _; rw [← HR.out]; unfold ckK; rw [if_pos (.inl h1)]
    go_wp2_with fail
    rw [hQ.out]
    go_ret
    exact ⟨by rw [HE.out]; rfl, (Below.refl _ _).alloc (Nat.le_refl _) _⟩
  by_cases h2 : 65535 < id
  · have HE : Hid (R = 40) := by show _ = _; rw [← HR.out]; unfold ckK; rw [if_pos (.inr h2)]
    go_wp2_with fail
    rw [hQ.out]
    go_ret
    exact ⟨by rw [HE.out]; rfl, (Below.refl _ _).alloc (Nat.le_refl _) _⟩
  have HE : Hid (R = if (kd = 1 ∧ 1 ≤ n ∧ n ≤ 32) ∨ (kd = 2 ∧ n = 16) then 0 else 40) := by show _ = _; rw [← HR.out]; unfold ckK; rw [if_neg (by omega)]
  by_cases k1 : kd = 1
  · subst k1
    by_cases n1 : 1 ≤ n
    · by_cases n2 : n ≤ 32
      · have HE2 : Hid (R = 0) := by show _ = _; rw [HE.out, if_pos (.inl ⟨rfl, n1, n2⟩)]
        have n1i : (1 : Int) ≤ n := by omega
        have n2i : (n : Int) ≤ 32 := by omega
        go_wp2_with fail
        rw [hQ.out]
        go_ret
        exact ⟨by rw [HE2.out]; rfl, (Below.refl _ _).alloc (Nat.le_refl _) _⟩
      · have HE2 : Hid (R = 40) := by show _ = _; rw [HE.out, if_neg (by omega)]
        have n2i : ¬ (n : Int) ≤ 32 := by omega
        go_wp2_with fail
        rw [hQ.out]
        go_ret
        exact ⟨by rw [HE2.out]; rfl, (Below.refl _ _).alloc (Nat.le_refl _) _⟩
    · have hn0 : n = 0 := by omega
      subst hn0
      have HE2 : Hid (R = 40) := by show _ = _; rw [HE.out, if_neg (by omega)]
      go_wp2_with fail
      rw [hQ.out]
      go_ret
      exact ⟨by rw [HE2.out]; rfl, (Below.refl _ _).alloc (Nat.le_refl _) _⟩
  · by_cases k2 : kd = 2
    · subst k2
      by_cases n1 : n = 16
      · subst n1
        have HE2 : Hid (R = 0) := by show _ = _; rw [HE.out, if_pos (.inr ⟨rfl, rfl⟩)]
        go_wp2_with fail
        rw [hQ.out]
        go_ret
        exact ⟨by rw [HE2.out]; rfl, (Below.refl _ _).alloc (Nat.le_refl _) _⟩
      · have HE2 : Hid (R = 40) := by show _ = _; rw [HE.out, if_neg (by omega)]
        have n1i : ¬ (n : Int) = 16 := by omega
        have n1b : ((n : Int) == 16) = false := by simpa using n1i
        clear n1i
        go_wp2_with fail
        rw [hQ.out]
        go_ret
        exact ⟨by rw [HE2.out]; rfl, (Below.refl _ _).alloc (Nat.le_refl _) _⟩
    · have HE2 : Hid (R = 40) := by show _ = _; rw [HE.out, if_neg (by omega)]
      go_wp2_with fail
      rw [hQ.out]
      go_ret
      exact ⟨by rw [HE2.out]; rfl, (Below.refl _ _).alloc (Nat.le_refl _) _⟩
end Go.Proofs.YtocimfhagkcnlaaDoor
