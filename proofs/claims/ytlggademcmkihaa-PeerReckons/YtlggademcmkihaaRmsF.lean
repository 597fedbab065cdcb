/- What Root and RMS of package fixed return: the whole root of the number times 2^32; the whole root of the mean of the squares of the first 64 numbers. -/
import Derived.Test.YtlggademcmkihaaRms
import Derived.WalkKit
import Derived.ProofKit
import Derived.WalkSpells
import Derived.WalkLawsBesides
namespace Sq
/-- the whole root -/
def srt : Nat → Nat
  | 0 => 0
  | N + 1 => if (srt N + 1) * (srt N + 1) ≤ N + 1 then srt N + 1 else srt N
theorem srt_spec (N : Nat) : srt N * srt N ≤ N ∧ N < (srt N + 1) * (srt N + 1) := by
  induction N with
  | zero => simp [srt]
  | succ N ih =>
    rw [srt]
    split
    · rename_i h
      refine ⟨h, ?_⟩
      have e : (srt N + 1 + 1) * (srt N + 1 + 1) = (srt N + 1) * (srt N + 1) + 2 * (srt N + 1) + 1 := by
        rw [Nat.add_mul, Nat.mul_add]; omega
      omega
    · omega
theorem root_one {N F G : Nat} (h1 : F * F ≤ N) (h2 : N < (F + 1) * (F + 1)) (g1 : G * G ≤ N) (g2 : N < (G + 1) * (G + 1)) : F = G := by
  rcases Nat.lt_trichotomy F G with h | h | h
  · have := Nat.mul_le_mul (show F + 1 ≤ G from h) (show F + 1 ≤ G from h); omega
  · exact h
  · have := Nat.mul_le_mul (show G + 1 ≤ F from h) (show G + 1 ≤ F from h); omega
theorem srt_eq {N F : Nat} (h1 : F * F ≤ N) (h2 : N < (F + 1) * (F + 1)) : F = srt N := root_one h1 h2 (srt_spec N).1 (srt_spec N).2
theorem srt_le {N B : Nat} (h : N ≤ B * B) : srt N ≤ B := by
  refine Nat.le_of_not_lt fun x => ?_
  have := Nat.mul_le_mul (show B + 1 ≤ srt N from x) (show B + 1 ≤ srt N from x)
  have h2 := (srt_spec N).1
  have e : (B + 1) * (B + 1) = B * B + 2 * B + 1 := by rw [Nat.add_mul, Nat.mul_add]; omega
  omega
def rms (zs : List Int) : Nat := srt (sum (zs.take 64) / (zs.take 64).length)
theorem mean_le (zs : List Int) : sum zs / zs.length ≤ 21267647932558653966460912964485513216 := by
  refine Nat.div_le_of_le_mul ?_
  exact sum_le zs
theorem rms_le (zs : List Int) : rms zs ≤ 4611686018427387904 := srt_le (mean_le _)
end Sq
namespace Go.Proofs.Ytlggademcmkihaa
open Go.RowKit
theorem mid_words (M : Nat) : M / 18446744073709551616 * 18446744073709551616 + M % 18446744073709551616 = M := by omega
end Go.Proofs.Ytlggademcmkihaa
