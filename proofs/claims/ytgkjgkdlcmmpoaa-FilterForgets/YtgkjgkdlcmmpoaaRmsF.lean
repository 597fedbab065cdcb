/- What Root and RMS of package fixed return: the whole root of the number times 2^32; the whole root of the mean of the squares of the first 64 numbers. -/
import Derived.Test.YtgkjgkdlcmmpoaaRms
import Derived.WalkKit
import Derived.ProofKit
import Derived.WalkSpells
import Derived.WalkLawsBesides
namespace Sq
/-- the whole root -/
def srt : Nat → Nat
  | 0 => 0
  | N + 1 => if (srt N + 1) * (srt N + 1) ≤ N + 1 then srt N + 1 else srt N
theorem srt_spec (N : Nat) : srt N * srt N ≤ N ∧ N < (srt N + 1) * (srt N + 1) := by
  induction N with
  | zero => simp [srt]
  | succ N ih =>
    rw [srt]
    split
    · rename_i h
      refine ⟨h, ?_⟩
      have e : (srt N + 1 + 1) * (srt N + 1 + 1) = (srt N + 1) * (srt N + 1) + 2 * (srt N + 1) + 1 := by
        rw [Nat.add_mul, Nat.mul_add]; omega
      omega
    · omega
theorem root_one {N F G : Nat} (h1 : F * F ≤ N) (h2 : N < (F + 1) * (F + 1)) (g1 : G * G ≤ N) (g2 : N < (G + 1) * (G + 1)) : F = G := by
  rcases Nat.lt_trichotomy F G with h | h | h
  · have := Nat.mul_le_mul (show F + 1 ≤ G from h) (show F + 1 ≤ G from h); omega
  · exact h
  · have := Nat.mul_le_mul (show G + 1 ≤ F from h) (show G + 1 ≤ F from h); omega
theorem srt_eq {N F : Nat} (h1 : F * F ≤ N) (h2 : N < (F + 1) * (F + 1)) : F = srt N := root_one h1 h2 (srt_spec N).1 (srt_spec N).2
theorem srt_le {N B : Nat} (h : N ≤ B * B) : srt N ≤ B := by
  refine Nat.le_of_not_lt fun x => ?_
  have := Nat.mul_le_mul (show B + 1 ≤ srt N from x) (show B + 1 ≤ srt N from x)
  have h2 := (srt_spec N).1
  have e : (B + 1) * (B + 1) = B * B + 2 * B + 1 := by rw [Nat.add_mul, Nat.mul_add]; omega
  omega
def rms (zs : List Int) : Nat := srt (sum (zs.take 64) / (zs.take 64).length)
theorem mean_le (zs : List Int) : sum zs / zs.length ≤ 21267647932558653966460912964485513216 := by
  refine Nat.div_le_of_le_mul ?_
  exact sum_le zs
theorem rms_le (zs : List Int) : rms zs ≤ 4611686018427387904 := srt_le (mean_le _)
end Sq
namespace Go.Proofs.Ytgkjgkdlcmmpoaa
open Go.RowKit
theorem mid_words (M : Nat) : M / 18446744073709551616 * 18446744073709551616 + M % 18446744073709551616 = M := by omega
set_option maxRecDepth 20000 in
set_option maxHeartbeats 1000000 in
theorem RMS_any (ao : Option Addr) (zs : List Int) (cap : Nat) (w : World) (hc : (zs.length : Int) ≤ cap) (hm : (cap : Int) ≤ maxLen) (ra : Rs w ao zs) (da : okz zs) :
    Calls Try.prog 32 #[.slice ao zs.length cap] w fun e w' => e = .returned (.int .i64 ((Sq.rms zs : Nat) : Int)) ∧ Below w.heap.size w w' := by
  unfold maxLen at hm
  by_cases h0 : (zs.length : Int) = 0
  · have hz : zs = [] := by
      cases zs with
      | nil => rfl
      | cons a b => simp at h0; omega
    subst hz
    go_enter Try.func32, Try.ntmps32
    go_wp2
    go_ret
    exact ⟨rfl, Below.refl _ _⟩
  obtain ⟨R, hR⟩ : ∃ R : Int, R = ((Sq.rms zs : Nat) : Int) := ⟨_, rfl⟩
  rw [← hR]
  obtain ⟨ys, hys⟩ : ∃ ys, ys = zs.take 64 := ⟨_, rfl⟩
  have HY : Hid (Rs w ao ys ∧ okz ys ∧ R = ((Sq.srt (Sq.sum ys / ys.length) : Nat) : Int)) := by rw [hys]; exact ⟨ra.take 64, okz_take da 64, hR⟩
  clear ra da hR
  by_cases h1 : (64 : Int) < zs.length
  · have HL : Hid (ys.length = 64) := by show _ = _; rw [hys, List.length_take]; omega
    clear hys
    go_enter Try.func32, Try.ntmps32
    go_wp2_with fail
    have hms := meanSquare_any ao ys cap w (by rw [HL.out]; decide) (by rw [HL.out]; decide) HY.out.1 HY.out.2.1
    rw [HL.out] at hms
    refine hms.mono ?_
    clear hms
    rintro e w1 ⟨M, rfl, hM, k1⟩
    have hMb : M ≤ 21267647932558653966460912964485513216 := by rw [hM]; have h := Sq.mean_le ys; rw [HL.out] at h; exact h
    have HM : Hid (M = Sq.sum ys / ys.length ∧ M ≤ 21267647932558653966460912964485513216 ∧ Below w.heap.size w w1) := ⟨by rw [hM, HL.out], hMb, k1⟩
    obtain ⟨th, hth, th0⟩ := nat_int (M / 18446744073709551616)
    obtain ⟨tl, htl, tl0⟩ := nat_int (M % 18446744073709551616)
    rw [← hth, ← htl]
    have HW : Hid (th = ((M / 18446744073709551616 : Nat) : Int) ∧ tl = ((M % 18446744073709551616 : Nat) : Int)) := ⟨hth, htl⟩
    clear hth htl hMb hM k1
    go_wp2_with fail
    refine (root_below th tl _ _ HW.out.1 HW.out.2 _ (by have := HM.out.2.1; omega) (by omega)).mono ?_
    rintro e w2 ⟨F, rfl, f1, f2, f3, hg⟩
    rw [mid_words] at f1 f2
    have f4 : (F : Int) = R := by rw [HY.out.2.2, ← HM.out.1, Sq.srt_eq f1 f2]
    have f5 : F ≤ 4611686018427387904 := by rw [Sq.srt_eq f1 f2]; exact Sq.srt_le HM.out.2.1
    have f6 : R ≤ 4611686018427387904 := by omega
    have f7 : 0 ≤ R := by omega
    rw [f4]
    have hg' : Hid (Below w.heap.size w w2) := Below.then HM.out.2.2 hg
    clear f1 f2 f3 f4 f5 hg
    go_wp2
    go_ret
    exact ⟨rfl, hg'.out⟩
  · have HL : ys = zs := by rw [hys]; exact List.take_of_length_le (by omega)
    subst HL
    clear hys
    have HM0 : Hid (Sq.sum ys / ys.length ≤ 21267647932558653966460912964485513216) := Sq.mean_le ys
    go_enter Try.func32, Try.ntmps32
    go_wp2_with fail
    refine (meanSquare_any ao ys cap w (by omega) (by omega) HY.out.1 HY.out.2.1).mono ?_
    rintro e w1 ⟨M, rfl, hM, k1⟩
    have HM : Hid (M = Sq.sum ys / ys.length ∧ M ≤ 21267647932558653966460912964485513216 ∧ Below w.heap.size w w1) := ⟨hM, by rw [hM]; exact HM0.out, k1⟩
    obtain ⟨th, hth, th0⟩ := nat_int (M / 18446744073709551616)
    obtain ⟨tl, htl, tl0⟩ := nat_int (M % 18446744073709551616)
    rw [← hth, ← htl]
    have HW : Hid (th = ((M / 18446744073709551616 : Nat) : Int) ∧ tl = ((M % 18446744073709551616 : Nat) : Int)) := ⟨hth, htl⟩
    clear hth htl hM k1
    go_wp2_with fail
    refine (root_below th tl _ _ HW.out.1 HW.out.2 _ (by have := HM.out.2.1; omega) (by omega)).mono ?_
    rintro e w2 ⟨F, rfl, f1, f2, f3, hg⟩
    rw [mid_words] at f1 f2
    have f4 : (F : Int) = R := by rw [HY.out.2.2, ← HM.out.1, Sq.srt_eq f1 f2]
    have f5 : F ≤ 4611686018427387904 := by rw [Sq.srt_eq f1 f2]; exact Sq.srt_le HM.out.2.1
    have f6 : R ≤ 4611686018427387904 := by omega
    have f7 : 0 ≤ R := by omega
    rw [f4]
    have hg' : Hid (Below w.heap.size w w2) := Below.then HM.out.2.2 hg
    clear f1 f2 f3 f4 f5 hg
    go_wp2
    go_ret
    exact ⟨rfl, hg'.out⟩
end Go.Proofs.Ytgkjgkdlcmmpoaa
