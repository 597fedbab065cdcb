/- What the reference's Print returns. -/
import Derived.Test.YtifaneckfnjgiabStT
import Derived.Test.YtifaneckfnjgiabStG
import Derived.Test.YtifaneckfnjgiabStR
import Derived.WalkKit
import Derived.WalkSpells
import Derived.WalkLawsBesides
import Derived.Handy
import Derived.Below
import Derived.Deep.QuietTactic
import Derived.BigQuiet
namespace Go.Proofs.Ytifaneckfnjgiab
open Go.RowKit
theorem rdig_any (n k : Int) (w : World) (n0 : 0 ≤ n) (n1 : n ≤ 1000000000) (k0 : 0 ≤ k) (k1 : k ≤ 9) :
    Calls Try.prog 26 #[.int .i64 n, .int .i64 k] w fun e w' => e = .returned (.string ⟨(Tx.dgs n k.toNat).toArray⟩) ∧ w' = w := by
  obtain ⟨K, rfl⟩ := Int.eq_ofNat_of_zero_le k0
  exact rdigits_any n K w n0 n1 k1
theorem txt_cat (y m d h n s u : Int) : ((((((((((((⟨(Tx.dgs y 4).toArray⟩ : ByteArray) ++ ⟨#[45]⟩) ++ ⟨(Tx.dgs m 2).toArray⟩) ++ ⟨#[45]⟩) ++ ⟨(Tx.dgs d 2).toArray⟩) ++ ⟨#[32]⟩) ++ ⟨(Tx.dgs h 2).toArray⟩) ++ ⟨#[58]⟩) ++ ⟨(Tx.dgs n 2).toArray⟩) ++ ⟨#[58]⟩) ++ ⟨(Tx.dgs s 2).toArray⟩) ++ ⟨#[46]⟩) ++ ⟨(Tx.dgs u 6).toArray⟩ = ⟨(Tx.txt (nums y m d h n s u)).toArray⟩ := by
  simp only [Tx.ba_app]
  rfl
set_option maxHeartbeats 400000 in
theorem rprint_no (era t : Int) (w : World) (t0 : 0 ≤ t) (t1 : t < 18446744073709551616) (h : ds era t < 0 ∨ 66269577600 ≤ ds era t) :
    Calls Try.prog 13 #[.agg #[.int .i64 era, .int .u64 t]] w fun e w' => e = .returned noP ∧ Below w.heap.size w w' := by
  have H : Hid (ds era t < 0 ∨ 66269577600 ≤ ds era t) := h
  clear h
  go_enter Try.func13, Try.ntmps13
  go_wp2_with fail
  refine (rofDate_no era t _ t0 t1 H.out).mono ?_
  rintro e w1 ⟨rfl, hb⟩
  have hB : Hid (Below w.heap.size w w1) := by
    refine Below.trans ?_ (hb.mono (by simp))
    exact (by repeat' (first | with_reducible exact Below.refl _ _ | with_reducible refine Below.setCell ?_ (by first | (simp; done) | (simp; omega) | omega) _ | with_reducible refine below_drewN ?_ _ | with_reducible refine Below.drew ?_ | with_reducible refine Below.alloc ?_ (by first | (simp; done) | (simp; omega) | omega) _))
  have hz : w.heap.size < w1.heap.size := by have := hb.size; simp at this; omega
  clear hb
  unfold noC
  go_wp2
  go_ret2
  exact ⟨rfl, (by repeat' (first | with_reducible exact Below.refl _ _ | with_reducible exact hB.out | with_reducible refine Below.setCell ?_ (by first | (simp; done) | (simp; omega) | omega) _ | with_reducible refine below_drewN ?_ _ | with_reducible refine Below.drew ?_ | with_reducible refine Below.alloc ?_ (by first | (simp; done) | (simp; omega) | omega) _))⟩
set_option maxHeartbeats 4000000 in
theorem rprint_yes (era t : Int) (w : World) (t0 : 0 ≤ t) (t1 : t < 18446744073709551616) (h0 : 0 ≤ ds era t) (h1 : ds era t < 66269577600) :
    Calls Try.prog 13 #[.agg #[.int .i64 era, .int .u64 t]] w fun e w' => ∃ y m d h n s : Int, e = .returned (yesP (nums y m d h n s (t % 4294967296 * 1000000 / 4294967296))) ∧ Cal.Day y m d ∧ Cal.Time h n s ∧ Cal.sec y m d h n s = ds era t ∧ Below w.heap.size w w' := by
  obtain ⟨S, hS⟩ : ∃ S, S = ds era t := ⟨_, rfl⟩
  have HS : Hid (S = ds era t) := hS
  rw [← hS] at h0 h1 ⊢
  clear hS
  go_enter Try.func13, Try.ntmps13
  go_wp2_with fail
  refine (rofDate_yes era t _ t0 t1 (by rw [← HS.out]; exact h0) (by rw [← HS.out]; exact h1)).mono ?_
  rintro e w1 ⟨y, m, d, h, n, s, rfl, hd, ht, hs, hb⟩
  have hB : Hid (Below w.heap.size w w1) := by
    refine Below.trans ?_ (hb.mono (by simp))
    exact (by repeat' (first | with_reducible exact Below.refl _ _ | with_reducible refine Below.setCell ?_ (by first | (simp; done) | (simp; omega) | omega) _ | with_reducible refine below_drewN ?_ _ | with_reducible refine Below.drew ?_ | with_reducible refine Below.alloc ?_ (by first | (simp; done) | (simp; omega) | omega) _))
  have hz : w.heap.size < w1.heap.size := by have := hb.size; simp at this; omega
  have HD : Hid (Cal.Day y m d ∧ Cal.Time h n s ∧ Cal.sec y m d h n s = S) := ⟨hd, ht, by rw [hs, HS.out]⟩
  obtain ⟨f, hf⟩ : ∃ f, f = t % 4294967296 := ⟨_, rfl⟩
  rw [← hf]
  have f0 : 0 ≤ f := by omega
  have f1 : f < 4294967296 := by omega
  have HF : Hid (f = t % 4294967296) := hf
  obtain ⟨k1, k2, k3, k4, k5, k6⟩ := day_bd hd
  obtain ⟨l1, l2, l3, l4, l5, l6⟩ := ht
  have hlen := Tx.dgs_len
  clear hb hd hs hf
  unfold yesC
  go_wp2_with fail
  go_quiet ((go_at_call 26; exact Calls.quiet_of_same (rdig_any _ _ _ (by omega) (by omega) (by omega) (by omega))))
  rw [txt_cat]
  go_wp2
  go_ret2
  exact ⟨y, m, d, h, n, s, by rw [← HF.out]; rfl, HD.out.1, HD.out.2.1, HD.out.2.2, (by repeat' (first | with_reducible exact Below.refl _ _ | with_reducible exact hB.out | with_reducible refine Below.setCell ?_ (by first | (simp; done) | (simp; omega) | omega) _ | with_reducible refine below_drewN ?_ _ | with_reducible refine Below.drew ?_ | with_reducible refine Below.alloc ?_ (by first | (simp; done) | (simp; omega) | omega) _))⟩
end Go.Proofs.Ytifaneckfnjgiab
