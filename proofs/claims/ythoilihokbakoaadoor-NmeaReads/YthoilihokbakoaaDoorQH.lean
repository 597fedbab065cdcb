/- What fraction and timeOfDay of package nmea return. -/
import Derived.Test.YthoilihokbakoaaDoorQG
namespace Go.Proofs.YthoilihokbakoaaDoor
open Go Go.RowKit
theorem pow6 (k : Nat) (h : k ≤ 6) : (1 : Int) ≤ 10 ^ k ∧ (10 : Int) ^ k ≤ 1000000 := by
  have h2 : k = 0 ∨ k = 1 ∨ k = 2 ∨ k = 3 ∨ k = 4 ∨ k = 5 ∨ k = 6 := by omega
  rcases h2 with rfl | rfl | rfl | rfl | rfl | rfl | rfl <;> decide
set_option maxHeartbeats 1000000 in
theorem fraction_any (s : ByteArray) (w : World) (hs : s.size ≤ 1000000) : Calls Tryd.prog 56 #[.string s] w fun e w' => e = .returned (.tuple #[.int .u32 (frV s.data.toList), .bool (frB s.data.toList)]) ∧ w' = w := by
  have hl : s.data.toList.length = s.size := by simp
  have hsi : (s.size : Int) ≤ 1000000 := by omega
  by_cases h1 : s.size < 1
  · have h1i : (s.size : Int) < 1 := by omega
    have HR : Hid (frB s.data.toList = false) := by show _ = _; unfold frB; rw [hl, decide_eq_false (by omega)]; rfl
    clear hl h1
    go_enter Tryd.func56, Tryd.ntmps56
    go_wp2
    go_ret2
    exact ⟨ret_fb (by unfold frV; rw [HR.out]; rfl) HR.out.symm, rfl⟩
  · have h1i : 1 ≤ (s.size : Int) := by omega
    by_cases h2 : 6 < s.size
    · have h2i : 6 < (s.size : Int) := by omega
      have HR : Hid (frB s.data.toList = false) := by show _ = _; unfold frB; rw [hl, decide_eq_false (by omega)]; rfl
      clear hl h1 h2
      go_enter Tryd.func56, Tryd.ntmps56
      go_wp2
      go_ret2
      exact ⟨ret_fb (by unfold frV; rw [HR.out]; rfl) HR.out.symm, rfl⟩
    · have h2i : (s.size : Int) ≤ 6 := by omega
      have HNB : Hid (Calls Tryd.prog 47 #[.string s, .int .i64 (s.size : Int)] w fun e w' => e = .returned (.tuple #[.int .i64 (nuV s.data.toList (s.size : Int)), .bool (nuB s.data.toList (s.size : Int))]) ∧ w' = w) := number_any s _ w hs (by omega)
      have hfe : nuB s.data.toList (s.size : Int) = frB s.data.toList := by
        unfold nuB frB
        rw [hl, decide_eq_true (p := 1 ≤ s.size ∧ s.size ≤ 6) (by omega)]
        simp
      have hn0 := nu_bd s.data.toList (s.size : Int) (by omega)
      have hn1 : nuV s.data.toList (s.size : Int) < 1000000 := by
        unfold nuV
        split
        · rename_i h
          have h3 := vl_bd _ (nuB_len h).2
          rw [hl] at h3
          have := (pow6 s.size (by omega)).2
          omega
        · omega
      have HV : Hid (nuV s.data.toList (s.size : Int) * 4294967296 / 10 ^ s.size = frV s.data.toList) := by
        show _ = _
        unfold nuV frV
        rw [hfe, hl]
        split
        · rfl
        · simp
      obtain ⟨n, hn⟩ : ∃ n, n = nuV s.data.toList (s.size : Int) := ⟨_, rfl⟩
      rw [← hn] at hn0 hn1 HNB HV
      rw [hfe] at HNB
      obtain ⟨FB, hFB⟩ : ∃ FB, FB = frB s.data.toList := ⟨_, rfl⟩
      rw [← hFB] at HNB
      have HFB : Hid (FB = frB s.data.toList) := hFB
      have hfv := fr_bd s.data.toList
      obtain ⟨Q, hQ⟩ : ∃ Q, Q = frV s.data.toList := ⟨_, rfl⟩
      rw [← hQ] at hfv HV
      have HQ : Hid (Q = frV s.data.toList) := hQ
      obtain ⟨n0, -⟩ := hn0
      obtain ⟨q0, q1⟩ := hfv
      clear hl h1 h2 hs hfe hn hFB hQ
      go_enter Tryd.func56, Tryd.ntmps56
      go_wp2_with fail
      refine HNB.out.mono ?_
      rintro e w1 ⟨rfl, hw1⟩
      rw [hw1]
      clear hw1
      go_wp2
      go_loop [6, 24] (fun p i => ∃ (k : Nat) (P : Int), i = .int .i64 (k : Int) ∧ p = .int .u64 P ∧ k ≤ s.size ∧ Hid (P = 10 ^ k)) (fun _ i => s.size - (intOf i).toNat)
      case atStart => exact ⟨0, 1, rfl, rfl, Nat.zero_le _, rfl⟩
      case round =>
        obtain ⟨k, P, rfl, rfl, hk, H⟩ := hrel
        have hP := pow6 k (by omega)
        rw [← H.out] at hP
        obtain ⟨P0, P1⟩ := hP
        by_cases hlt : k < s.size
        · have hlti : (k : Int) < s.size := by omega
          have HN : Hid (P * 10 = 10 ^ (k + 1)) := by show _ = _; rw [Int.pow_succ, ← H.out]
          go_wp2
          refine ⟨⟨k + 1, _, by go_num, rfl, by omega, HN⟩, by simp [intOf]; omega⟩
        · have hge : ¬ (k : Int) < s.size := by omega
          have hq : n * 4294967296 / P = Q := by
            have := HV.out
            rw [H.out, show k = s.size by omega]
            exact this
          have hPne : ¬ P = 0 := by omega
          go_wp2
          go_ret2
          exact ⟨ret_fb HQ.out HFB.out, rfl⟩
end Go.Proofs.YthoilihokbakoaaDoor
