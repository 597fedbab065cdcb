/- The reference's digits and numbers. -/
import Derived.Test.YthoilihokbakoaaDoorQP
import Derived.Test.YthoilihokbakoaaDoorQF
namespace Go.Proofs.YthoilihokbakoaaDoor
open Go Go.RowKit
theorem rhex_x (x : Int) (w : World) (h0 : 0 ≤ x) (h1 : x < 256) : Calls Tryd.prog 18 #[.int .u8 x] w fun e w' => e = .returned (.int .i64 (if 48 ≤ x ∧ x ≤ 57 then x - 48 else if 65 ≤ x ∧ x ≤ 70 then x - 65 + 10 else -1)) ∧ w' = w := by
  rcases (by omega : x < 48 ∨ (48 ≤ x ∧ x ≤ 57) ∨ (57 < x ∧ x < 65) ∨ (65 ≤ x ∧ x ≤ 70) ∨ 70 < x) with hk | ⟨hk, hk2⟩ | ⟨hk, hk2⟩ | ⟨hk, hk2⟩ | hk
  · rw [if_neg (by omega), if_neg (by omega)]
    have e1 : (decide (48 ≤ x)) = false := by rw [decide_eq_false_iff_not]; omega
    have e2 : (decide (65 ≤ x)) = false := by rw [decide_eq_false_iff_not]; omega
    clear hk
    go_enter Tryd.func18, Tryd.ntmps18
    go_wp2
    go_ret
    exact ⟨rfl, rfl⟩
  · rw [if_pos (by omega)]
    go_enter Tryd.func18, Tryd.ntmps18
    go_wp2
    go_ret
    exact ⟨rfl, rfl⟩
  · rw [if_neg (by omega), if_neg (by omega)]
    have e1 : (decide (48 ≤ x)) = true := by rw [decide_eq_true_eq]; omega
    have e2 : (decide (65 ≤ x)) = false := by rw [decide_eq_false_iff_not]; omega
    have e3 : (decide (x ≤ 57)) = false := by rw [decide_eq_false_iff_not]; omega
    clear hk hk2
    go_enter Tryd.func18, Tryd.ntmps18
    go_wp2
    go_ret
    exact ⟨rfl, rfl⟩
  · rw [if_neg (by omega), if_pos (by omega)]
    have e1 : (decide (48 ≤ x)) = true := by rw [decide_eq_true_eq]; omega
    have e3 : (decide (x ≤ 57)) = false := by rw [decide_eq_false_iff_not]; omega
    go_enter Tryd.func18, Tryd.ntmps18
    go_wp2
    go_ret
    exact ⟨rfl, rfl⟩
  · rw [if_neg (by omega), if_neg (by omega)]
    have e1 : (decide (48 ≤ x)) = true := by rw [decide_eq_true_eq]; omega
    have e2 : (decide (65 ≤ x)) = true := by rw [decide_eq_true_eq]; omega
    have e3 : (decide (x ≤ 57)) = false := by rw [decide_eq_false_iff_not]; omega
    have e4 : (decide (x ≤ 70)) = false := by rw [decide_eq_false_iff_not]; omega
    clear hk
    go_enter Tryd.func18, Tryd.ntmps18
    go_wp2
    go_ret
    exact ⟨rfl, rfl⟩
theorem rhex_any (c : UInt8) (w : World) : Calls Tryd.prog 18 #[.int .u8 (c.toNat : Int)] w fun e w' => e = .returned (.int .i64 (hx c)) ∧ w' = w := by
  have hc := c.toNat_lt
  have h := rhex_x (c.toNat : Int) w (by omega) (by omega)
  have e : hx c = (if 48 ≤ (c.toNat : Int) ∧ (c.toNat : Int) ≤ 57 then (c.toNat : Int) - 48 else if 65 ≤ (c.toNat : Int) ∧ (c.toNat : Int) ≤ 70 then (c.toNat : Int) - 65 + 10 else -1) := by
    unfold hx
    repeat' split
    all_goals omega
  rw [e]
  exact h
def rnV (l : List UInt8) (K : Int) : Int := if nuB l K then vl l else -1
theorem rn_t {l : List UInt8} {K : Int} (h : nuB l K = true) : rnV l K = nuV l K := by unfold rnV nuV; rw [h]; rfl
theorem rn_f {l : List UInt8} {K : Int} (h : nuB l K = false) : rnV l K = -1 := by unfold rnV; rw [h]; rfl
theorem rn_bd (l : List UInt8) (K : Int) (hK : K ≤ 10) : -1 ≤ rnV l K ∧ rnV l K < 10000000000 := by
  cases h : nuB l K
  · rw [rn_f h]; decide
  · rw [rn_t h]; have := nu_bd l K hK; omega
theorem ret_n {a b : Int} (h : a = b) : Ending.returned (.int .i64 a) = .returned (.int .i64 b) := by rw [h]
set_option maxHeartbeats 1000000 in
theorem rnumber_any (s : ByteArray) (K : Int) (w : World) (hs : s.size ≤ 1000000) (hK : K ≤ 10) : Calls Tryd.prog 22 #[.string s, .int .i64 K] w fun e w' => e = .returned (.int .i64 (rnV s.data.toList K)) ∧ w' = w := by
  have hl : s.data.toList.length = s.size := by simp
  have hsi : (s.size : Int) ≤ 1000000 := by omega
  by_cases hne : (s.size : Int) = K
  · have hb : ((s.size : Int) != K) = false := by rw [hne]; simp
    have hs10 : (s.size : Int) ≤ 10 := by omega
    have HK : Hid ((s.size : Int) = K ∧ s.data.toList.length = s.size) := ⟨hne, hl⟩
    clear hne hl hK
    go_enter Tryd.func22, Tryd.ntmps22
    go_wp2
    go_loop [5, 6] (fun n i => ∃ (k : Nat) (V : Int), i = .int .i64 (k : Int) ∧ n = .int .i64 V ∧ k ≤ s.size ∧ Hid (V = vl (s.data.toList.take k) ∧ (s.data.toList.take k).all dgB = true)) (fun _ i => s.size - (intOf i).toNat)
    case atStart => exact ⟨0, 0, rfl, rfl, Nat.zero_le _, rfl, rfl⟩
    case round =>
      obtain ⟨k, V, rfl, rfl, hk, H⟩ := hrel
      have hV : 0 ≤ V ∧ V < 10000000000 := by
        have h1 := vl_bd _ H.out.2
        rw [← H.out.1] at h1
        exact ⟨h1.1, Int.lt_of_lt_of_le h1.2 (pow_le10 (by rw [List.length_take]; omega))⟩
      obtain ⟨V0, V1⟩ := hV
      by_cases hlt : k < s.size
      · have hlti : (k : Int) < s.size := by omega
        have HB := byte_q s k hlt
        have HT := take_q s k hlt
        by_cases h1 : (s[k].toNat : Int) < 48
        · have HR : Hid (s.data.toList.all dgB = false) := all_take_f HB (by unfold dgB; rw [decide_eq_false_iff_not]; omega)
          clear HB HT
          go_wp2
          go_ret
          exact ⟨ret_n (by unfold rnV nuB; rw [HR.out]; simp), rfl⟩
        · by_cases h2 : 57 < (s[k].toNat : Int)
          · have HR : Hid (s.data.toList.all dgB = false) := all_take_f HB (by unfold dgB; rw [decide_eq_false_iff_not]; omega)
            clear HB HT
            go_wp2
            go_ret
            exact ⟨ret_n (by unfold rnV nuB; rw [HR.out]; simp), rfl⟩
          · have HN : Hid (V * 10 + ((s[k].toNat : Int) - 48) = vl (s.data.toList.take (k + 1)) ∧ (s.data.toList.take (k + 1)).all dgB = true) := by
              rw [HT]
              refine ⟨by rw [vl_snoc, ← H.out.1], by rw [all_snoc, H.out.2, Bool.true_and]; unfold dgB; rw [decide_eq_true_eq]; omega⟩
            clear HB HT
            go_wp2
            refine ⟨⟨k + 1, _, by go_num, rfl, by omega, HN⟩, by simp [intOf]; omega⟩
      · have hge : ¬ (k : Int) < s.size := by omega
        have HE : Hid (V = vl s.data.toList ∧ s.data.toList.all dgB = true) := by
          have h1 := H.out
          rw [List.take_of_length_le (by simp; omega)] at h1
          exact h1
        go_wp2
        go_ret
        refine ⟨ret_n ?_, rfl⟩
        unfold rnV nuB
        rw [HE.out.2, HK.out.2, HK.out.1]
        simpa using HE.out.1
  · have hb : ((s.size : Int) != K) = true := by rw [bne_iff_ne]; exact hne
    have HR : Hid (nuB s.data.toList K = false) := by show _ = _; unfold nuB; rw [hl, decide_eq_false hne]; rfl
    clear hne hl
    go_enter Tryd.func22, Tryd.ntmps22
    go_wp2
    go_ret
    exact ⟨ret_n (rn_f HR.out).symm, rfl⟩
set_option maxHeartbeats 1000000 in
/-- some number comes, however many digits there are -/
theorem rnumber_wild (s : ByteArray) (K : Int) (w : World) (hs : s.size ≤ 1000000) : Calls Tryd.prog 22 #[.string s, .int .i64 K] w fun e w' => (∃ r, e = .returned (.int .i64 r)) ∧ w' = w := by
  have hsi : (s.size : Int) ≤ 1000000 := by omega
  by_cases hne : (s.size : Int) = K
  · have hb : ((s.size : Int) != K) = false := by rw [hne]; simp
    clear hne
    go_enter Tryd.func22, Tryd.ntmps22
    go_wp2
    go_loop [5, 6] (fun n i => ∃ (k : Nat) (V : Int), i = .int .i64 (k : Int) ∧ n = .int .i64 V ∧ k ≤ s.size) (fun _ i => s.size - (intOf i).toNat)
    case atStart => exact ⟨0, 0, rfl, rfl, Nat.zero_le _⟩
    case round =>
      obtain ⟨k, V, rfl, rfl, hk⟩ := hrel
      by_cases hlt : k < s.size
      · have hlti : (k : Int) < s.size := by omega
        by_cases h1 : (s[k].toNat : Int) < 48
        · go_wp2
          go_ret
          exact ⟨⟨_, rfl⟩, rfl⟩
        · by_cases h2 : 57 < (s[k].toNat : Int)
          · go_wp2
            go_ret
            exact ⟨⟨_, rfl⟩, rfl⟩
          · go_wp2
            refine ⟨⟨k + 1, _, by go_num, rfl, by omega⟩, by simp [intOf]; omega⟩
      · have hge : ¬ (k : Int) < s.size := by omega
        go_wp2
        go_ret
        exact ⟨⟨_, rfl⟩, rfl⟩
  · have hb : ((s.size : Int) != K) = true := by rw [bne_iff_ne]; exact hne
    clear hne
    go_enter Tryd.func22, Tryd.ntmps22
    go_wp2
    go_ret
    exact ⟨⟨_, rfl⟩, rfl⟩
end Go.Proofs.YthoilihokbakoaaDoor
