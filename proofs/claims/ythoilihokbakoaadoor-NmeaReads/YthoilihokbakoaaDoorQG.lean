/- What number, fraction and Check of package nmea return. -/
import Derived.Test.YthoilihokbakoaaDoorQB
import Derived.Test.YthoilihokbakoaaDoorCWa
namespace Go.Proofs.YthoilihokbakoaaDoor
open Go Go.RowKit
/-- a number of just so many digits -/
def nuB (l : List UInt8) (K : Int) : Bool := decide ((l.length : Int) = K) && l.all dgB
def nuV (l : List UInt8) (K : Int) : Int := if nuB l K then vl l else 0
theorem nuB_len {l : List UInt8} {K : Int} (h : nuB l K = true) : (l.length : Int) = K ∧ l.all dgB = true := by
  unfold nuB at h
  rw [Bool.and_eq_true, decide_eq_true_eq] at h
  exact h
theorem nu_bd (l : List UInt8) (K : Int) (hK : K ≤ 10) : 0 ≤ nuV l K ∧ nuV l K < 10000000000 := by
  unfold nuV
  split
  · rename_i h
    obtain ⟨h1, h2⟩ := nuB_len h
    have h3 := vl_bd l h2
    exact ⟨h3.1, Int.lt_of_lt_of_le h3.2 (pow_le10 (by omega))⟩
  · omega
theorem ret_nb {a b : Int} {p q : Bool} (h1 : a = b) (h2 : p = q) : Ending.returned (.tuple #[.int .i64 a, .bool p]) = .returned (.tuple #[.int .i64 b, .bool q]) := by rw [h1, h2]
theorem all_take_f {l : List UInt8} {k : Nat} {c : UInt8} (h : l[k]? = some c) (hc : dgB c = false) : l.all dgB = false := by
  obtain ⟨hk, rfl⟩ := List.getElem?_eq_some_iff.1 h
  rw [Bool.eq_false_iff]
  intro h2
  rw [List.all_eq_true] at h2
  rw [h2 _ (List.getElem_mem hk)] at hc
  cases hc
theorem byte_q (s : ByteArray) (k : Nat) (h : k < s.size) : s.data.toList[k]? = some s[k] := by
  rw [List.getElem?_eq_getElem (by simpa using h)]; rfl
theorem take_q (s : ByteArray) (k : Nat) (h : k < s.size) : s.data.toList.take (k + 1) = s.data.toList.take k ++ [s[k]] := by
  rw [List.take_succ_eq_append_getElem (by simpa using h)]; rfl
set_option maxHeartbeats 1000000 in
theorem number_any (s : ByteArray) (K : Int) (w : World) (hs : s.size ≤ 1000000) (hK : K ≤ 10) : Calls Tryd.prog 47 #[.string s, .int .i64 K] w fun e w' => e = .returned (.tuple #[.int .i64 (nuV s.data.toList K), .bool (nuB s.data.toList K)]) ∧ w' = w := by
  have hl : s.data.toList.length = s.size := by simp
  have hsi : (s.size : Int) ≤ 1000000 := by omega
  by_cases hne : (s.size : Int) = K
  · have hb : ((s.size : Int) != K) = false := by rw [hne]; simp
    have hs10 : (s.size : Int) ≤ 10 := by omega
    have HK : Hid ((s.size : Int) = K ∧ s.data.toList.length = s.size) := ⟨hne, hl⟩
    clear hne hl hK
    go_enter Tryd.func47, Tryd.ntmps47
    go_wp2
    go_loop [6, 14] (fun n i => ∃ (k : Nat) (V : Int), i = .int .i64 (k : Int) ∧ n = .int .i64 V ∧ k ≤ s.size ∧ Hid (V = vl (s.data.toList.take k) ∧ (s.data.toList.take k).all dgB = true)) (fun _ i => s.size - (intOf i).toNat)
    case atStart => exact ⟨0, 0, rfl, rfl, Nat.zero_le _, rfl, rfl⟩
    case round =>
      obtain ⟨k, V, rfl, rfl, hk, H⟩ := hrel
      have hV : 0 ≤ V ∧ V < 10000000000 := by
        have h1 := vl_bd _ H.out.2
        rw [← H.out.1] at h1
        exact ⟨h1.1, Int.lt_of_lt_of_le h1.2 (pow_le10 (by rw [List.length_take]; omega))⟩
      obtain ⟨V0, V1⟩ := hV
      by_cases hlt : k < s.size
      · have hlti : (k : Int) < s.size := by omega
        have HB := byte_q s k hlt
        have HT := take_q s k hlt
        by_cases h1 : (s[k].toNat : Int) < 48
        · have HR : Hid (s.data.toList.all dgB = false) := all_take_f HB (by unfold dgB; rw [decide_eq_false_iff_not]; omega)
          clear HB HT
          go_wp2
          go_ret2
          exact ⟨ret_nb (by unfold nuV nuB; rw [HR.out]; simp) (by unfold nuB; rw [HR.out]; simp), rfl⟩
        · by_cases h2 : 57 < (s[k].toNat : Int)
          · have HR : Hid (s.data.toList.all dgB = false) := all_take_f HB (by unfold dgB; rw [decide_eq_false_iff_not]; omega)
            clear HB HT
            go_wp2
            go_ret2
            exact ⟨ret_nb (by unfold nuV nuB; rw [HR.out]; simp) (by unfold nuB; rw [HR.out]; simp), rfl⟩
          · have HN : Hid (V * 10 + ((s[k].toNat : Int) - 48) = vl (s.data.toList.take (k + 1)) ∧ (s.data.toList.take (k + 1)).all dgB = true) := by
              rw [HT]
              refine ⟨by rw [vl_snoc, ← H.out.1], by rw [all_snoc, H.out.2, Bool.true_and]; unfold dgB; rw [decide_eq_true_eq]; omega⟩
            clear HB HT
            go_wp2
            refine ⟨⟨k + 1, _, by go_num, rfl, by omega, HN⟩, by simp [intOf]; omega⟩
      · have hge : ¬ (k : Int) < s.size := by omega
        have HE : Hid (V = vl s.data.toList ∧ s.data.toList.all dgB = true) := by
          have h1 := H.out
          rw [List.take_of_length_le (by simp; omega)] at h1
          exact h1
        go_wp2
        go_ret2
        refine ⟨ret_nb ?_ ?_, rfl⟩
        · unfold nuV nuB
          rw [HE.out.2, HK.out.2, HK.out.1]
          simpa using HE.out.1
        · unfold nuB
          rw [HE.out.2, HK.out.2, HK.out.1]
          simp
  · have hb : ((s.size : Int) != K) = true := by rw [bne_iff_ne]; exact hne
    have HR : Hid (nuB s.data.toList K = false) := by show _ = _; unfold nuB; rw [hl, decide_eq_false hne]; rfl
    clear hne hl
    go_enter Tryd.func47, Tryd.ntmps47
    go_wp2
    go_ret2
    exact ⟨ret_nb (by unfold nuV; rw [HR.out]; rfl) HR.out.symm, rfl⟩
/-- what stands behind a second's point -/
def frB (l : List UInt8) : Bool := decide (1 ≤ l.length ∧ l.length ≤ 6) && l.all dgB
def frV (l : List UInt8) : Int := if frB l then vl l * 4294967296 / 10 ^ l.length else 0
theorem ret_fb {a b : Int} {p q : Bool} (h1 : a = b) (h2 : p = q) : Ending.returned (.tuple #[.int .u32 a, .bool p]) = .returned (.tuple #[.int .u32 b, .bool q]) := by rw [h1, h2]
theorem fr_bd (l : List UInt8) : 0 ≤ frV l ∧ frV l < 4294967296 := by
  unfold frV
  split
  · rename_i h
    unfold frB at h
    rw [Bool.and_eq_true, decide_eq_true_eq] at h
    have h3 := vl_bd l h.2
    have hp : (0 : Int) < 10 ^ l.length := Int.lt_of_le_of_lt h3.1 h3.2
    refine ⟨Int.ediv_nonneg (by omega) (by omega), Int.ediv_lt_of_lt_mul hp ?_⟩
    have := Int.mul_lt_mul_of_pos_right h3.2 (show (0 : Int) < 4294967296 by decide)
    rw [Int.mul_comm 4294967296]
    exact this
  · omega
end Go.Proofs.YthoilihokbakoaaDoor
