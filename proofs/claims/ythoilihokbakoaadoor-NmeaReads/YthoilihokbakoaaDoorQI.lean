/- What Check of package nmea returns of a sentence that is right; times of day. -/
import Derived.Test.YthoilihokbakoaaDoorQH
namespace Go.Proofs.YthoilihokbakoaaDoor
open Go Go.RowKit
/-- as many commas as fields, but one -/
theorem count_ct (b : UInt8) : ∀ (n : Nat) (l : List UInt8), l.length ≤ n → Lib.count l [b] + 1 = (ct b [] l).length := by
  intro n
  induction n with
  | zero =>
    intro l hl
    have : l = [] := List.length_eq_zero_iff.1 (by omega)
    subst this
    rfl
  | succ n ih =>
    intro l hl
    have h := ct_index b l []
    by_cases h1 : Lib.indexByte l b = -1
    · rw [h.1 h1, Lib.count_miss (by rw [Lib.index_one]; exact h1)]; rfl
    · have hg := Lib.indexByte_ge l b
      have hi : Lib.index l [b] = ((Lib.indexByte l b).toNat : Nat) := by rw [Lib.index_one]; omega
      rw [h.2 (Lib.indexByte l b).toNat (by omega), Lib.count_hit (by simp) hi]
      by_cases hl0 : l = []
      · subst hl0; simp [Lib.indexByte] at h1
      · have := ih (l.drop ((Lib.indexByte l b).toNat + 1)) (by rw [List.length_drop]; have := List.length_pos_iff.2 hl0; omega)
        simp only [List.length_cons, List.length_nil, Nat.zero_add] at this ⊢
        omega
/-- what Split makes of a text -/
theorem split_all (b : UInt8) (s : ByteArray) : Lib.countB s (tx [b]) + 1 = (ct b [] s.data.toList).length ∧ (Lib.splitB (tx [b]) 0 (Lib.countB s (tx [b])) s).map Value.string = SU (ct b [] s.data.toList) := by
  have hc : Lib.countB s (tx [b]) = Lib.count s.data.toList [b] := by unfold Lib.countB; rw [tx_data]
  have h1 := count_ct b _ s.data.toList (Nat.le_refl _)
  refine ⟨by rw [hc]; exact h1, ?_⟩
  have h2 := (split_ct b (Lib.countB s (tx [b])) s.data.toList).1 (by rw [hc]; omega)
  have h3 := Lib.splitB_data (tx [b]) 0 (Lib.countB s (tx [b])) s
  rw [tx_data, h2] at h3
  unfold SU
  rw [← h3, List.map_map]
  apply List.map_congr_left
  intro x _
  simp [tx_of]
set_option maxHeartbeats 400000 in
theorem sclone_q (s : ByteArray) (w : World) (h : s.size ≤ 1000000) :
    Calls Tryd.prog 17 #[.string s] w fun e w' => e = .returned (.string s) ∧ Below w.heap.size w w' := by
  go_enter Tryd.func17, Tryd.ntmps17
  go_wp2_with (go_at_call 33; refine (Tryd.stringslite_Clone _ _ (by omega)).mono ?_; rintro e w' ⟨rfl, hb⟩)
  go_ret
  exact ⟨rfl, hb⟩
/-- the fields that stand ahead of the star -/
def flds (l : List UInt8) : List (List UInt8) := ct 44 [] (l.take (l.length - 3))
set_option maxHeartbeats 1000000 in
theorem check_ok (s : ByteArray) (M : Int) (w : World) (hs : s.size ≤ 1000000) (he : ckE s.data.toList = 0) (hM : w.cell? ⟨0, 0, none⟩ = some (.int .i64 M)) :
    Calls Tryd.prog 5 #[.string s] w fun e w' => ∃ v, e = .returned (.tuple #[v, .int .i64 0]) ∧ Hid (OwT w' w.heap.size v (flds s.data.toList) ∧ Below w.heap.size w w') := by
  have hsi : (s.size : Int) ≤ 1000000 := by omega
  have h3 : 3 ≤ s.size := by
    rcases Nat.lt_or_ge s.size 3 with h | h
    · have hl : s.data.toList.length = s.size := by simp
      unfold ckE at he
      rw [if_pos (by omega)] at he
      cases he
    · exact h
  have h3i : 3 ≤ (s.size : Int) := by omega
  obtain ⟨c0, c1, c2, e0, e1, e2, -, hck⟩ := tail_s s (by omega)
  obtain ⟨b, hb⟩ : ∃ b, b = s.extract 0 (s.size - 3) := ⟨_, rfl⟩
  rw [← hb] at hck
  have hbs : b.size ≤ 1000000 := by rw [hb, ByteArray.size_extract]; omega
  have HFL : Hid (b.data.toList = s.data.toList.take (s.data.toList.length - 3)) := by
    show _ = _
    have hl : s.data.toList.length = s.size := by simp
    rw [hb, extract_tx, tx_data, List.drop_zero, Nat.sub_zero, hl]
  have HB := hb.symm
  have d1 := hx_bd c1
  have d2 := hx_bd c2
  rw [he] at hck
  have h42 : c0.toNat = 42 := by
    by_cases h : c0.toNat = 42
    · exact h
    · rw [if_pos h] at hck; cases hck
  rw [if_neg (by omega)] at hck
  have k1 : 0 ≤ hx c1 := by
    by_cases h : hx c1 < 0
    · rw [if_pos h] at hck; cases hck
    · omega
  rw [if_neg (by omega)] at hck
  have k2 : 0 ≤ hx c2 := by
    by_cases h : hx c2 < 0
    · rw [if_pos h] at hck; cases hck
    · omega
  rw [if_neg (by omega)] at hck
  have k3 : hx c1 * 16 + hx c2 = (xs b.data.toList : Int) := by
    by_cases h : hx c1 * 16 + hx c2 = (xs b.data.toList : Int)
    · exact h
    · rw [if_pos h] at hck; cases hck
  have hb42 : ((c0.toNat : Int) != 42) = false := by rw [h42]; rfl
  obtain ⟨H1, hH1⟩ : ∃ H1, H1 = hx c1 := ⟨_, rfl⟩
  obtain ⟨H2, hH2⟩ : ∃ H2, H2 = hx c2 := ⟨_, rfl⟩
  have I1 : Hid (∀ u, Calls Tryd.prog 15 #[.string ⟨#[48, 49, 50, 51, 52, 53, 54, 55, 56, 57, 65, 66, 67, 68, 69, 70]⟩, .int .u8 (c1.toNat : Int)] u fun e w' => e = .returned (.int .i64 H1) ∧ w' = u) := fun u => by rw [hH1]; exact hexIdx_any c1 u
  have I2 : Hid (∀ u, Calls Tryd.prog 15 #[.string ⟨#[48, 49, 50, 51, 52, 53, 54, 55, 56, 57, 65, 66, 67, 68, 69, 70]⟩, .int .u8 (c2.toNat : Int)] u fun e w' => e = .returned (.int .i64 H2) ∧ w' = u) := fun u => by rw [hH2]; exact hexIdx_any c2 u
  rw [← hH1] at d1 k1 k3
  rw [← hH2] at d2 k2 k3
  have IS : Hid (∀ u, Calls Tryd.prog 9 #[.string b] u fun e w' => e = .returned (.int .i64 (xs b.data.toList : Int)) ∧ w' = u) := fun u => sum_any b u (by omega)
  rw [← k3] at IS
  have o1 := shl4 H1 k1 d1.2
  have o2 := or_hx H1 H2 k1 d1.2 k2 d2.2
  have d11 := d1.2
  have d21 := d2.2
  have HMX : Hid (w.cell? ⟨0, 0, none⟩ = some (.int .i64 M)) := hM
  clear hb k3 hH1 hH2 h42 hck he d1 d2 hM
  go_enter Tryd.func5, Tryd.ntmps5
  go_wp2_with fail
  refine (I1.out _).mono ?_
  rintro e w' ⟨rfl, hw⟩
  rw [hw]
  clear hw
  go_wp2_with fail
  refine (I2.out _).mono ?_
  rintro e w'' ⟨rfl, hw''⟩
  rw [hw'']
  clear hw''
  go_wp2_with fail
  refine (IS.out _).mono ?_
  rintro e w3 ⟨rfl, hw3⟩
  rw [hw3]
  clear hw3
  go_wp2_with fail
  refine (sclone_q b _ hbs).mono ?_
  rintro e w4 ⟨rfl, hb4⟩
  have hlt : 0 < w.heap.size := World.block_lt_of_cell? _ _ HMX.out
  have hM4 : w4.cell? ⟨0, 0, none⟩ = some (.int .i64 M) := (hb4.cell (p := ⟨0, 0, none⟩) hlt).trans HMX.out
  obtain ⟨z1, z2⟩ := split_all 44 b
  have HSP : Hid (Calls Tryd.prog 16 #[.string b, .string ⟨#[44]⟩] w4 fun e w' => ∃ v, e = .returned v ∧ OwT w' w4.heap.size v (ct 44 [] b.data.toList) ∧ Below w4.heap.size w4 w') := by
    refine (Tryd.strings_Split b ⟨#[44]⟩ M w4 (by omega) hM4 (by decide)).mono ?_
    rintro e w5 ⟨rfl, rfl⟩
    refine ⟨_, rfl, ?_, (Below.refl _ _).alloc (Nat.le_refl _) _⟩
    have hz1 : Lib.countB b ⟨#[44]⟩ + 1 = (ct 44 [] b.data.toList).length := z1
    have hz2 : (Lib.splitB ⟨#[44]⟩ 0 (Lib.countB b ⟨#[44]⟩) b).map Value.string = SU (ct 44 [] b.data.toList) := z2
    rw [hz1, hz2]
    have hl2 : (ct 44 [] b.data.toList).length ≤ 1000001 := by
      have := ct_len 44 b.data.toList []
      have hb5 : b.data.toList.length = b.size := by simp
      omega
    exact ⟨by rw [SU_len]; omega, .inr ⟨w4.heap.size, _, _, rfl, Nat.le_refl _, heap_alloc_new w4 _, Nat.le_refl _, by unfold maxLen; omega, by simp [SU_len], by
      rw [show ∀ l : List (List UInt8), (SU l).toArray.toList = SU l from fun l => rfl, List.take_of_length_le (by rw [SU_len]; omega)]⟩⟩
  clear hM4 z1 z2 hlt
  go_wp2_with fail
  refine HSP.out.mono ?_
  rintro e w5 ⟨v5, rfl, ho5, hb5⟩
  have HF : Hid (OwT w5 w.heap.size v5 (flds s.data.toList) ∧ Below w.heap.size w w5) := by
    refine ⟨?_, hb4.trans (hb5.mono hb4.size)⟩
    unfold flds
    rw [← HFL.out]
    exact ho5.mono hb4.size
  clear ho5 hb5 hb4
  go_wp2_with fail
  go_ret2
  exact ⟨v5, rfl, HF⟩
end Go.Proofs.YthoilihokbakoaaDoor
