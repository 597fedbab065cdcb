/- What Sum and Check of package nmea return. -/
import Derived.Test.YthoilihokbakoaaDoorQA
import Derived.Test.YthoilihokbakoaaDoorRows
import Derived.Test.YthoilihokbakoaaDoorShelf
import Derived.WalkKit
import Derived.WalkSpells
import Derived.WalkLawsBesides
import Derived.WalkMore
import Derived.Handy
import Derived.Below
import Derived.Laws.BitsAllLaws
namespace Go.Proofs.YthoilihokbakoaaDoor
open Go Go.RowKit
theorem xs_take (s : ByteArray) (k : Nat) (h : k < s.size) : xs (s.data.toList.take (k + 1)) = xs (s.data.toList.take k) ^^^ s[k].toNat := by
  rw [List.take_succ_eq_append_getElem (by simpa using h), xs_snoc]; rfl
theorem ret_iq {a b : Int} (h : a = b) : Ending.returned (.int .i64 a) = .returned (.int .i64 b) := by rw [h]
set_option maxHeartbeats 1000000 in
theorem sum_any (s : ByteArray) (w : World) (hs : s.size ≤ 10000000) : Calls Tryd.prog 9 #[.string s] w fun e w' => e = .returned (.int .i64 (xs s.data.toList : Int)) ∧ w' = w := by
  have hsi : (s.size : Int) ≤ 10000000 := by omega
  go_enter Tryd.func9, Tryd.ntmps9
  go_wp2
  go_loop [3, 7] (fun n i => ∃ k X : Nat, i = .int .i64 (k : Int) ∧ n = .int .u8 (X : Int) ∧ k ≤ s.size ∧ Hid (X = xs (s.data.toList.take k))) (fun _ i => s.size - (intOf i).toNat)
  case atStart => exact ⟨0, 0, rfl, rfl, Nat.zero_le _, rfl⟩
  case round =>
    obtain ⟨k, X, rfl, rfl, hk, H⟩ := hrel
    have hX : X < 256 := by rw [H.out]; exact xs_lt _
    by_cases hlt : k < s.size
    · have hlti : (k : Int) < s.size := by omega
      have hb := u8_xor_nat X s[k].toNat hX s[k].toNat_lt
      obtain ⟨Y, hY⟩ : ∃ Y, Y = X ^^^ s[k].toNat := ⟨_, rfl⟩
      rw [← hY] at hb
      have HY : Hid (Y = xs (s.data.toList.take (k + 1))) := by show _ = _; rw [xs_take s k hlt, ← H.out, hY]
      clear hY hX
      go_wp2
      refine ⟨⟨k + 1, Y, by go_num, rfl, by omega, HY⟩, by simp [intOf]; omega⟩
    · have hge : ¬ (k : Int) < s.size := by omega
      have HE : Hid (X = xs s.data.toList) := by
        have h1 := H.out
        rw [List.take_of_length_le (by simp; omega)] at h1
        exact h1
      have hXi : (X : Int) < 256 := by omega
      clear hX
      go_wp2
      go_ret
      exact ⟨ret_iq (by rw [HE.out]), rfl⟩
set_option maxHeartbeats 400000 in
theorem hexIdx_any (c : UInt8) (w : World) : Calls Tryd.prog 15 #[.string ⟨#[48, 49, 50, 51, 52, 53, 54, 55, 56, 57, 65, 66, 67, 68, 69, 70]⟩, .int .u8 (c.toNat : Int)] w fun e w' => e = .returned (.int .i64 (hx c)) ∧ w' = w := by
  refine (Tryd.strings_IndexByte _ _ w).mono ?_
  rintro e w' ⟨rfl, rfl⟩
  refine ⟨ret_iq ?_, rfl⟩
  rw [u8_back]
  exact index_hx c
theorem getD_s (s : ByteArray) (k : Nat) (h : k < s.size) : s.data.toList.getD k 0 = s[k] := by
  rw [List.getD_eq_getElem?_getD, List.getElem?_eq_getElem (by simpa using h)]; rfl
theorem shl4 (a : Int) (h0 : 0 ≤ a) (h1 : a ≤ 15) : IntKind.i64.wrap (a * 16) = a * 16 := by rw [IntKind.wrap_i64]; omega
theorem i64_or_nat' (a b : Nat) (ha : a < 256) (hb : b < 256) : bits .or .i64 (a : Int) (b : Int) = ((a ||| b : Nat) : Int) := by
  have hx : a ||| b < 2 ^ 8 := Nat.or_lt_two_pow (by omega) (by omega)
  have o : ∀ a : Nat, a < 9223372036854775808 → (BitVec.ofInt 64 (a : Int)).toNat = a := fun a ha => by
    rw [BitVec.ofInt_natCast, BitVec.toNat_ofNat]; exact Nat.mod_eq_of_lt (by omega)
  show IntKind.i64.wrap ((BitVec.ofInt 64 (a : Int) ||| BitVec.ofInt 64 (b : Int)).toNat : Int) = _
  rw [BitVec.toNat_or, o a (by omega), o b (by omega), IntKind.wrap_i64]
  omega
theorem or_hex : ∀ a, a < 16 → ∀ b, b < 16 → (a * 16) ||| b = a * 16 + b := by decide
theorem or_hx (a b : Int) (a0 : 0 ≤ a) (a1 : a ≤ 15) (b0 : 0 ≤ b) (b1 : b ≤ 15) : bits .or .i64 (a * 16) b = a * 16 + b := by
  obtain ⟨A, rfl⟩ := Int.eq_ofNat_of_zero_le a0
  obtain ⟨B, rfl⟩ := Int.eq_ofNat_of_zero_le b0
  have h := i64_or_nat' (A * 16) B (by omega) (by omega)
  rw [or_hex A (by omega) B (by omega)] at h
  simpa using h
/-- a text's last three bytes -/
theorem tail_s (s : ByteArray) (h : 3 ≤ s.size) : ∃ c0 c1 c2 : UInt8, (s[s.size - 3]'(by omega)) = c0 ∧ (s[s.size - 3 + 1]'(by omega)) = c1 ∧ (s[s.size - 3 + 2]'(by omega)) = c2 ∧ s.data.toList = (s.extract 0 (s.size - 3)).data.toList ++ [c0, c1, c2] ∧ ckE s.data.toList = (if c0.toNat ≠ 42 then 21 else if hx c1 < 0 then 21 else if hx c2 < 0 then 21 else if hx c1 * 16 + hx c2 ≠ (xs (s.extract 0 (s.size - 3)).data.toList : Int) then 41 else 0) := by
  have hl : s.data.toList.length = s.size := by simp
  have e : s.data.toList = (s.extract 0 (s.size - 3)).data.toList ++ [s[s.size - 3]'(by omega), s[s.size - 3 + 1]'(by omega), s[s.size - 3 + 2]'(by omega)] := by
    rw [extract_tx, tx_data, List.drop_zero, Nat.sub_zero]
    conv => lhs; rw [← List.take_append_drop (s.size - 3) s.data.toList]
    congr 1
    rw [drop_at s (s.size - 3) (by omega), drop_at s (s.size - 3 + 1) (by omega), drop_at s (s.size - 3 + 1 + 1) (by omega), drop_none s _ (by omega)]
  refine ⟨_, _, _, rfl, rfl, rfl, e, ?_⟩
  conv => lhs; rw [e]
  exact ckE_tail _ _ _ _
theorem ret_err {a b : Int} (h : a = b) : Ending.returned (.tuple #[.slice none 0 0, .int .i64 a]) = .returned (.tuple #[.slice none 0 0, .int .i64 b]) := by rw [h]
set_option maxHeartbeats 1000000 in
theorem check_err (s : ByteArray) (w : World) (hs : s.size ≤ 1000000) (he : ckE s.data.toList ≠ 0) : Calls Tryd.prog 5 #[.string s] w fun e w' => e = .returned (.tuple #[.slice none 0 0, .int .i64 (ckE s.data.toList)]) ∧ w' = w := by
  have hsi : (s.size : Int) ≤ 1000000 := by omega
  by_cases h3 : s.size < 3
  · have hlt : (s.size : Int) < 3 := by omega
    have HR : Hid (ckE s.data.toList = 21) := by
      have hl : s.data.toList.length = s.size := by simp
      show _ = _
      unfold ckE
      rw [if_pos (by omega)]
    clear he
    go_enter Tryd.func5, Tryd.ntmps5
    go_wp2
    go_ret2
    exact ⟨ret_err HR.out.symm, rfl⟩
  · have h3i : 3 ≤ (s.size : Int) := by omega
    obtain ⟨c0, c1, c2, e0, e1, e2, -, hck⟩ := tail_s s (by omega)
    obtain ⟨b, hb⟩ : ∃ b, b = s.extract 0 (s.size - 3) := ⟨_, rfl⟩
    rw [← hb] at hck
    have hbs : b.size ≤ 1000000 := by rw [hb, ByteArray.size_extract]; omega
    have HB := hb.symm
    by_cases h42 : (c0.toNat : Int) = 42
    · have hb42 : ((c0.toNat : Int) != 42) = false := by rw [h42]; rfl
      rw [if_neg (by omega)] at hck
      clear h42
      have d1 := hx_bd c1
      have d2 := hx_bd c2
      obtain ⟨H1, hH1⟩ : ∃ H1, H1 = hx c1 := ⟨_, rfl⟩
      obtain ⟨H2, hH2⟩ : ∃ H2, H2 = hx c2 := ⟨_, rfl⟩
      have I1 : Hid (∀ u, Calls Tryd.prog 15 #[.string ⟨#[48, 49, 50, 51, 52, 53, 54, 55, 56, 57, 65, 66, 67, 68, 69, 70]⟩, .int .u8 (c1.toNat : Int)] u fun e w' => e = .returned (.int .i64 H1) ∧ w' = u) := fun u => by rw [hH1]; exact hexIdx_any c1 u
      have I2 : Hid (∀ u, Calls Tryd.prog 15 #[.string ⟨#[48, 49, 50, 51, 52, 53, 54, 55, 56, 57, 65, 66, 67, 68, 69, 70]⟩, .int .u8 (c2.toNat : Int)] u fun e w' => e = .returned (.int .i64 H2) ∧ w' = u) := fun u => by rw [hH2]; exact hexIdx_any c2 u
      rw [← hH1, ← hH2] at hck
      rw [← hH1] at d1
      rw [← hH2] at d2
      have IS : Hid (∀ u, Calls Tryd.prog 9 #[.string b] u fun e w' => e = .returned (.int .i64 (xs b.data.toList : Int)) ∧ w' = u) := fun u => sum_any b u (by omega)
      have hxb := xs_lt b.data.toList
      obtain ⟨X, hX⟩ : ∃ X : Int, X = (xs b.data.toList : Int) := ⟨_, rfl⟩
      rw [← hX] at hck IS
      clear hH1 hH2 hb hxb hX
      have d10 := d1.1
      have d11 := d1.2
      have d20 := d2.1
      have d21 := d2.2
      clear d1 d2
      by_cases k1 : H1 < 0
      · rw [if_pos k1] at hck
        rw [hck]
        go_enter Tryd.func5, Tryd.ntmps5
        go_wp2_with fail
        refine (I1.out _).mono ?_
        rintro e w' ⟨rfl, hw⟩
        rw [hw]
        go_wp2_with fail
        refine (I2.out _).mono ?_
        rintro e w'' ⟨rfl, hw''⟩
        rw [hw'']
        go_wp2
        go_ret2
        exact ⟨rfl, rfl⟩
      · rw [if_neg k1] at hck
        by_cases k2 : H2 < 0
        · rw [if_pos k2] at hck
          rw [hck]
          go_enter Tryd.func5, Tryd.ntmps5
          go_wp2_with fail
          refine (I1.out _).mono ?_
          rintro e w' ⟨rfl, hw⟩
          rw [hw]
          go_wp2_with fail
          refine (I2.out _).mono ?_
          rintro e w'' ⟨rfl, hw''⟩
          rw [hw'']
          go_wp2
          go_ret2
          exact ⟨rfl, rfl⟩
        · rw [if_neg k2] at hck
          have k3 : H1 * 16 + H2 ≠ X := fun e => by rw [if_neg (by rw [e]; simp)] at hck; exact he hck
          rw [if_pos k3] at hck
          rw [hck]
          have o1 := shl4 H1 (by omega) d11
          have o2 := or_hx H1 H2 (by omega) d11 (by omega) d21
          have o3 : (H1 * 16 + H2 != X) = true := by rw [bne_iff_ne]; exact k3
          clear he hck k3
          go_enter Tryd.func5, Tryd.ntmps5
          go_wp2_with fail
          refine (I1.out _).mono ?_
          rintro e w' ⟨rfl, hw⟩
          rw [hw]
          go_wp2_with fail
          refine (I2.out _).mono ?_
          rintro e w'' ⟨rfl, hw''⟩
          rw [hw'']
          go_wp2_with fail
          refine (IS.out _).mono ?_
          rintro e w3 ⟨rfl, hw3⟩
          rw [hw3]
          go_wp2
          go_ret2
          exact ⟨rfl, rfl⟩
    · have hb42 : ((c0.toNat : Int) != 42) = true := by rw [bne_iff_ne]; exact h42
      rw [if_pos (by omega)] at hck
      rw [hck]
      clear h42 he hck hb HB
      go_enter Tryd.func5, Tryd.ntmps5
      go_wp2
      go_ret2
      exact ⟨rfl, rfl⟩
end Go.Proofs.YthoilihokbakoaaDoor
