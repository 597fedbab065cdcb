/- KissCode of both. -/
import Derived.Test.YtmgphfdieekpdaaEA
import Derived.Laws.Bits128
import Derived.Laws.BitsAllLaws
namespace Go.Proofs.Ytmgphfdieekpdaa
open Go Go.RowKit
/-- the code of the first bytes -/
def kcP (s : ByteArray) : Nat → Nat
  | 0 => 0
  | k + 1 => kcP s k + (s.data.toList.getD k 0).toNat * 2 ^ (24 - 8 * k)
/-- letters all -/
def kcA (s : ByteArray) (k : Nat) : Prop := ∀ j, j < k → 65 ≤ (s.data.toList.getD j 0).toNat ∧ (s.data.toList.getD j 0).toNat ≤ 90
def kcF (s : ByteArray) : Int := if s.size ≤ 4 ∧ (∀ j, j < s.size → 65 ≤ (s.data.toList.getD j 0).toNat ∧ (s.data.toList.getD j 0).toNat ≤ 90) then (kcP s s.size : Int) else 0
theorem kcP_mod (s : ByteArray) : ∀ k, k ≤ 4 → kcP s k % 2 ^ (32 - 8 * k) = 0 ∧ kcP s k < 4294967296
  | 0, _ => ⟨by simp [kcP], by simp [kcP]⟩
  | 1, _ => by
    have hb := (s.data.toList.getD 0 0).toNat_lt
    simp only [kcP]; omega
  | 2, _ => by
    have hb := (s.data.toList.getD 0 0).toNat_lt
    have hb1 := (s.data.toList.getD 1 0).toNat_lt
    simp only [kcP]; omega
  | 3, _ => by
    have hb := (s.data.toList.getD 0 0).toNat_lt
    have hb1 := (s.data.toList.getD 1 0).toNat_lt
    have hb2 := (s.data.toList.getD 2 0).toNat_lt
    simp only [kcP]; omega
  | 4, _ => by
    have hb := (s.data.toList.getD 0 0).toNat_lt
    have hb1 := (s.data.toList.getD 1 0).toNat_lt
    have hb2 := (s.data.toList.getD 2 0).toNat_lt
    have hb3 := (s.data.toList.getD 3 0).toNat_lt
    simp only [kcP]; omega
  | k + 5, h => absurd h (by omega)
theorem u32_or_add (a b m : Nat) (ha : a % 2 ^ m = 0) (hb : b < 2 ^ m) (hs : a + b < 4294967296) : bits BinOp.or IntKind.u32 (a : Int) (b : Int) = ((a + b : Nat) : Int) := by
  have e : a = 2 ^ m * (a / 2 ^ m) := by have := Nat.div_add_mod a (2 ^ m); omega
  have e2 : a ||| b = a + b := by
    conv => lhs; rw [e]
    rw [← Nat.two_pow_add_eq_or_of_lt hb, ← e]
  show IntKind.u32.wrap ((BitVec.ofInt 32 (a : Int) ||| BitVec.ofInt 32 (b : Int)).toNat : Int) = _
  rw [BitVec.toNat_or, BitVec.ofInt_natCast, BitVec.ofInt_natCast, BitVec.toNat_ofNat, BitVec.toNat_ofNat, Nat.mod_eq_of_lt (by omega), Nat.mod_eq_of_lt (by omega), e2, IntKind.wrap_u32]
  omega
theorem byte_at (s : ByteArray) (k : Nat) (h : k < s.size) : (s[k]'h).toNat = (s.data.toList.getD k 0).toNat := by
  have h' : k < s.data.toList.length := by simpa using h
  rw [List.getD_eq_getElem?_getD, List.getElem?_eq_getElem h']; rfl
set_option maxHeartbeats 1000000 in
theorem kiss_any (s : ByteArray) (w : World) (hs : s.size ≤ maxLen) : Calls Try.prog 26 #[.string s] w fun e w' => e = .returned (.int .u32 (kcF s)) ∧ w' = w := by
  unfold maxLen at hs
  obtain ⟨R, hR⟩ : ∃ R, R = kcF s := ⟨_, rfl⟩
  rw [← hR]
  unfold kcF at hR
  by_cases h4 : s.size ≤ 4
  · have HR : Hid ((kcA s s.size → R = (kcP s s.size : Int)) ∧ (¬ kcA s s.size → R = 0)) := ⟨fun h => by rw [hR, if_pos ⟨h4, h⟩], fun h => by rw [hR, if_neg (fun x => h x.2)]⟩
    have h4' : (s.size : Int) ≤ 4 := by omega
    clear hR hs
    go_enter Try.func26, Try.ntmps26
    go_wp2
    go_loop [3, 10] (fun c i => ∃ (k : Nat) (C : Nat), (k : Int) ≤ s.size ∧ i = .int .i64 (k : Int) ∧ c = .int .u32 (C : Int) ∧ Hid (C = kcP s k ∧ kcA s k)) (fun _ i => s.size - (intOf i).toNat)
    case atStart => exact ⟨0, 0, by omega, rfl, rfl, rfl, fun j hj => absurd hj (by omega)⟩
    case round =>
      obtain ⟨k, C, hk, rfl, rfl, hC⟩ := hrel
      by_cases hlt : k < s.size
      · have HB : Hid ((s[k].toNat = (s.data.toList.getD k 0).toNat)) := byte_at s k hlt
        have hb := s[k].toNat_lt
        have hk3 : k ≤ 3 := by omega
        have HM := kcP_mod s k (by omega)
        have HO : Hid (bits BinOp.or IntKind.u32 (C : Int) ((s[k].toNat : Int) * 2 ^ (24 - 8 * k) % 4294967296) = ((kcP s (k + 1) : Nat) : Int)) := by
          have hbn : s[k].toNat < 256 := by omega
          have hp : 2 ^ (24 - 8 * k) * 256 = 2 ^ (32 - 8 * k) := by rw [show 32 - 8 * k = (24 - 8 * k) + 8 from by omega, Nat.pow_add]
          have h1 : s[k].toNat * 2 ^ (24 - 8 * k) < 2 ^ (32 - 8 * k) := by
            rw [← hp, Nat.mul_comm]; exact (Nat.mul_lt_mul_left (Nat.pow_pos (by decide))).2 hbn
          have h2 : 2 ^ (32 - 8 * k) ≤ 4294967296 := (by have := Nat.pow_le_pow_right (n := 2) (i := 32 - 8 * k) (j := 32) (by decide) (by omega); omega)
          have h3 : ((s[k].toNat : Int) * 2 ^ (24 - 8 * k) % 4294967296) = ((s[k].toNat * 2 ^ (24 - 8 * k) : Nat) : Int) := by
            have : ((s[k].toNat : Int) * 2 ^ (24 - 8 * k)) = ((s[k].toNat * 2 ^ (24 - 8 * k) : Nat) : Int) := by simp
            rw [this]; omega
          have h4 := (kcP_mod s (k + 1) (by omega)).2
          have h5 : kcP s (k + 1) = kcP s k + s[k].toNat * 2 ^ (24 - 8 * k) := by rw [kcP, ← HB.out]
          rw [h5] at h4
          show _ = _
          rw [h3, hC.out.1, u32_or_add _ _ (32 - 8 * k) HM.1 h1 h4, h5]
        by_cases hb1 : (s[k].toNat : Int) < 65
        · have HN : Hid (R = 0) := HR.out.2 (fun h => by have := (h k (by omega)).1; have := HB.out; omega)
          clear HM
          go_wp2
          go_ret
          exact ⟨ret_int' HN.out.symm, rfl⟩
        by_cases hb2 : (90 : Int) < s[k].toNat
        · have HN : Hid (R = 0) := HR.out.2 (fun h => by have := (h k (by omega)).2; have := HB.out; omega)
          clear HM
          go_wp2
          go_ret
          exact ⟨ret_int' HN.out.symm, rfl⟩
        clear HM
        go_wp2
        refine ⟨⟨k + 1, kcP s (k + 1), by omega, by go_num, by rw [HO.out], rfl, fun j hj => ?_⟩, by simp [intOf]; omega⟩
        by_cases hjk : j < k
        · exact hC.out.2 j hjk
        · have : j = k := by omega
          subst this
          have := HB.out
          omega
      · go_wp2
        go_ret
        have e : k = s.size := by omega
        have h1 := hC.out
        rw [e] at h1
        exact ⟨ret_int' (by rw [HR.out.1 h1.2, h1.1]), rfl⟩
  · have hR0 : R = 0 := by rw [hR, if_neg (fun x => h4 x.1)]
    subst hR0
    clear hR
    have h4' : (4 : Int) < s.size := by omega
    go_enter Try.func26, Try.ntmps26
    go_wp2
    go_ret
    exact ⟨rfl, rfl⟩
end Go.Proofs.Ytmgphfdieekpdaa
