/- Auth: bytes doubled, multiplied, spread (AES). -/
import Derived.Test.YtocimfhagkcnlaaDoorAA
import Derived.Laws.BitsAllLaws
namespace Go.Proofs.YtocimfhagkcnlaaDoor
open Go Go.RowKit Go.Sort
set_option linter.unusedVariables false
def U8 (x : Int) : Prop := 0 ≤ x ∧ x < 256
theorem xor8 {a b : Int} (ha : U8 a) (hb : U8 b) : U8 (bits .xor .u8 a b) := by
  rw [u8_xor a b ha.1 ha.2 hb.1 hb.2]
  have := Nat.xor_lt_two_pow (n := 8) (x := a.toNat) (y := b.toNat) (by have := ha.1; have := ha.2; omega) (by have := hb.1; have := hb.2; omega)
  exact ⟨Int.natCast_nonneg _, by omega⟩
theorem or8 {a b : Int} (ha : U8 a) (hb : U8 b) : U8 (bits .or .u8 a b) := by
  rw [u8_or a b ha.1 ha.2 hb.1 hb.2]
  have := Nat.or_lt_two_pow (n := 8) (x := a.toNat) (y := b.toNat) (by have := ha.1; have := ha.2; omega) (by have := hb.1; have := hb.2; omega)
  exact ⟨Int.natCast_nonneg _, by omega⟩
theorem mod8 (x : Int) : U8 (x % 256) := ⟨by omega, by omega⟩
/-- a byte doubled -/
def tw (a : Int) : Int := if bits .and .u8 a 128 = 0 then a * 2 % 256 else bits .xor .u8 (a * 2 % 256) 27
theorem tw8 {a : Int} (ha : U8 a) : U8 (tw a) := by
  unfold tw
  split
  · exact mod8 _
  · exact xor8 (mod8 _) ⟨by omega, by omega⟩
set_option maxHeartbeats 1000000 in
theorem twice_any (a : Int) (w : World) : Calls Tryd.prog 61 #[.int .u8 a] w fun e w' => e = .returned (.int .u8 (tw a)) ∧ w' = w := by
  obtain ⟨B, hB⟩ : ∃ B, bits .and .u8 a 128 = B := ⟨_, rfl⟩
  by_cases h : B = 0
  · have hb : (B != 0) = false := by rw [bne_eq_false_iff_eq]; exact h
    have HT : Hid (tw a = a * 2 % 256) := by show _ = _; unfold tw; rw [hB, if_pos h]
    clear h
    go_enter Tryd.func61, Tryd.ntmps61
    go_wp2
    go_ret
    exact ⟨by rw [HT.out]; rfl, rfl⟩
  · have hb : (B != 0) = true := by rw [bne_iff_ne]; exact h
    have HT : Hid (tw a = bits .xor .u8 (a * 2 % 256) 27) := by show _ = _; unfold tw; rw [hB, if_neg h]
    clear h
    go_enter Tryd.func61, Tryd.ntmps61
    go_wp2
    go_ret
    exact ⟨by rw [HT.out]; rfl, rfl⟩
/-- bytes multiplied, so many binary digits of the second one -/
def tmF : Nat → Int → Int → Int → Int
  | 0, _, _, p => p
  | n + 1, a, b, p => if b ≤ 0 then p else tmF n (tw a) (b / 2) (if bits .and .u8 b 1 = 1 then bits .xor .u8 p a else p)
def tms (a b : Int) : Int := tmF 8 a b 0
theorem tmF8 : ∀ (n : Nat) {a b p : Int}, U8 a → U8 p → U8 (tmF n a b p)
  | 0, a, b, p, _, hp => hp
  | n + 1, a, b, p, ha, hp => by
    rw [tmF]
    split
    · exact hp
    · refine tmF8 n (tw8 ha) ?_
      split
      · exact xor8 hp ha
      · exact hp
theorem tmF_end (n : Nat) (a b p : Int) (h : b ≤ 0) : tmF n a b p = p := by
  cases n with
  | zero => rfl
  | succ n => rw [tmF, if_pos h]
theorem tms8 {a b : Int} (ha : U8 a) : U8 (tms a b) := tmF8 8 ha ⟨by omega, by omega⟩
set_option maxHeartbeats 2000000 in
theorem times_any (a b : Int) (hb : U8 b) (w : World) : Calls Tryd.prog 77 #[.int .u8 a, .int .u8 b] w fun e w' => e = .returned (.int .u8 (tms a b)) ∧ w' = w := by
  obtain ⟨R, hR⟩ : ∃ R, tms a b = R := ⟨_, rfl⟩
  have HR : Hid (tmF 8 a b 0 = R) := hR
  rw [hR]
  obtain ⟨b0, b1⟩ := hb
  clear hR
  go_enter Tryd.func77, Tryd.ntmps77
  go_wp2_with fail
  go_loop [0, 1, 5] (fun av bv pv => ∃ (n : Nat) (A B P : Int), av = .int .u8 A ∧ bv = .int .u8 B ∧ pv = .int .u8 P ∧ 0 ≤ B ∧ B < 256 ∧ Hid (tmF n A B P = R ∧ B < 2 ^ n)) (fun _ b _ => (intOf b).toNat)
  case atStart => exact ⟨8, a, b, 0, rfl, rfl, rfl, b0, b1, HR.out, by simpa using b1⟩
  case round =>
    obtain ⟨n, A, B, P, rfl, rfl, rfl, B0, B1, hK⟩ := hrel
    by_cases hlt : 0 < B
    · obtain ⟨m, rfl⟩ : ∃ m, n = m + 1 := by
        cases n with
        | zero => have := hK.out.2; simp at this; omega
        | succ m => exact ⟨m, rfl⟩
      obtain ⟨C, hC⟩ : ∃ C, bits .and .u8 B 1 = C := ⟨_, rfl⟩
      have HT : Hid (∀ u, Calls Tryd.prog 61 #[.int .u8 A] u fun e w' => e = .returned (.int .u8 (tw A)) ∧ w' = u) := fun u => twice_any A u
      obtain ⟨A2, hA2⟩ : ∃ x, tw A = x := ⟨_, rfl⟩
      rw [hA2] at HT
      obtain ⟨B2, hB2⟩ : ∃ x : Int, x = B / 2 := ⟨_, rfl⟩
      have HP2 : B2 < 2 ^ m := by
        have := hK.out.2
        rw [Int.pow_succ] at this
        omega
      by_cases hc : C = 1
      · have hcb : (C == 1) = true := by rw [beq_iff_eq]; exact hc
        have HN : Hid (tmF m A2 B2 (bits .xor .u8 P A) = R ∧ B2 < 2 ^ m) := by
          have := hK.out.1
          rw [tmF, if_neg (by omega), hC, if_pos hc, hA2, ← hB2] at this
          exact ⟨this, HP2⟩
        have HB2 : Hid (B2 = B / 2) := hB2
        clear hK hA2 hc HP2 hB2
        go_wp2_with (go_at_call 61; refine (HT.out _).mono ?_; rintro e' w9 ⟨rfl, hw9⟩; rw [hw9]; clear hw9)
        refine ⟨⟨m, A2, _, _, rfl, rfl, rfl, by omega, by omega, by have := HN.out; rw [HB2.out] at this; exact this⟩, by simp [intOf]; omega⟩
      · have hcb : (C == 1) = false := by rw [beq_eq_false_iff_ne]; exact hc
        have HN : Hid (tmF m A2 B2 P = R ∧ B2 < 2 ^ m) := by
          have := hK.out.1
          rw [tmF, if_neg (by omega), hC, if_neg hc, hA2, ← hB2] at this
          exact ⟨this, HP2⟩
        have HB2 : Hid (B2 = B / 2) := hB2
        clear hK hA2 hc HP2 hB2
        go_wp2_with (go_at_call 61; refine (HT.out _).mono ?_; rintro e' w9 ⟨rfl, hw9⟩; rw [hw9]; clear hw9)
        refine ⟨⟨m, A2, _, _, rfl, rfl, rfl, by omega, by omega, by have := HN.out; rw [HB2.out] at this; exact this⟩, by simp [intOf]; omega⟩
    · have HE : Hid (P = R) := by have := hK.out.1; rw [tmF_end _ _ _ _ (by omega)] at this; exact this
      clear hK
      go_wp2_with fail
      go_ret
      exact ⟨by rw [HE.out]; rfl, rfl⟩
/-- a byte turned to the left -/
def rl8 (x : Int) (n : Nat) : Int := bits .or .u8 (x * 2 ^ n % 256) (x / 2 ^ (8 - n))
theorem and7 (n : Nat) (h1 : n ≤ 4) : bits .and .u64 (IntKind.u64.wrap (n : Int)) 7 = n := by
  have h : ∀ m : Fin 5, bits .and .u64 (IntKind.u64.wrap (m.val : Int)) 7 = m.val := by decide +kernel
  exact h ⟨n, by omega⟩
set_option maxHeartbeats 1000000 in
theorem rotl8_any (x : Int) (n : Nat) (N : Int) (h1 : n ≤ 4) (hN : (n : Int) = N) (w : World) : Calls Tryd.prog 82 #[.int .u8 x, .int .i64 N] w fun e w' => e = .returned (.int .u8 (rl8 x n)) ∧ w' = w := by
  obtain ⟨M, hM⟩ : ∃ M : Int, M = 8 - N := ⟨_, rfl⟩
  have e1 : bits .and .u64 (IntKind.u64.wrap N) 7 = N := by rw [← hN, and7 n h1]
  have e0 : IntKind.u64.wrap N = N := by rw [IntKind.wrap_u64]; omega
  rw [e0] at e1
  have e2 : IntKind.u64.wrap (8 - N) = M := by rw [IntKind.wrap_u64, hM]; omega
  have n0 : 0 ≤ N := by omega
  have n1 : N < 8 := by omega
  have m0 : 0 ≤ M := by omega
  have m1 : M < 9 := by omega
  have HS : Hid (N.toNat = n ∧ M.toNat = 8 - n) := ⟨by omega, by omega⟩
  clear hM hN h1
  go_enter Tryd.func82, Tryd.ntmps82
  go_wp2
  go_ret
  exact ⟨by unfold rl8; rw [← HS.out.2, ← HS.out.1]; rfl, rfl⟩
/-- a byte's substitute, out of its inverse -/
def spr (b : Int) : Int := bits .xor .u8 (bits .xor .u8 (bits .xor .u8 (bits .xor .u8 (bits .xor .u8 b 99) (rl8 b 1)) (rl8 b 2)) (rl8 b 3)) (rl8 b 4)
def spk (b : Int) : Nat → Int
  | 0 => bits .xor .u8 b 99
  | n + 1 => bits .xor .u8 (spk b n) (rl8 b (n + 1))
theorem rl88 {x : Int} (hx : U8 x) (n : Nat) (hn : n ≤ 8) : U8 (rl8 x n) := by
  have h0 : 0 ≤ x / 2 ^ (8 - n) := Int.ediv_nonneg hx.1 (Int.pow_nonneg (by omega))
  have h1 : x / 2 ^ (8 - n) ≤ x := Int.ediv_le_self _ hx.1
  exact or8 (mod8 _) ⟨h0, by have := hx.2; omega⟩
theorem spr8 {b : Int} (hb : U8 b) : U8 (spr b) := xor8 (xor8 (xor8 (xor8 (xor8 hb ⟨by omega, by omega⟩) (rl88 hb 1 (by omega))) (rl88 hb 2 (by omega))) (rl88 hb 3 (by omega))) (rl88 hb 4 (by omega))
set_option maxHeartbeats 2000000 in
theorem spread_any (b : Int) (w : World) : Calls Tryd.prog 76 #[.int .u8 b] w fun e w' => e = .returned (.int .u8 (spr b)) ∧ w' = w := by
  go_enter Tryd.func76, Tryd.ntmps76
  go_wp2_with fail
  go_loop [3, 4] (fun sv pv => ∃ (n : Nat) (P : Int), sv = .int .u8 (spk b n) ∧ pv = .int .i64 P ∧ 1 ≤ P ∧ P ≤ 5 ∧ Hid (P = (n : Int) + 1)) (fun _ p => (5 - intOf p).toNat)
  case atStart => exact ⟨0, 1, rfl, rfl, by omega, by omega, rfl⟩
  case round =>
    obtain ⟨n, P, rfl, rfl, p0, p1, hK⟩ := hrel
    by_cases hlt : P ≤ 4
    · have HR : Hid (∀ u, Calls Tryd.prog 82 #[.int .u8 b, .int .i64 P] u fun e w' => e = .returned (.int .u8 (rl8 b (n + 1))) ∧ w' = u) := fun u => rotl8_any b (n + 1) P (by have := hK.out; omega) (by have := hK.out; omega) u
      go_wp2_with (go_at_call 82; refine (HR.out _).mono ?_; rintro e' w9 ⟨rfl, hw9⟩; rw [hw9]; clear hw9)
      exact ⟨⟨n + 1, P + 1, rfl, rfl, by omega, by omega, by have := hK.out; show _ = _; omega⟩, by simp [intOf]; omega⟩
    · have HE : Hid (n = 4) := by have := hK.out; show _ = _; omega
      clear hK
      go_wp2_with fail
      go_ret
      exact ⟨by rw [HE.out]; rfl, rfl⟩
end Go.Proofs.YtocimfhagkcnlaaDoor
