/- What mayTake of a line and strings.TrimSuffix return. -/
import Derived.Test.YthoilihokbakoaaNB
import Derived.BigQuiet
namespace Go.Proofs.Ythoilihokbakoaa
open Go Go.RowKit
theorem ret_bool'' {a b : Bool} (h : a = b) : Ending.returned (.bool a) = .returned (.bool b) := by rw [h]
theorem last_at {cur : List UInt8} (h : 0 < cur.length) : cur.getLast? = some (cur[cur.length - 1]'(by omega)) := by
  rw [List.getLast?_eq_getElem?, List.getElem?_eq_getElem (by omega)]
theorem u8_eq {a : UInt8} {n : Nat} (hn : n < 256) : a = UInt8.ofNat n ↔ a.toNat = n := by
  constructor
  · intro h; rw [h]; simp; omega
  · intro h; rw [← h]; simp
theorem last_cr {cur : List UInt8} (h : 0 < cur.length) : (cur.getLast? = some 13) ↔ ((cur[cur.length - 1]'(by omega)).toNat = 13) := by
  rw [last_at h, Option.some.injEq]
  exact u8_eq (n := 13) (by decide)
set_option maxHeartbeats 1000000 in
theorem mayTake_any (q : Nat) (wi : Bool) (cur : List UInt8) (n : Nat) (c : UInt8) (w : World) (hL : Li w q wi cur n) :
    Calls Try.prog 14 #[.pointer (some ⟨q, 0, none⟩), .int .u8 (c.toNat : Int)] w fun e w' => e = .returned (.bool (mtB cur c)) ∧ ∃ m, w' = w.drewN m := by
  have hct := hL.ct
  have hle := hL.le
  by_cases h82 : cur.length = 82
  · have HR : Hid (mtB cur c = false) := by show _ = _; unfold mtB; simp [h82]
    rw [h82] at hct
    clear hL hle h82
    go_enter Try.func14, Try.ntmps14
    go_wp2_with fail
    go_quiet (fail)
    go_wp2
    go_ret
    exact ⟨ret_bool'' HR.out.symm, _, rfl⟩
  · obtain ⟨L, hLn⟩ : ∃ L : Int, L = (cur.length : Int) := ⟨_, rfl⟩
    have hLl : L < 82 := by omega
    have hL82 : (L == 82) = false := by rw [beq_eq_false_iff_ne]; omega
    rw [← hLn] at hct
    by_cases h0 : cur.length = 0
    · have HR : Hid (mtB cur c = (decide (c.toNat = 13) || decide (32 ≤ c.toNat ∧ c.toNat ≤ 126))) := by
        have : cur = [] := List.length_eq_zero_iff.1 h0
        show _ = _; unfold mtB; rw [this]; simp
      have hz : L = 0 := by omega
      subst hz
      clear hL hle h82 hLn h0
      go_enter Try.func14, Try.ntmps14
      go_wp2_with fail
      go_quiet (fail)
      go_wp2
      all_goals
        go_ret
        exact ⟨ret_bool'' (by rw [HR.out, Bool.eq_iff_iff]; simp at *; omega), _, rfl⟩
    · have hlast := hL.at' (cur.length - 1) (by omega)
      have h0i : (0 : Int) < L := by omega
      obtain ⟨k, hk⟩ : ∃ k : Nat, k = cur.length - 1 := ⟨_, rfl⟩
      have hwr : IntKind.i64.wrap (L - 1) = (k : Int) := by rw [IntKind.wrap_i64]; omega
      have h1a : (0 : Int) ≤ k := by omega
      have h1b : (k : Int) < 82 := by omega
      have h0d : decide ((0 : Int) < L) = true := by simpa using h0i
      obtain ⟨x, hx⟩ : ∃ x : Int, x = ((cur[cur.length - 1]'(by omega)).toNat : Int) := ⟨_, rfl⟩
      rw [← hx] at hlast
      have hlast2 : w.cell? ⟨q, 1 + k, none⟩ = some (.int .u8 x) := by rw [hk]; exact hlast
      by_cases h13 : x = 13
      · have HR : Hid (mtB cur c = false) := by
          have : cur.getLast? = some 13 := (last_cr (by omega)).2 (by omega)
          show _ = _; unfold mtB; simp [this]
        subst h13
        clear hL hle h82 hLn h0 hlast hx hk
        go_enter Try.func14, Try.ntmps14
        go_wp2_with fail
        go_quiet (fail)
        go_wp2
        go_ret
        exact ⟨ret_bool'' HR.out.symm, _, rfl⟩
      · have HR : Hid (mtB cur c = (decide (c.toNat = 13) || decide (32 ≤ c.toNat ∧ c.toNat ≤ 126))) := by
          have h1 : cur.getLast? ≠ some 13 := fun e => h13 (by rw [hx, (last_cr (by omega)).1 e]; rfl)
          have h2 : cur.length < 82 := by omega
          show _ = _; unfold mtB; simp [h1, h2]
        have hx13 : (x == 13) = false := by rw [beq_eq_false_iff_ne]; exact h13
        clear hL hle h82 hLn h0 hlast hx hk h13
        go_enter Try.func14, Try.ntmps14
        go_wp2_with fail
        go_quiet (fail)
        go_wp2
        all_goals
          go_ret
          exact ⟨ret_bool'' (by rw [HR.out, Bool.eq_iff_iff]; simp at *; omega), _, rfl⟩
end Go.Proofs.Ythoilihokbakoaa
