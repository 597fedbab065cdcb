/- The reference: times, powers, Due, Heard, Kissed. -/
import Derived.Test.YtocaiimhbmhakaaJA
namespace Go.Proofs.Ytocaiimhbmhakaa
open Go Go.RowKit Go.Sort
/-- the reference's poll, its cells -/
def rpL (a : As) (s : Pl) : List Value := [.int .i64 a.kind, .int .u32 a.addr, .int .i64 a.key, .int .i64 s.least, .int .i64 s.most, .bool s.burst, .bool s.ib, .bool a.pref, .int .i64 a.ttl, .bool a.pulse, .int .i64 a.fudge, .int .i64 a.str, .int .i64 s.exp, .int .i64 s.reach, .int .i64 s.gone, .int .i64 s.next, .int .i64 s.left]
def Rp (w : World) (q : Nat) (a : As) (s : Pl) : Prop := Bk q w (rpL a s).toArray 54
theorem clock_any (n : Int) (w : World) : Calls Try.prog 22 #[.int .i64 n] w fun e w' => e = .returned (.int .i64 (ck n)) ∧ w' = w := by
  have mx := run_mx
  have mn := run_mn
  unfold ck
  go_enter Try.func22, Try.ntmps22
  go_wp2
  go_ret
  exact ⟨rfl, rfl⟩
theorem power_any (n : Int) (w : World) (h0 : 0 ≤ n) (h1 : n ≤ 10) : Calls Try.prog 23 #[.int .i64 n] w fun e w' => e = .returned (.int .i64 (pw n)) ∧ w' = w := by
  go_enter Try.func23, Try.ntmps23
  go_wp2
  go_loopw [3, 4] (fun pv iv wr => ∃ k : Nat, iv = .int .i64 k ∧ pv = .int .i64 (2 ^ k : Int) ∧ (k : Int) ≤ n ∧ wr = w) (fun _ i _ => n.toNat - (intOf i).toNat)
  case atStart => exact ⟨0, rfl, rfl, by omega, rfl⟩
  case round =>
    obtain ⟨k, rfl, rfl, hk, rfl⟩ := hrel
    by_cases hlt : (k : Int) < n
    · have b : (1 : Int) ≤ 2 ^ k ∧ (2 : Int) ^ k ≤ 512 := by
        have h2 : 2 ^ k ≤ 2 ^ 9 := Nat.pow_le_pow_right (by omega) (by omega)
        have h3 : 0 < 2 ^ k := Nat.pow_pos (by omega)
        have e : ((2 ^ k : Nat) : Int) = (2 : Int) ^ k := by simp
        omega
      have k1 : wrap64 ((2 : Int) ^ k * 2) = 2 ^ k * 2 := w64 _ (by omega) (by omega)
      have k2 : (2 : Int) ^ (k + 1) = 2 ^ k * 2 := Int.pow_succ ..
      have HE : Hid ((2 : Int) ^ (k + 1) = 2 ^ k * 2) := k2
      clear k2
      go_wp2
      go_roundw
      case rel => exact ⟨k + 1, by go_num, by rw [HE.out], by omega, by trivial⟩
      case measure => simp [intOf]; omega
    · have hkn : (k : Int) = n := by omega
      go_wp2
      go_ret
      refine ⟨ret_int' ?_, rfl⟩
      unfold pw
      rw [← hkn]
      simp
theorem rdue_any (q : Nat) (a : As) (s : Pl) (n : Int) (w : World) (h : Rp w q a s) : Calls Try.prog 30 #[.pointer (some ⟨q, 0, none⟩), .int .i64 n] w fun e w' => e = .returned (.bool (decide (s.next ≤ ck n))) ∧ ∃ m, w' = w.drewN m := by
  have c8 : w.cell? ⟨q, 15, none⟩ = some (.int .i64 s.next) := h.cell 15
  clear h
  go_enter Try.func30, Try.ntmps30
  go_wp2
  go_quiet ((go_at_call 22; exact Calls.quiet_of_same (clock_any _ _)))
  go_wp2
  go_ret
  exact ⟨rfl, _, rfl⟩
theorem rheard_any (q : Nat) (a : As) (s : Pl) (now : Int) (w : World) (h : Rp w q a s) (hs : 0 ≤ s.reach ∧ s.reach < 256) : Calls Try.prog 28 #[.pointer (some ⟨q, 0, none⟩), .int .i64 now] w fun e w' => e = .returned (.tuple #[]) ∧ Rp w' q a (heardS s) ∧ w.grownBy w' (some q) := by
  have HP : Hid (Rp w q a s) := h
  have c5 : w.cell? ⟨q, 13, none⟩ = some (.int .i64 s.reach) := h.cell 13
  have c6 : w.cell? ⟨q, 14, none⟩ = some (.int .i64 s.gone) := h.cell 14
  have f5 : w.frozen? ⟨q, 13, none⟩ = false := h.frozen 13
  have f6 : w.frozen? ⟨q, 14, none⟩ = false := h.frozen 14
  obtain ⟨r0, r1⟩ := hs
  have tm : s.reach.tmod 2 = s.reach % 2 := Int.tmod_eq_emod_of_nonneg r0
  have k1 : wrap64 (s.reach + 1) = s.reach + 1 := w64 _ (by omega) (by omega)
  clear h
  go_enter Try.func28, Try.ntmps28
  go_wp2
  all_goals
    rename_i hm
    go_end0
  · refine ⟨rfl, ?_, grownBy_trans (grownBy_set _ ⟨q, 13, none⟩ _) (grownBy_set _ ⟨q, 14, none⟩ _)⟩
    have e : s.reach + 1 = (heardS s).reach := by
      have : s.reach % 2 = 0 := by simpa using hm
      show _ = s.reach + (1 - s.reach % 2)
      omega
    rw [e]
    exact (HP.out.set (j := 13) _).set (j := 14) _
  · refine ⟨rfl, ?_, grownBy_set _ ⟨q, 14, none⟩ _⟩
    have e : (heardS s).reach = s.reach := by
      have : ¬ s.reach % 2 = 0 := by simpa using hm
      show s.reach + (1 - s.reach % 2) = _
      omega
    have h2 := HP.out.set (j := 14) (.int .i64 0)
    unfold Rp rpL
    rw [e]
    exact h2
end Go.Proofs.Ytocaiimhbmhakaa
