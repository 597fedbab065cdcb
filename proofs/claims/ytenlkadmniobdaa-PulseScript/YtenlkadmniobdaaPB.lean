/- What mean of package pulse returns; spans in memory. -/
import Derived.Test.YtenlkadmniobdaaPA
import Derived.Test.YtenlkadmniobdaaBigK
import Derived.Test.YtenlkadmniobdaaPP
import Derived.Deep.QuietTactic
import Derived.BigQuiet
namespace Go.Proofs.Ytenlkadmniobdaa
open Go.RowKit
/-- a slice at an address reads as these spans -/
def Ra (w : World) (ad : Addr) (xs : List Int) : Prop := ∀ k, k < xs.length → w.cell? (ad.add k) = some (.int .i64 (xs.getD k 0))
theorem scale_pos (a n d : Int) (w : World) (ha0 : -9223372036854775808 ≤ a) (ha1 : a ≤ 9223372036854775807) (hb0 : -9223372036854775808 ≤ n) (hb1 : n ≤ 9223372036854775807) (hd0 : 0 < d) (hd1 : d ≤ 9223372036854775807) :
    Calls Try.prog 40 #[.int .i64 a, .int .i64 n, .int .i64 d] w fun e w' => e = .returned (.int .i64 (Fx.cl 4611686018427387904 (a * n / d))) ∧ ∃ n, w' = w.drewN n := by
  have h := scale_any a n d w ha0 ha1 hb0 hb1 hd1
  rw [if_neg (by omega)] at h
  exact h
set_option maxHeartbeats 400000 in
theorem mean_fn (ad : Addr) (xs : List Int) (cap : Nat) (w : World) (hl : 0 < xs.length) (hl' : xs.length ≤ 64) (hx : ∀ x ∈ xs, -4294967296 ≤ x ∧ x ≤ 4294967296) (hr : Ra w ad xs) :
    Calls Try.prog 29 #[.slice (some ad) xs.length cap] w fun e w' => e = .returned (.int .i64 (xs.sum / (xs.length : Int))) ∧ ∃ n, w' = w.drewN n := by
  have hb := Pu.mean_bd xs xs.length _ _ rfl hl hx
  go_enter Try.func29, Try.ntmps29
  go_wp2
  go_loop [3, 8] (fun s i => ∃ k : Nat, k ≤ xs.length ∧ i = .int .i64 k ∧ s = .int .i64 (xs.take k).sum) (fun _ i => xs.length - (intOf i).toNat)
  case atStart => exact ⟨0, Nat.zero_le _, rfl, rfl⟩
  case round =>
    obtain ⟨k, hk, rfl, rfl⟩ := hrel
    have hs := Pu.sum_bd (xs.take k) (fun x h => hx x (List.mem_of_mem_take h))
    have hsl : ((xs.take k).length : Int) ≤ 64 := by rw [List.length_take]; omega
    by_cases hlt : k < xs.length
    · have hc := hr k hlt
      have hm := hx _ (Pu.getD_mem xs k hlt)
      have hts := Pu.take_sum xs k hlt
      have HS : Hid ((xs.take (k + 1)).sum = (xs.take k).sum + xs.getD k 0) := hts
      clear hts
      generalize (xs.take k).sum = S at *
      generalize xs.getD k 0 = y at *
      go_wp2
      go_round
      case rel => exact ⟨k + 1, by omega, by go_num, by rw [HS.out]⟩
      case measure => simp [intOf]; omega
    · have hk' : k = xs.length := by omega
      subst hk'
      rw [List.take_length] at *
      generalize hS : xs.sum = S at *
      go_wp2_with (go_at_call 40; refine (scale_pos _ _ _ _ (by omega) (by omega) (by omega) (by omega) (by omega) (by omega)).mono ?_; rintro e w' ⟨rfl, n, rfl⟩)
      go_ret
      refine ⟨ret_i64 ?_, _, rfl⟩
      rw [hS, Fx.cl_in (by omega) (by omega)]
end Go.Proofs.Ytenlkadmniobdaa
