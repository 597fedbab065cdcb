/- What the reference's digits returns. -/
import Derived.Test.YtifaneckfnjgiabTxtB
import Derived.Test.YtifaneckfnjgiabStA
import Derived.WalkKit
import Derived.WalkSpells
import Derived.WalkLawsBesides
import Derived.Handy
import Derived.Below
namespace Tx
/-- so many last digits of a number -/
def dgs (x : Int) : Nat → List UInt8
  | 0 => []
  | i + 1 => UInt8.ofNat (48 + dv x i % 10).toNat :: dgs x i
theorem dgs_len (x : Int) (k : Nat) : (dgs x k).length = k := by
  induction k with
  | zero => rfl
  | succ k ih => unfold dgs; rw [List.length_cons, ih]
theorem ba_app (a b : List UInt8) : (⟨a.toArray⟩ : ByteArray) ++ ⟨b.toArray⟩ = ⟨(a ++ b).toArray⟩ := by
  apply ByteArray.ext
  rw [ByteArray.data_append]
  simp
theorem dig_at : ∀ r, r < 10 → (⟨#[48, 49, 50, 51, 52, 53, 54, 55, 56, 57]⟩ : ByteArray).extract r (r + 1) = ⟨[UInt8.ofNat (48 + r)].toArray⟩ := by decide +kernel
theorem dgs_next (x : Int) (k r : Nat) (hr : dv x k % 10 = (r : Int)) (h : r < 10) : (⟨#[48, 49, 50, 51, 52, 53, 54, 55, 56, 57]⟩ : ByteArray).extract r (r + 1) ++ ⟨(dgs x k).toArray⟩ = ⟨(dgs x (k + 1)).toArray⟩ := by
  rw [dig_at r h, ba_app]
  have e : (48 + dv x k % 10).toNat = 48 + r := by rw [hr]; omega
  show _ = (⟨(UInt8.ofNat (48 + dv x k % 10).toNat :: dgs x k).toArray⟩ : ByteArray)
  rw [e]; rfl
end Tx
namespace Go.Proofs.Ytifaneckfnjgiab
open Go.RowKit
set_option maxHeartbeats 1000000 in
theorem rdigits_any (n : Int) (many : Nat) (w : World) (n0 : 0 ≤ n) (n1 : n ≤ 1000000000) (hm : (many : Int) ≤ 9) :
    Calls Try.prog 26 #[.int .i64 n, .int .i64 many] w fun e w' => e = .returned (.string ⟨(Tx.dgs n many).toArray⟩) ∧ w' = w := by
  go_enter Try.func26, Try.ntmps26
  go_wp2
  go_loop [0, 5, 6] (fun x o i => ∃ k : Nat, (k : Int) ≤ many ∧ i = .int .i64 (k : Int) ∧ o = .string ⟨(Tx.dgs n k).toArray⟩ ∧ x = .int .i64 (Tx.dv n k)) (fun _ _ i => (many - intOf i).toNat)
  case atStart => exact ⟨0, by omega, rfl, rfl, rfl⟩
  case round =>
    obtain ⟨k, hk, rfl, rfl, rfl⟩ := hrel
    obtain ⟨v0, v1⟩ := Tx.dv_bd n n0 k
    obtain ⟨v, hv⟩ : ∃ v, v = Tx.dv n k := ⟨_, rfl⟩
    rw [← hv] at v0 v1 ⊢
    have HV : Hid (v = Tx.dv n k) := hv
    have v2 : v ≤ 1000000000 := by omega
    clear hv v1
    obtain ⟨r, hr⟩ : ∃ r : Nat, v % 10 = (r : Int) := ⟨(v % 10).toNat, by omega⟩
    have r1 : (r : Int) ≤ 9 := by omega
    have HR : Hid (v % 10 = (r : Int)) := hr
    have hl : (Tx.dgs n k).length ≤ 9 := by rw [Tx.dgs_len]; omega
    by_cases hc : (k : Int) < many
    · go_wp2
      exact ⟨⟨k + 1, by omega, by go_num, by rw [Tx.dgs_next n k r (by rw [← HV.out]; exact HR.out) (by omega)], by rw [HV.out]; rfl⟩, by simp [intOf]; omega⟩
    · go_wp2
      go_ret
      have ek : k = many := by omega
      subst ek
      exact ⟨rfl, rfl⟩
end Go.Proofs.Ytifaneckfnjgiab
