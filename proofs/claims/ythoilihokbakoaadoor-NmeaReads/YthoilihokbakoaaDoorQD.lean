/- A sentence with its sum. -/
import Derived.Test.YthoilihokbakoaaDoorQC
namespace Go.Proofs.YthoilihokbakoaaDoor
open Go Go.RowKit
set_option maxRecDepth 20000 in
theorem and_15 : ∀ b, b < 256 → b &&& 15 = b % 16 := by decide
theorem i64_and_15 (b : Nat) (h : b < 256) : bits .and .i64 (b : Int) 15 = ((b % 16 : Nat) : Int) := by
  have o : ∀ a : Nat, a < 9223372036854775808 → (BitVec.ofInt 64 (a : Int)).toNat = a := fun a ha => by
    rw [BitVec.ofInt_natCast, BitVec.toNat_ofNat]; exact Nat.mod_eq_of_lt (by omega)
  show IntKind.i64.wrap ((BitVec.ofInt 64 (b : Int) &&& BitVec.ofInt 64 ((15 : Nat) : Int)).toNat : Int) = _
  rw [BitVec.toNat_and, o b (by omega), o 15 (by omega), and_15 b h, IntKind.wrap_i64]
  omega
theorem ret_sq {a b : ByteArray} (h : a = b) : Ending.returned (.string a) = .returned (.string b) := by rw [h]
set_option maxRecDepth 20000 in
theorem hex_at' : ∀ a, (h : a < 16) → (⟨#[48, 49, 50, 51, 52, 53, 54, 55, 56, 57, 65, 66, 67, 68, 69, 70]⟩ : ByteArray)[a]'h = hxc a := by decide
theorem hex_at (a : Nat) (h : a < 16) : (⟨#[48, 49, 50, 51, 52, 53, 54, 55, 56, 57, 65, 66, 67, 68, 69, 70]⟩ : ByteArray)[a]'h = hxc a := hex_at' a h
set_option maxHeartbeats 1000000 in
theorem withSum_any (s : ByteArray) (w : World) (hs : s.size ≤ 1000) : Calls Tryd.prog 26 #[.string s] w fun e w' => e = .returned (.string (tx (sealed s.data.toList))) ∧ Below w.heap.size w w' := by
  have hsi : (s.size : Int) ≤ 1000 := by omega
  have IS : Hid (Calls Tryd.prog 9 #[.string s] w fun e w' => e = .returned (.int .i64 (xs s.data.toList : Int)) ∧ w' = w) := sum_any s w (by omega)
  obtain ⟨X, hX⟩ : ∃ X, X = xs s.data.toList := ⟨_, rfl⟩
  have hX2 : X < 256 := by rw [hX]; exact xs_lt _
  have hXi : (X : Int) < 256 := by omega
  rw [← hX] at IS
  have HX : Hid (X = xs s.data.toList) := hX
  obtain ⟨b, hb⟩ : ∃ b : Nat, b = X % 16 := ⟨_, rfl⟩
  obtain ⟨a, haX⟩ : ∃ a : Nat, a = X / 16 := ⟨_, rfl⟩
  have ha := i64_and_15 X hX2
  rw [← hb] at ha
  have hda : (X : Int) / 16 = (a : Int) := by omega
  have ha16 : (a : Int) < 16 := by omega
  have ha0 : (0 : Int) ≤ a := by omega
  have han : a < 16 := by omega
  have hbn : b < 16 := by omega
  have ea := hex_at a han
  have eb := hex_at b hbn
  have HA : Hid (a = X / 16) := haX
  obtain ⟨ca, hca⟩ : ∃ c, c = hxc a := ⟨_, rfl⟩
  obtain ⟨cb, hcb⟩ : ∃ c, c = hxc b := ⟨_, rfl⟩
  have hcv : (convert 62 9 (.slice (some ⟨w.heap.size, 0, none⟩) 2 2)).run Tryd.prog (w.alloc (.cells #[.int .u8 (ca.toNat : Int), .int .u8 (cb.toNat : Int)] 5)).drew = .ok (.string (tx [ca, cb])) (w.alloc (.cells #[.int .u8 (ca.toNat : Int), .int .u8 (cb.toNat : Int)] 5)).drew := by
    refine conv_q _ ⟨w.heap.size, 0, none⟩ 2 [ca, cb] (fun j hj => ?_)
    have hc := World.cell?_alloc_new w #[.int .u8 (ca.toNat : Int), .int .u8 (cb.toNat : Int)] 5 j
    have hj2 : j = 0 ∨ j = 1 := by simp at hj; omega
    rw [add_own]
    refine Eq.trans hc ?_
    rcases hj2 with rfl | rfl <;> rfl
  rw [← hca] at ea
  rw [← hcb] at eb
  have HC : Hid (ca = hxc a ∧ cb = hxc b) := ⟨hca, hcb⟩
  obtain ⟨T, hT⟩ : ∃ T, T = tx [ca, cb] := ⟨_, rfl⟩
  rw [← hT] at hcv
  have HT : Hid (T = tx [ca, cb]) := hT
  have hTs : T.size = 2 := by rw [hT]; rfl
  have hcat2 : ¬ 9223372036854775807 < s.size + 1 + 2 := by omega
  have hb16 : (b : Int) < 16 := by omega
  have hb0 : (0 : Int) ≤ b := by omega
  have hcat : ¬ 9223372036854775807 < s.size + 1 := by omega
  have HB : Hid (b = X % 16) := hb
  clear hX hb haX hca hcb hT
  go_enter Tryd.func26, Tryd.ntmps26
  go_wp2_with fail
  refine IS.out.mono ?_
  rintro e w1 ⟨rfl, hw1⟩
  rw [hw1]
  go_wp2_with fail
  go_region
  go_wp2
  go_ret
  refine ⟨ret_sq ?_, (by repeat' (first | with_reducible exact Below.refl _ _ | with_reducible refine Below.setCell ?_ (by first | (simp; done) | (simp; omega) | omega) _ | with_reducible refine below_drewN ?_ _ | with_reducible refine Below.drew ?_ | with_reducible refine Below.alloc ?_ (by first | (simp; done) | (simp; omega) | omega) _))⟩
  rw [HT.out, HC.out.1, HC.out.2, HA.out, HB.out, HX.out]
  apply ByteArray.ext
  unfold sealed tx
  simp
end Go.Proofs.YthoilihokbakoaaDoor
