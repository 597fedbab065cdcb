/- choose: Meet. -/
import Derived.Test.YtepbbaeamlimaabUH
namespace Go.Proofs.Ytepbbaeamlimaab
open Go Go.RowKit Go.Sort Ch Pu
set_option linter.unusedVariables false
/-- what Meet answers, as three values -/
def mA (o : Option (Int × Int)) : Int := match o with | none => 0 | some (a, _) => a * 65536
def mB (o : Option (Int × Int)) : Int := match o with | none => 0 | some (_, b) => b * 65536
def mtL (l : List Cn) : Option (Int × Int) := mt (E l) (th l).length
theorem ret3i {a b c d : Int} {x y : Bool} (h1 : a = c) (h2 : b = d) (h : x = y) : Ending.returned (.tuple #[.int .i64 a, .int .i64 b, .bool x]) = .returned (.tuple #[.int .i64 c, .int .i64 d, .bool y]) := by rw [h1, h2, h]
set_option maxRecDepth 20000 in
set_option maxHeartbeats 1000000 in
theorem meet_any (v : Value) (l : List Cn) (w : World) (N : Nat) (h : Rk N w 7 v (l.map cnL)) (hN : N ≤ w.heap.size) (hl : l.length ≤ 1000000) : Calls Try.prog 6 #[v] w fun e w' => e = .returned (.tuple #[.int .i64 (mA (mtL l)), .int .i64 (mB (mtL l)), .bool (mtL l).isSome]) ∧ Hid (Below w.heap.size w w') := by
  have HC : Hid (Calls Try.prog 9 #[v] w fun e w' => ∃ u, e = .returned u ∧ Hid (OR w' w.heap.size 41 1 u (enR (E l))) ∧ Hid (Below w.heap.size w w')) := ends_any v l w N h hN hl
  obtain ⟨m, hm⟩ : ∃ m, (th l).length = m := ⟨_, rfl⟩
  have HM : Hid (mtL l = mt (E l) m ∧ (E l).length = 3 * m ∧ ks (E l) = 0 ∧ (∀ z ∈ E l, okZ z) ∧ m ≤ 64) := ⟨by unfold mtL; rw [hm], by rw [E_len, hm], ks_E l, fun z hz => E_ok hz, by rw [← hm]; exact th_len l⟩
  have hm64 : (m : Int) ≤ 64 := by have := HM.out.2.2.2.2; omega
  clear h hN hl hm
  obtain ⟨es, hes⟩ : ∃ es, E l = es := ⟨_, rfl⟩
  rw [hes] at HC HM
  clear hes
  obtain ⟨o, ho⟩ : ∃ o, mtL l = o := ⟨_, rfl⟩
  rw [ho] at HM ⊢
  clear ho
  go_enter Try.func6, Try.ntmps6
  refine post_hid fun Q hQ => ?_
  go_upto_region 2 with (go_at_call 9; refine HC.out.mono ?_; rintro e w1 ⟨u1, rfl, H1, H2⟩)
  obtain ⟨n3, hn3⟩ : ∃ n3 : Nat, n3 = 3 * m := ⟨_, rfl⟩
  have HV : Hid (Rk w1.heap.size w1 1 u1 (enR es)) := H1.out.rk
  obtain ⟨ao, cap, hu1⟩ := or_len H1.out
  rw [enR_len, HM.out.2.1, ← hn3] at hu1
  subst hu1
  have hn3i : (n3 : Int) = 3 * (m : Int) := by omega
  have hq3 : (n3 : Int).tdiv 3 = (m : Int) := by rw [hn3i, Int.mul_tdiv_cancel_left _ (by decide)]
  have HCP : Hid (∀ (R X : Int), 0 < R → R ≤ 1000 → 0 ≤ X → X ≤ 1000 → Calls Try.prog 10 #[.slice ao n3 cap, .int .i64 R, .int .i64 X] w1 fun e w' => ∃ a b, e = .returned (.tuple #[.int .i64 a, .int .i64 b, .bool (pts es R X).isSome]) ∧ w' = w1 ∧ Hid (∀ p q, pts es R X = some (p, q) → a = p * 65536 ∧ b = q * 65536)) := fun R X r0 r1 x0 x1 => points_any _ es R X w1 _ HV.out HM.out.2.2.2.1 HM.out.2.2.1 (by have := HM.out; omega) r0 r1 x0 x1
  clear hn3 hn3i HV H1 HC
  go_wp2_with fail
  go_loopw [7] (fun x7 wr => ∃ (k : Nat), x7 = .int .i64 k ∧ 2 * (k : Int) ≤ m + 1 ∧ wr = w1 ∧ Hid (∀ g, g < k → pts es ((m : Int) - (g : Int)) (g : Int) = none)) (fun x7 _ => m + 1 - (intOf x7).toNat)
  case atStart => exact ⟨0, rfl, by omega, rfl, fun g hg => by omega⟩
  case round =>
    obtain ⟨k, rfl, hk, hwr, HI⟩ := hrel
    subst hwr
    by_cases hlt : 2 * (k : Int) < m
    · have CP : Hid (Calls Try.prog 10 #[.slice ao n3 cap, .int .i64 ((m : Int) - k), .int .i64 k] wr fun e w' => ∃ a b, e = .returned (.tuple #[.int .i64 a, .int .i64 b, .bool (pts es ((m : Int) - k) k).isSome]) ∧ w' = wr ∧ Hid (∀ p q, pts es ((m : Int) - k) k = some (p, q) → a = p * 65536 ∧ b = q * 65536)) := HCP.out ((m : Int) - k) k (by omega) (by omega) (by omega) (by omega)
      obtain ⟨X, hX⟩ : ∃ X, pts es ((m : Int) - k) k = X := ⟨_, rfl⟩
      rw [hX] at CP
      have HX : Hid (pts es ((m : Int) - k) k = X) := hX
      clear hX
      cases X with
      | none =>
        go_wp2_with (go_at_call 10; refine CP.out.mono ?_; rintro e w9 ⟨a, b, rfl, hw9, H9⟩; rw [hw9]; clear hw9)
        go_roundw
        case rel =>
          refine ⟨k + 1, by go_num, by omega, by first | rfl | trivial, fun g hg => ?_⟩
          rcases Nat.lt_or_ge g k with h1 | h1
          · exact HI.out g h1
          · have : g = k := by omega
            subst this
            exact HX.out
        case measure => simp [intOf]; omega
      | some r =>
        obtain ⟨p, q⟩ := r
        have HO : Hid (o = some (p, q)) := HM.out.1.trans (mt_at (by omega) HI.out HX.out)
        go_wp2_with (go_at_call 10; refine CP.out.mono ?_; rintro e w9 ⟨a, b, rfl, hw9, H9⟩; rw [hw9]; clear hw9)
        rw [hQ.out]
        go_ret3
        refine ⟨?_, H2⟩
        rw [HO.out]
        exact ret3i (H9.out p q rfl).1 (H9.out p q rfl).2 rfl
    · have HO : Hid (o = none) := HM.out.1.trans (mt_none (f := k) (by omega) HI.out)
      go_wp2_with fail
      rw [hQ.out]
      go_ret3
      refine ⟨?_, H2⟩
      rw [HO.out]
      exact ret3i rfl rfl rfl
end Go.Proofs.Ytepbbaeamlimaab
