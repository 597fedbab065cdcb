/- What Sum, digits and Write of the reference return. -/
import Derived.Test.YthoilihokbakoaaDoorQE
import Derived.Test.YthoilihokbakoaaDoorStR
import Derived.BigQuiet
namespace Go.Proofs.YthoilihokbakoaaDoor
open Go Go.RowKit
theorem i64_xor_nat (a b : Nat) (ha : a < 256) (hb : b < 256) : bits .xor .i64 (a : Int) (b : Int) = ((a ^^^ b : Nat) : Int) := by
  have hx : a ^^^ b < 256 := xor_lt ha hb
  have o : ∀ a : Nat, a < 9223372036854775808 → (BitVec.ofInt 64 (a : Int)).toNat = a := fun a ha => by
    rw [BitVec.ofInt_natCast, BitVec.toNat_ofNat]; exact Nat.mod_eq_of_lt (by omega)
  show IntKind.i64.wrap ((BitVec.ofInt 64 (a : Int) ^^^ BitVec.ofInt 64 (b : Int)).toNat : Int) = _
  rw [BitVec.toNat_xor, o a (by omega), o b (by omega), IntKind.wrap_i64]
  omega
set_option maxHeartbeats 1000000 in
theorem rsum_any (s : ByteArray) (w : World) (hs : s.size ≤ 10000000) : Calls Tryd.prog 10 #[.string s] w fun e w' => e = .returned (.int .i64 (xs s.data.toList : Int)) ∧ w' = w := by
  have hsi : (s.size : Int) ≤ 10000000 := by omega
  go_enter Tryd.func10, Tryd.ntmps10
  go_wp2
  go_loop [3, 4] (fun n i => ∃ k X : Nat, i = .int .i64 (k : Int) ∧ n = .int .i64 (X : Int) ∧ k ≤ s.size ∧ Hid (X = xs (s.data.toList.take k))) (fun _ i => s.size - (intOf i).toNat)
  case atStart => exact ⟨0, 0, rfl, rfl, Nat.zero_le _, rfl⟩
  case round =>
    obtain ⟨k, X, rfl, rfl, hk, H⟩ := hrel
    have hX : X < 256 := by rw [H.out]; exact xs_lt _
    by_cases hlt : k < s.size
    · have hlti : (k : Int) < s.size := by omega
      have hb := i64_xor_nat X s[k].toNat hX s[k].toNat_lt
      have hsk : (s[k].toNat : Int) < 256 := by have := s[k].toNat_lt; omega
      have hwk : IntKind.i64.wrap (s[k].toNat : Int) = (s[k].toNat : Int) := by rw [IntKind.wrap_i64]; omega
      obtain ⟨Y, hY⟩ : ∃ Y, Y = X ^^^ s[k].toNat := ⟨_, rfl⟩
      rw [← hY] at hb
      have HY : Hid (Y = xs (s.data.toList.take (k + 1))) := by show _ = _; rw [xs_take s k hlt, ← H.out, hY]
      clear hY hX
      go_wp2
      refine ⟨⟨k + 1, Y, by go_num, rfl, by omega, HY⟩, by simp [intOf]; omega⟩
    · have hge : ¬ (k : Int) < s.size := by omega
      have HE : Hid (X = xs s.data.toList) := by
        have h1 := H.out
        rw [List.take_of_length_le (by simp; omega)] at h1
        exact h1
      clear hX
      go_wp2
      go_ret
      exact ⟨ret_iq (by rw [HE.out]), rfl⟩
theorem dec_at' : ∀ a, a < 10 → (⟨#[48, 49, 50, 51, 52, 53, 54, 55, 56, 57]⟩ : ByteArray).extract a (a + 1) = tx [UInt8.ofNat (48 + a)] := by decide
set_option maxHeartbeats 1000000 in
theorem rdigits_any (k : Nat) : ∀ (n : Int) (w : World), 0 ≤ n → n ≤ 1000000000 → k ≤ 10 → Calls Tryd.prog 27 #[.int .i64 n, .int .i64 (k : Int)] w fun e w' => e = .returned (.string (tx (dg k n))) ∧ ∃ m, w' = w.drewN m := by
  induction k with
  | zero =>
    intro n w n0 n1 hk
    go_enter Tryd.func27, Tryd.ntmps27
    go_wp2
    go_ret
    exact ⟨rfl, 0, rfl⟩
  | succ k ih =>
    intro n w n0 n1 hk
    obtain ⟨D, hD⟩ : ∃ D, D = tx (dg k (n / 10)) := ⟨_, rfl⟩
    have HI : Hid (∀ u, Calls Tryd.prog 27 #[.int .i64 (n / 10), .int .i64 (k : Int)] u fun e w' => e = .returned (.string D) ∧ ∃ m, w' = u.drewN m) := fun u => by rw [hD]; exact ih (n / 10) u (by omega) (by omega) (by omega)
    have hDs : D.size = k := by rw [hD]; exact dg_len k _
    have hki : (k : Int) ≤ 10 := by omega
    have hk0 : (((k + 1 : Nat) : Int) == 0) = false := by rw [beq_eq_false_iff_ne]; omega
    obtain ⟨r, hr⟩ : ∃ r : Nat, (r : Int) = n % 10 := ⟨(n % 10).toNat, by omega⟩
    have hr2 : n % 10 = (r : Int) := hr.symm
    have hr10 : (r : Int) < 10 := by omega
    have hr0 : (0 : Int) ≤ r := by omega
    have hx := dec_at' r (by omega)
    obtain ⟨E, hE⟩ : ∃ E, E = tx [UInt8.ofNat (48 + r)] := ⟨_, rfl⟩
    rw [← hE] at hx
    have hEs : E.size = 1 := by rw [hE]; rfl
    have HE : Hid (D ++ E = tx (dg (k + 1) n)) := by
      show _ = _
      rw [hD, hE, dg, hr2, Int.toNat_natCast]
      apply ByteArray.ext
      unfold tx
      simp
    have hcat : ¬ 9223372036854775807 < k + 1 := by omega
    have hrt : ((r : Int) + 1).toNat = r + 1 := by omega
    clear hD hE hr ih
    go_enter Tryd.func27, Tryd.ntmps27
    go_wp2_with fail
    go_quiet ((go_at_call 27; exact Calls.quiet_of (HI.out _)))
    go_wp2
    go_ret
    exact ⟨ret_sq HE.out, _, rfl⟩
def dgS (K N : Int) : ByteArray := tx (dg K.toNat N)
theorem dgS_size (K N : Int) : (dgS K N).size = K.toNat := dg_len _ _
theorem rdq_any (N K : Int) (w : World) (n0 : 0 ≤ N) (n1 : N ≤ 1000000000) (k0 : 0 ≤ K) (k1 : K ≤ 10) : Calls Tryd.prog 27 #[.int .i64 N, .int .i64 K] w fun e w' => e = .returned (.string (dgS K N)) ∧ ∃ m, w' = w.drewN m := by
  obtain ⟨k, rfl⟩ := Int.eq_ofNat_of_zero_le k0
  exact rdigits_any k N w n0 n1 (by omega)
/-- two digits each are six -/
theorem dg_six (h n s : Int) (n0 : 0 ≤ n) (n1 : n ≤ 99) (s0 : 0 ≤ s) (s1 : s ≤ 99) : dg 6 (h * 10000 + n * 100 + s) = dg 2 h ++ dg 2 n ++ dg 2 s := by
  have e1 : (h * 10000 + n * 100 + s) % 10 = s % 10 := by omega
  have e2 : (h * 10000 + n * 100 + s) / 10 % 10 = s / 10 % 10 := by omega
  have e3 : (h * 10000 + n * 100 + s) / 10 / 10 % 10 = n % 10 := by omega
  have e4 : (h * 10000 + n * 100 + s) / 10 / 10 / 10 % 10 = n / 10 % 10 := by omega
  have e5 : (h * 10000 + n * 100 + s) / 10 / 10 / 10 / 10 % 10 = h % 10 := by omega
  have e6 : (h * 10000 + n * 100 + s) / 10 / 10 / 10 / 10 / 10 % 10 = h / 10 % 10 := by omega
  simp only [dg, e1, e2, e3, e4, e5, e6, List.nil_append, List.append_assoc]
set_option maxHeartbeats 1000000 in
theorem rwrite_no (era t : Int) (w : World) (t0 : 0 ≤ t) (t1 : t < 18446744073709551616) (h : ds era t < 0 ∨ 66269577600 ≤ ds era t) :
    Calls Tryd.prog 13 #[.agg #[.int .i64 era, .int .u64 t]] w fun e w' => e = .returned (.tuple #[.string ⟨#[]⟩, .int .i64 20]) ∧ Below w.heap.size w w' := by
  have HN : Hid (∀ u, Calls Tryd.prog 14 #[.agg #[.int .i64 era, .int .u64 t]] u fun e w' => e = .returned noC ∧ Below u.heap.size u w') := fun u => rofDate_no era t u t0 t1 h
  clear h
  unfold noC at HN
  go_enter Tryd.func13, Tryd.ntmps13
  go_wp2_with (go_at_call 14; refine (HN.out _).mono ?_; rintro e w1 ⟨rfl, hb1⟩)
  go_ret2
  refine ⟨rfl, ?_⟩
  have hb2 := hb1.size
  simp at hb2
  exact (by repeat' (first | with_reducible exact Below.refl _ _ | with_reducible exact (((Below.refl _ _).alloc (Nat.le_refl _) _).trans (hb1.mono (by simp))) | with_reducible refine Below.setCell ?_ (by first | (simp; done) | (simp; omega) | omega) _ | with_reducible refine below_drewN ?_ _ | with_reducible refine Below.drew ?_ | with_reducible refine Below.alloc ?_ (by first | (simp; done) | (simp; omega) | omega) _))
theorem sub_hex' : ∀ a, a < 16 → (⟨#[48, 49, 50, 51, 52, 53, 54, 55, 56, 57, 65, 66, 67, 68, 69, 70]⟩ : ByteArray).extract a (a + 1) = tx [hxc a] := by decide
set_option maxHeartbeats 4000000 in
theorem rwrite_yes (era t : Int) (w : World) (t0 : 0 ≤ t) (t1 : t < 18446744073709551616) (h0 : 0 ≤ ds era t) (h1 : ds era t < 66269577600) :
    Calls Tryd.prog 13 #[.agg #[.int .i64 era, .int .u64 t]] w fun e w' => ∃ y m d h n s : Int, Hid (Cal.Day y m d ∧ Cal.Time h n s ∧ Cal.sec y m d h n s = ds era t) ∧ e = .returned (.tuple #[.string (tx (sealed (bodyL y m d h n s (t % 4294967296)))), .int .i64 0]) ∧ Below w.heap.size w w' := by
  have HY : Hid (∀ u, Calls Tryd.prog 14 #[.agg #[.int .i64 era, .int .u64 t]] u fun e w' => ∃ y m d h n s : Int, e = .returned (yesC y m d h n s (t % 4294967296)) ∧ Cal.Day y m d ∧ Cal.Time h n s ∧ Cal.sec y m d h n s = ds era t ∧ Below u.heap.size u w') := fun u => rofDate_yes era t u t0 t1 h0 h1
  clear h0 h1
  go_enter Tryd.func13, Tryd.ntmps13
  go_wp2_with fail
  refine (HY.out _).mono ?_
  rintro e w1 ⟨y, m, d, h, n, s, rfl, hD, hT, hS, hb1⟩
  obtain ⟨y0, y1, m0, m1, d0, d1⟩ := hD
  have d2 : d ≤ 31 := by have := (Cal.dim_bd y m).2; omega
  obtain ⟨h0, h1, n0, n1, s0, s1⟩ := hT
  have HD : Hid (Cal.Day y m d ∧ Cal.Time h n s ∧ Cal.sec y m d h n s = ds era t) := ⟨⟨y0, y1, m0, m1, d0, d1⟩, ⟨h0, h1, n0, n1, s0, s1⟩, hS⟩
  obtain ⟨F, hF⟩ : ∃ F, F = t % 4294967296 := ⟨_, rfl⟩
  have F0 : 0 ≤ F := by omega
  have F1 : F < 4294967296 := by omega
  rw [← hF]
  have HFt : Hid (F = t % 4294967296) := hF
  clear hF hS d1
  obtain ⟨M, hM⟩ : ∃ M, M = F * 1000000 / 4294967296 := ⟨_, rfl⟩
  have M0 : 0 ≤ M := by omega
  have M1 : M ≤ 1000000 := by omega
  have HM : Hid (M = F * 1000000 / 4294967296) := hM
  have hM2 : F * 1000000 / 4294967296 = M := hM.symm
  clear hM
  have HB0 : Hid (Below w.heap.size w w1) := ((Below.refl _ _).alloc (Nat.le_refl _) _).trans (hb1.mono (by simp))
  clear hb1
  have hsz := dgS_size
  unfold yesC
  go_wp2_with fail
  go_quiet ((go_at_call 27; exact Calls.quiet_of (rdq_any _ _ _ (by omega) (by omega) (by omega) (by omega))))
  obtain ⟨Bd, hBd⟩ : ∃ Bd, (⟨#[71, 80, 90, 68, 65, 44]⟩ : ByteArray) ++ dgS 2 h ++ dgS 2 n ++ dgS 2 s ++ ⟨#[46]⟩ ++ dgS 6 M ++ ⟨#[44]⟩ ++ dgS 2 d ++ ⟨#[44]⟩ ++ dgS 2 m ++ ⟨#[44]⟩ ++ dgS 4 y ++ ⟨#[44, 48, 48, 44, 48, 48]⟩ = Bd := ⟨_, rfl⟩
  have HBd : Hid (Bd.data.toList = bodyL y m d h n s F) := by
    show _ = _
    rw [← hBd]
    unfold bodyL dgS
    rw [dg_six h n s n0 (by omega) s0 (by omega), ← HM.out]
    unfold tx
    simp
  rw [hBd]
  have hBs : Bd.size = 36 := by
    have h3 := congrArg List.length HBd.out
    rw [bodyL_len] at h3
    simpa using h3
  have hBi : (Bd.size : Int) = 36 := by omega
  have IS : Hid (∀ u, Calls Tryd.prog 10 #[.string Bd] u fun e w' => e = .returned (.int .i64 (xs Bd.data.toList : Int)) ∧ w' = u) := fun u => rsum_any Bd u (by omega)
  obtain ⟨X, hX⟩ : ∃ X, X = xs Bd.data.toList := ⟨_, rfl⟩
  have hX2 : X < 256 := by rw [hX]; exact xs_lt _
  have hXi : (X : Int) < 256 := by omega
  rw [← hX] at IS
  have HX : Hid (X = xs Bd.data.toList) := hX
  obtain ⟨a, ha⟩ : ∃ a : Nat, a = X / 16 := ⟨_, rfl⟩
  obtain ⟨b, hb⟩ : ∃ b : Nat, b = X % 16 := ⟨_, rfl⟩
  have hda : (X : Int) / 16 = (a : Int) := by omega
  have hdb : (X : Int) % 16 = (b : Int) := by omega
  have ha16 : (a : Int) < 16 := by omega
  have hb16 : (b : Int) < 16 := by omega
  have ea := sub_hex' a (by omega)
  have eb := sub_hex' b (by omega)
  obtain ⟨Ta, hTa⟩ : ∃ T, T = tx [hxc a] := ⟨_, rfl⟩
  obtain ⟨Tb, hTb⟩ : ∃ T, T = tx [hxc b] := ⟨_, rfl⟩
  rw [← hTa] at ea
  rw [← hTb] at eb
  have za : Ta.size = 1 := by rw [hTa]; rfl
  have zb : Tb.size = 1 := by rw [hTb]; rfl
  have HT : Hid (Ta = tx [hxc a] ∧ Tb = tx [hxc b] ∧ a = X / 16 ∧ b = X % 16) := ⟨hTa, hTb, ha, hb⟩
  clear hBd hX hTa hTb ha hb hsz hX2
  go_wp2_with fail
  refine (IS.out _).mono ?_
  rintro e w3 ⟨rfl, hw3⟩
  rw [hw3]
  clear hw3
  go_wp2_with fail
  go_region
  go_wp2
  go_ret2
  refine ⟨y, m, d, h, n, s, HD, ret_w ?_, ?_⟩
  · rw [HT.out.1, HT.out.2.1, HT.out.2.2.1, HT.out.2.2.2, HX.out, ← HFt.out]
    rw [← HBd.out]
    unfold sealed
    apply ByteArray.ext
    apply Array.ext'
    unfold tx
    simp
  · have h3 := HB0.out.size
    exact (by repeat' (first | with_reducible exact Below.refl _ _ | with_reducible exact HB0.out | with_reducible refine Below.setCell ?_ (by first | (simp; done) | (simp; omega) | omega) _ | with_reducible refine below_drewN ?_ _ | with_reducible refine Below.drew ?_ | with_reducible refine Below.alloc ?_ (by first | (simp; done) | (simp; omega) | omega) _))
end Go.Proofs.YthoilihokbakoaaDoor
