/- The law NmeaSpoilt, walked. -/
import Derived.Test.YthoilihokbakoabDoorQF
namespace Go.Proofs.YthoilihokbakoabDoor
open Go Go.RowKit
theorem u8_of {x : Int} (h0 : 0 ≤ x) (h1 : x < 256) : ∃ c : UInt8, x = (c.toNat : Int) := by
  refine ⟨UInt8.ofNat x.toNat, ?_⟩
  rw [UInt8.toNat_ofNat']
  omega
/-- a text with one byte turned is parted there -/
theorem turned_at (S : ByteArray) (k : Nat) (hk : k < S.size) (c : UInt8) : S.data.toList = S.data.toList.take k ++ S[k] :: S.data.toList.drop (k + 1) ∧ ((S.extract 0 k ++ tx [c]) ++ S.extract (k + 1) S.size).data.toList = S.data.toList.take k ++ c :: S.data.toList.drop (k + 1) := by
  refine ⟨?_, ?_⟩
  · rw [← drop_at S k hk, List.take_append_drop]
  · rw [extract_tx, extract_tx]
    unfold tx
    have : S.data.toList.length = S.size := by simp
    simp
    rw [List.take_of_length_le (by simp)]
set_option maxHeartbeats 2000000 in
theorem NmeaSpoilt_core (era t at' by' : Int) (w : World) (t0 : 0 ≤ t) (t1 : t < 18446744073709551616) (b0 : 0 ≤ by') (b1 : by' < 256) :
    Calls Tryd.prog 3 #[.agg #[.int .i64 era, .int .u64 t], .int .i64 at', .int .u8 by'] w fun e w' => e = .returned (.bool true) ∧ Below w.heap.size w w' := by
  by_cases hno : ds era t < 0 ∨ 66269577600 ≤ ds era t
  · have H1 : Hid (∀ u, Calls Tryd.prog 4 #[.agg #[.int .i64 era, .int .u64 t]] u fun e w' => e = .returned (.tuple #[.string ⟨#[]⟩, .int .i64 20]) ∧ Below u.heap.size u w') := fun u => write_no era t u t0 t1 hno
    have H2 : Hid (∀ u, Calls Tryd.prog 5 #[.agg #[.int .i64 era, .int .u64 t]] u fun e w' => e = .returned (.tuple #[.string ⟨#[]⟩, .int .i64 20]) ∧ Below u.heap.size u w') := fun u => rwrite_no era t u t0 t1 hno
    clear hno
    go_enter Tryd.func3, Tryd.ntmps3
    go_wp2_with fail
    refine (H1.out _).mono ?_
    rintro e w1 ⟨rfl, hb1⟩
    have c0 := (hb1.cell (p := ⟨w.heap.size, 0, none⟩) (by simp)).trans (World.cell?_alloc_new w _ _ 0)
    have c1 := (hb1.cell (p := ⟨w.heap.size, 1, none⟩) (by simp)).trans (World.cell?_alloc_new w _ _ 1)
    simp at c0 c1
    go_wp2_with fail
    refine (H2.out _).mono ?_
    rintro e w2 ⟨rfl, hb2⟩
    have HB : Hid (Below w.heap.size w w2) := by
      have h1 := hb1.size
      simp at h1
      exact (((Below.refl _ _).alloc (Nat.le_refl _) _).trans (hb1.mono (by simp))).trans (hb2.mono (by omega))
    clear hb1 hb2 c0 c1
    go_wp2
    go_ret
    exact ⟨rfl, HB.out⟩
  · have hy0 : 0 ≤ ds era t := by omega
    have hy1 : ds era t < 66269577600 := by omega
    have H1 : Hid (∀ u, Calls Tryd.prog 4 #[.agg #[.int .i64 era, .int .u64 t]] u fun e w' => ∃ y m d h n s : Int, Hid (Cal.Day y m d ∧ Cal.Time h n s ∧ Cal.sec y m d h n s = ds era t) ∧ e = .returned (.tuple #[.string (tx (sealed (bodyL y m d h n s (t % 4294967296)))), .int .i64 0]) ∧ Below u.heap.size u w') := fun u => write_yes era t u t0 t1 hy0 hy1
    have H2 : Hid (∀ u, Calls Tryd.prog 5 #[.agg #[.int .i64 era, .int .u64 t]] u fun e w' => ∃ y m d h n s : Int, Hid (Cal.Day y m d ∧ Cal.Time h n s ∧ Cal.sec y m d h n s = ds era t) ∧ e = .returned (.tuple #[.string (tx (sealed (bodyL y m d h n s (t % 4294967296)))), .int .i64 0]) ∧ Below u.heap.size u w') := fun u => rwrite_yes era t u t0 t1 hy0 hy1
    obtain ⟨c, hc⟩ := u8_of b0 b1
    subst hc
    clear hno hy0 hy1
    go_enter Tryd.func3, Tryd.ntmps3
    go_wp2_with fail
    refine (H1.out _).mono ?_
    rintro e w1 ⟨y, m, d, h, n, s, -, rfl, hb1⟩
    have c0 := (hb1.cell (p := ⟨w.heap.size, 0, none⟩) (by simp)).trans (World.cell?_alloc_new w _ _ 0)
    have c1 := (hb1.cell (p := ⟨w.heap.size, 1, none⟩) (by simp)).trans (World.cell?_alloc_new w _ _ 1)
    simp at c0 c1
    go_wp2_with fail
    refine (H2.out _).mono ?_
    rintro e w2 ⟨y2, m2, d2, h2, n2, s2, -, rfl, hb2⟩
    have HB : Hid (Below w.heap.size w w2) := by
      have h1 := hb1.size
      simp at h1
      exact (((Below.refl _ _).alloc (Nat.le_refl _) _).trans (hb1.mono (by simp))).trans (hb2.mono (by omega))
    clear hb1 hb2 c0 c1 H1 H2
    obtain ⟨b, hb⟩ : ∃ b, b = bodyL y m d h n s (t % 4294967296) := ⟨_, rfl⟩
    obtain ⟨R, hR⟩ : ∃ R, R = tx (sealed (bodyL y2 m2 d2 h2 n2 s2 (t % 4294967296))) := ⟨_, rfl⟩
    rw [← hb, ← hR]
    obtain ⟨S, hS⟩ : ∃ S, S = tx (sealed b) := ⟨_, rfl⟩
    rw [← hS]
    have hSs : S.size = 39 := by rw [hS]; show (sealed b).length = 39; rw [sealed_len, hb, bodyL_len]
    have hSi : (S.size : Int) = 39 := by omega
    have HS : Hid (S.data.toList = sealed b ∧ S.size = 39) := ⟨by rw [hS, tx_data], hSs⟩
    clear hb hR hS hSs b0 b1
    obtain ⟨r, hr⟩ : ∃ r, at'.tmod 39 = r := ⟨_, rfl⟩
    have r0 : -39 < r := by rw [← hr]; exact Int.lt_tmod_of_pos at' (by decide)
    have r1 : r < 39 := by rw [← hr]; exact Int.tmod_lt_of_pos at' (by decide)
    obtain ⟨k, hk⟩ : ∃ k : Nat, (r + 39) % 39 = (k : Int) := ⟨((r + 39) % 39).toNat, by omega⟩
    have hk39 : (k : Int) < 39 := by omega
    have hkt : (r + 39).tmod 39 = (k : Int) := by rw [Int.tmod_eq_emod_of_nonneg (by omega)]; exact hk
    have hk0 : (0 : Int) ≤ k := by omega
    have hkS : k < S.size := by have := HS.out.2; omega
    have hEm : S.toList.isEmpty = false := by
      rw [Lib.toList_data, HS.out.1]
      unfold sealed
      cases b <;> rfl
    by_cases heq : S[k] = c
    · have hb : ((S[k].toNat : Int) == (c.toNat : Int)) = true := by rw [heq]; simp
      clear heq
      go_wp2
      go_ret
      exact ⟨rfl, HB.out⟩
    · have hb : ((S[k].toNat : Int) == (c.toNat : Int)) = false := by
        rw [beq_eq_false_iff_ne]
        exact fun e => heq (UInt8.toNat_inj.1 (by omega))
      obtain ⟨p1, p2⟩ := turned_at S k hkS c
      obtain ⟨E1, hE1⟩ : ∃ E1, S.extract 0 k = E1 := ⟨_, rfl⟩
      obtain ⟨E2, hE2⟩ : ∃ E2, S.extract (k + 1) S.size = E2 := ⟨_, rfl⟩
      obtain ⟨T, hT⟩ : ∃ T, T = tx [c] := ⟨_, rfl⟩
      rw [hE1, hE2, ← hT] at p2
      have HCK : Hid (ckE ((E1 ++ T) ++ E2).data.toList ≠ 0) := by
        rw [p2]
        exact ckE_spoilt b _ _ S[k] c (by rw [← HS.out.1]; exact p1) heq
      have s1 : E1.size = k := by rw [← hE1, ByteArray.size_extract]; omega
      have s2 : E2.size ≤ 39 := by rw [← hE2, ByteArray.size_extract]; have := HS.out.2; omega
      have s3 : T.size = 1 := by rw [hT]; rfl
      have hcv : (convert 31 9 (.slice (some ⟨w2.heap.size, 0, none⟩) 1 1)).run Tryd.prog (w2.alloc (.cells #[.int .u8 (c.toNat : Int)] 5)).drew = .ok (.string T) (w2.alloc (.cells #[.int .u8 (c.toNat : Int)] 5)).drew := by
        rw [hT]
        refine conv_q _ ⟨w2.heap.size, 0, none⟩ 1 [c] (fun j hj => ?_)
        have hj0 : j = 0 := by simp at hj; omega
        subst hj0
        rw [add_own]
        exact World.cell?_alloc_new w2 _ _ 0
      have q1 : ¬ 9223372036854775807 < E1.size + T.size := by omega
      have q2 : ¬ 9223372036854775807 < E1.size + T.size + E2.size := by omega
      have HZ : Hid (((E1 ++ T) ++ E2).size ≤ 1000000) := by show _ ≤ _; rw [ByteArray.size_append, ByteArray.size_append]; omega
      clear heq p1 p2 hT s1 s2 s3
      go_wp2_with fail
      go_region
      obtain ⟨Z, hZ⟩ : ∃ Z, E1 ++ T ++ E2 = Z := ⟨_, rfl⟩
      rw [hZ] at HCK HZ ⊢
      obtain ⟨G, hG⟩ : ∃ G, G = ckE Z.data.toList := ⟨_, rfl⟩
      have HCE : Hid (∀ u, Calls Tryd.prog 6 #[.string Z] u fun e w' => e = .returned (.tuple #[.slice none 0 0, .int .i64 G]) ∧ w' = u) := fun u => by rw [hG]; exact check_err Z u HZ.out HCK.out
      have hG2 : G = 21 ∨ G = 41 := by
        have := ckE_cases Z.data.toList
        have h0 := HCK.out
        rw [← hG] at this h0
        omega
      have HB2 : Hid (Below w.heap.size w (w2.alloc (.cells #[.int .u8 (c.toNat : Int)] 5)).drew) := (HB.out.alloc HB.out.size _).drew
      clear hZ hG hcv q1 q2 hE1 hE2
      go_wp2_with fail
      refine (HCE.out _).mono ?_
      rintro e w3 ⟨rfl, hw3⟩
      rw [hw3]
      clear hw3
      rcases hG2 with hG2 | hG2
      all_goals
        subst hG2
        go_wp2
        go_ret
        exact ⟨rfl, HB2.out⟩
theorem u64_wfq {n : Int} (h : (Lit.int .u64 n).wf = true) : 0 ≤ n ∧ n < 18446744073709551616 := by
  have e1 : IntKind.u64.min = 0 := by decide
  have e2 : IntKind.u64.max = 18446744073709551615 := by decide
  simp [Lit.wf, e1, e2] at h
  omega
theorem u8_wfq {n : Int} (h : (Lit.int .u8 n).wf = true) : 0 ≤ n ∧ n < 256 := by
  have e1 : IntKind.u8.min = 0 := by decide
  have e2 : IntKind.u8.max = 255 := by decide
  simp [Lit.wf, e1, e2] at h
  omega
theorem NmeaSpoilt_row (era t at' by' : Int) (w : World) (_ : (Lit.int .i64 era).wf = true) (ht : (Lit.int .u64 t).wf = true) (_ : (Lit.int .i64 at').wf = true) (hb : (Lit.int .u8 by').wf = true) :
    Calls Tryd.prog 3 #[.agg #[.int .i64 era, .int .u64 t], .int .i64 at', .int .u8 by'] w fun e w' => e = .returned (.bool true) ∧ Below w.heap.size w w' :=
  NmeaSpoilt_core era t at' by' w (u64_wfq ht).1 (u64_wfq ht).2 (u8_wfq hb).1 (u8_wfq hb).2
end Go.Proofs.YthoilihokbakoabDoor
