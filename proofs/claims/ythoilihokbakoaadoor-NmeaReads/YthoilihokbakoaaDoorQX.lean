/- The reference's Check of a right sentence, walked. -/
import Derived.Test.YthoilihokbakoaaDoorQW
namespace Go.Proofs.YthoilihokbakoaaDoor
open Go Go.RowKit
/-- how far the reference's Check has come -/
structure Ck7 (s : ByteArray) (n : Nat) (w w' : World) (v : Value) (f k : Nat) (O : List (List UInt8)) : Prop where
  hf : f ≤ k
  hk : k ≤ n
  bl : Below w.heap.size w w'
  ow : OwT w' w.heap.size v O
  ln : O.length ≤ f
  ct : ct 44 [] (s.data.toList.take n) = O ++ ct 44 ((s.data.toList.drop f).take (k - f)) ((s.data.toList.drop k).take (n - k))
theorem take7_cur (s : ByteArray) (f k : Nat) (hf : f ≤ k) (h : k < s.size) : (s.data.toList.drop f).take (k + 1 - f) = (s.data.toList.drop f).take (k - f) ++ [s[k]] := by
  rw [show k + 1 - f = (k - f) + 1 by omega, List.take_succ_eq_append_getElem (by rw [List.length_drop]; simp; omega), List.getElem_drop]
  congr 2
  show s.data.toList[f + (k - f)]'_ = s.data.toList[k]'_
  congr 1
  omega
theorem drop7 (s : ByteArray) (n k : Nat) (h : k < s.size) (hk : k < n) : (s.data.toList.drop k).take (n - k) = s[k] :: (s.data.toList.drop (k + 1)).take (n - (k + 1)) := by
  rw [drop_at s k h, show n - k = (n - (k + 1)) + 1 by omega, List.take_succ_cons]
set_option maxHeartbeats 2000000 in
theorem rcheck_ok (s : ByteArray) (w : World) (hs : s.size ≤ 1000000) (he : ckE s.data.toList = 0) :
    Calls Tryd.prog 6 #[.string s] w fun e w' => ∃ v, e = .returned (.tuple #[v, .int .i64 0]) ∧ Hid (OwT w' w.heap.size v (flds s.data.toList) ∧ Below w.heap.size w w') := by
  have hsi : (s.size : Int) ≤ 1000000 := by omega
  have hl : s.data.toList.length = s.size := by simp
  have h3 : 3 ≤ s.size := by
    rcases Nat.lt_or_ge s.size 3 with h | h
    · unfold ckE at he
      rw [if_pos (by omega)] at he
      cases he
    · exact h
  have h3i : 3 ≤ (s.size : Int) := by omega
  obtain ⟨c0, c1, c2, e0, e1, e2, -, hck⟩ := tail_s s (by omega)
  obtain ⟨b, hb⟩ : ∃ b, b = s.extract 0 (s.size - 3) := ⟨_, rfl⟩
  rw [← hb] at hck
  have hbs : b.size ≤ 1000000 := by rw [hb, ByteArray.size_extract]; omega
  have HB := hb.symm
  have d1 := hx_bd c1
  have d2 := hx_bd c2
  rw [he] at hck
  have h42 : c0.toNat = 42 := by
    by_cases h : c0.toNat = 42
    · exact h
    · rw [if_pos h] at hck; cases hck
  rw [if_neg (by omega)] at hck
  have k1 : 0 ≤ hx c1 := by
    by_cases h : hx c1 < 0
    · rw [if_pos h] at hck; cases hck
    · omega
  rw [if_neg (by omega)] at hck
  have k2 : 0 ≤ hx c2 := by
    by_cases h : hx c2 < 0
    · rw [if_pos h] at hck; cases hck
    · omega
  rw [if_neg (by omega)] at hck
  have k3 : hx c1 * 16 + hx c2 = (xs b.data.toList : Int) := by
    by_cases h : hx c1 * 16 + hx c2 = (xs b.data.toList : Int)
    · exact h
    · rw [if_pos h] at hck; cases hck
  have hb42 : ((c0.toNat : Int) != 42) = false := by rw [h42]; rfl
  obtain ⟨H1, hH1⟩ : ∃ H1, H1 = hx c1 := ⟨_, rfl⟩
  obtain ⟨H2, hH2⟩ : ∃ H2, H2 = hx c2 := ⟨_, rfl⟩
  have I1 : Hid (∀ u, Calls Tryd.prog 18 #[.int .u8 (c1.toNat : Int)] u fun e w' => e = .returned (.int .i64 H1) ∧ w' = u) := fun u => by rw [hH1]; exact rhex_any c1 u
  have I2 : Hid (∀ u, Calls Tryd.prog 18 #[.int .u8 (c2.toNat : Int)] u fun e w' => e = .returned (.int .i64 H2) ∧ w' = u) := fun u => by rw [hH2]; exact rhex_any c2 u
  have q1 := hH1.symm
  have q2 := hH2.symm
  rw [← hH1] at d1 k1 k3
  rw [← hH2] at d2 k2 k3
  have IS : Hid (∀ u, Calls Tryd.prog 10 #[.string b] u fun e w' => e = .returned (.int .i64 (H1 * 16 + H2)) ∧ w' = u) := fun u => by rw [k3]; exact rsum_any b u (by omega)
  have d11 := d1.2
  have d21 := d2.2
  obtain ⟨n, hn⟩ : ∃ n : Nat, n = s.size - 3 := ⟨_, rfl⟩
  have HFL : Hid (flds s.data.toList = ct 44 [] (s.data.toList.take n)) := by
    show _ = _
    unfold flds
    rw [hl, hn]
  have hnl : n ≤ s.size := by omega
  have hni : (n : Int) ≤ s.size := by omega
  clear hb k3 hH1 hH2 h42 hck he d1 d2 hl
  go_enter Tryd.func6, Tryd.ntmps6
  go_wp2_with fail
  refine (I1.out _).mono ?_
  rintro e w' ⟨rfl, hw⟩
  rw [hw]
  clear hw
  go_wp2_with fail
  refine (I2.out _).mono ?_
  rintro e w'' ⟨rfl, hw''⟩
  rw [hw'']
  clear hw''
  go_wp2_with fail
  clear I1 I2
  obtain ⟨i1, hi1⟩ : ∃ i : Nat, i = s.size - 3 + 1 := ⟨_, rfl⟩
  obtain ⟨i2, hi2⟩ : ∃ i : Nat, i = s.size - 3 + 2 := ⟨_, rfl⟩
  have wi1 : IntKind.i64.wrap ((s.size : Int) - 3 + 1) = (i1 : Int) := by rw [IntKind.wrap_i64]; omega
  have wi2 : IntKind.i64.wrap ((s.size : Int) - 3 + 2) = (i2 : Int) := by rw [IntKind.wrap_i64]; omega
  have l1 : i1 < s.size := by omega
  have l2 : i2 < s.size := by omega
  have g1 : s[i1] = c1 := by subst hi1; exact e1
  have g2 : s[i2] = c2 := by subst hi2; exact e2
  have HNI : Hid ((n : Int) = (s.size : Int) - 3) := by show _ = _; omega
  clear hi1 hi2 e1 e2 hn
  have wi3 : IntKind.i64.wrap (H1 * 16) = H1 * 16 := by rw [IntKind.wrap_i64]; omega
  have wi4 : IntKind.i64.wrap (H1 * 16 + H2) = H1 * 16 + H2 := by rw [IntKind.wrap_i64]; omega
  go_quiet (first | (go_at_call 10; exact Calls.quiet_of_same (IS.out _)) | (go_at_call 18; exact Calls.quiet_of_same (rhex_any _ _)))
  rw [← HNI.out]
  clear g1 g2 wi1 wi2 wi3 wi4 l1 l2 IS q1 q2 HB e0
  go_wp2_with fail
  go_loopw [5, 6, 7] (fun o f i wr => ∃ (v : Value) (fn k : Nat) (O : List (List UInt8)), v = o ∧ f = .int .i64 (fn : Int) ∧ i = .int .i64 (k : Int) ∧ Hid (Ck7 s n w wr v fn k O)) (fun _ _ i _ => n - (intOf i).toNat)
  case atStart => exact ⟨_, 0, 0, [], rfl, rfl, rfl, Nat.le_refl _, Nat.zero_le _, (below_drewN (Below.refl _ _) _).alloc (by simp) _, OwT.fresh _ _ (by simp), Nat.le_refl _, by simp⟩
  case round =>
    obtain ⟨v, f, k, O, rfl, rfl, rfl, H⟩ := hrel
    have hk := H.out.hk
    have hf := H.out.hf
    have hfi : (f : Int) ≤ k := by omega
    have hki : (k : Int) ≤ n := by omega
    have hks : (k : Int) ≤ s.size := by omega
    have HO : Hid (O.length ≤ 1048576) := by have := H.out.ln; show _ ≤ _; omega
    by_cases hlt : k < n
    · have hlti : (k : Int) < n := by omega
      have hlts : k < s.size := by omega
      have hltsi : (k : Int) < s.size := by omega
      have HD := drop7 s n k hlts hlt
      by_cases hb : s[k].toNat = (44 : UInt8).toNat
      · have hbb : ((s[k].toNat : Int) == 44) = true := by rw [hb]; rfl
        have HC : Hid (ct 44 [] (s.data.toList.take n) = (O ++ [(s.data.toList.drop f).take (k - f)]) ++ ct 44 [] ((s.data.toList.drop (k + 1)).take (n - (k + 1)))) := by
          show _ = _
          rw [H.out.ct, HD, ct_hit hb]; simp
        clear HD hb
        go_wp2_with (at_builtin; refine wpList_appT (by rfl) _ _ 22 (by rfl) Tryd.underlying22 w.heap.size v O (by rfl) wr.heap.size ((s.data.toList.drop f).take (k - f)) (by rfl) (by have := HO.out; omega) (by have := H.out.bl.size; simp; omega) (H.out.ow.alloc _) (by rw [World.cell?_alloc_new, ← extract_tx]; rfl) ?_; intro v2 w3 ho hg)
        have HN : Hid (Ck7 s n w w3 v2 (k + 1) (k + 1) (O ++ [(s.data.toList.drop f).take (k - f)])) := ⟨Nat.le_refl _, hlt, (H.out.bl.alloc H.out.bl.size _).grown hg (by have := H.out.bl.size; simp; omega) (fun j e => (H.out.ow.lt j e).1), ho, by have := H.out.ln; simp; omega, by rw [HC.out, Nat.sub_self, List.take_zero]⟩
        clear ho hg
        go_wp2
        exact ⟨⟨v2, k + 1, k + 1, _, rfl, by go_num, by go_num, HN⟩, by simp [intOf]; omega⟩
      · have hbb : ((s[k].toNat : Int) == 44) = false := by rw [beq_eq_false_iff_ne]; intro e; exact hb (by show _ = 44; omega)
        have HN : Hid (Ck7 s n w wr v f (k + 1) O) := ⟨by omega, hlt, H.out.bl, H.out.ow, H.out.ln, by rw [H.out.ct, HD, ct_miss hb, take7_cur s f k hf hlts]⟩
        clear HD hb
        go_wp2
        exact ⟨⟨v, f, k + 1, O, rfl, rfl, by go_num, HN⟩, by simp [intOf]; omega⟩
    · have hke : k = n := by omega
      have HC : Hid (ct 44 [] (s.data.toList.take n) = O ++ [(s.data.toList.drop f).take (n - f)]) := by
        show _ = _
        rw [H.out.ct, hke, Nat.sub_self, List.take_zero, ct_nil]
      have hfn : (f : Int) ≤ n := by omega
      have hge : ¬ (k : Int) < n := by omega
      have HBL : Hid (Below w.heap.size w wr ∧ OwT wr w.heap.size v O) := ⟨H.out.bl, H.out.ow⟩
      clear H hke hk hf hki hfi hks hlt
      go_wp2_with (at_builtin; refine wpList_appT (by rfl) _ _ 22 (by rfl) Tryd.underlying22 w.heap.size v O (by rfl) wr.heap.size ((s.data.toList.drop f).take (n - f)) (by rfl) (by have := HO.out; omega) (by have := HBL.out.1.size; simp; omega) (HBL.out.2.alloc _) (by rw [World.cell?_alloc_new, ← extract_tx]; rfl) ?_; intro v2 w3 ho hg)
      have HN : Hid (OwT w3 w.heap.size v2 (flds s.data.toList) ∧ Below w.heap.size w w3) := ⟨by rw [HFL.out, HC.out]; exact ho, (HBL.out.1.alloc HBL.out.1.size _).grown hg (by have := HBL.out.1.size; simp; omega) (fun j e => (HBL.out.2.lt j e).1)⟩
      clear ho hg
      go_wp2
      go_ret2
      exact ⟨v2, rfl, HN⟩
end Go.Proofs.YthoilihokbakoaaDoor
