/- What number of package conf, and of the reference, returns. -/
import Derived.Test.YtchhcipoicpglaaDoorRows
import Derived.Test.YtchhcipoicpglaaDoorDAp
import Derived.WalkKit
import Derived.WalkSpells
import Derived.WalkLawsBesides
import Derived.WalkMore
import Derived.Handy
import Derived.Below
namespace Go.Proofs.YtchhcipoicpglaaDoor
open Go.RowKit
theorem take_snoc' (s : ByteArray) (k : Nat) (h : k < s.size) : s.data.toList.take (k + 1) = s.data.toList.take k ++ [s[k]] := by
  rw [List.take_succ_eq_append_getElem (by simpa using h)]; rfl
theorem mem_at (s : ByteArray) (k : Nat) (h : k < s.size) : s[k] ∈ s.data.toList := List.getElem_mem (by simpa using h)
theorem getD_first (s : ByteArray) (h : 0 < s.size) : s.data.toList.getD 0 0 = s[0] := by
  rw [List.getD_eq_getElem?_getD, List.getElem?_eq_getElem (by simpa using h)]; rfl
theorem num_no (s : ByteArray) (h : ¬ (1 ≤ s.size ∧ s.size ≤ 10 ∧ (s.size = 1 ∨ (s.data.toList.getD 0 0).toNat ≠ 48))) : Hid (nmB s.data.toList = false ∧ nmV s.data.toList = 0 ∧ nmR s.data.toList = -1) := by
  have e : nmB s.data.toList = false := by
    unfold nmB nfB
    rw [Bool.and_eq_false_iff]
    left
    rw [decide_eq_false_iff_not]
    exact h
  exact ⟨e, by unfold nmV; rw [e]; rfl, by unfold nmR; rw [e]; rfl⟩
set_option maxHeartbeats 1000000 in
theorem number_any (s : ByteArray) (w : World) :
    Calls Tryd.prog 9 #[.string s] w fun e w' => e = .returned (.tuple #[.int .i64 (nmV s.data.toList), .bool (nmB s.data.toList)]) ∧ w' = w := by
  by_cases h1 : s.size < 1
  · have h1i : (s.size : Int) < 1 := by omega
    have h0 : ((s.size : Int) == 0) = true := by rw [beq_iff_eq]; omega
    have HN := num_no s (fun h => by omega)
    clear h1
    go_enter Tryd.func9, Tryd.ntmps9
    go_wp2
    go_ret2
    exact ⟨by rw [HN.out.1, HN.out.2.1]; rfl, rfl⟩
  by_cases h10 : 10 < s.size
  · have h1i : ¬ (s.size : Int) < 1 := by omega
    have h0 : ((s.size : Int) == 0) = false := by rw [beq_eq_false_iff_ne]; omega
    have h2i : (10 : Int) < s.size := by omega
    have HN := num_no s (fun h => by omega)
    clear h1 h10
    go_enter Tryd.func9, Tryd.ntmps9
    go_wp2
    go_ret2
    exact ⟨by rw [HN.out.1, HN.out.2.1]; rfl, rfl⟩
  have h1i : ¬ (s.size : Int) < 1 := by omega
  have h2i : (s.size : Int) ≤ 10 := by omega
  have h0z : ((s.size : Int) == 0) = false := by rw [beq_eq_false_iff_ne]; omega
  have hp : 0 < s.size := by omega
  have hpi : (0 : Int) < s.size := by omega
  by_cases hz : 1 < s.size ∧ ((s[0]'hp).toNat : Int) = 48
  · have hzi : (1 : Int) < s.size := by omega
    have hb : ((s[0]'hp).toNat == 48) = true := by rw [beq_iff_eq]; omega
    have hb2 : (((s[0]'hp).toNat : Int) == 48) = true := by rw [beq_iff_eq]; exact hz.2
    have HN := num_no s (fun h => by have e := getD_first s hp; rw [e] at h; omega)
    clear h1 h10 hz
    go_enter Tryd.func9, Tryd.ntmps9
    go_wp2
    go_ret2
    exact ⟨by rw [HN.out.1, HN.out.2.1]; rfl, rfl⟩
  have HF : Hid (1 ≤ s.size ∧ s.size ≤ 10 ∧ (s.size = 1 ∨ (s.data.toList.getD 0 0).toNat ≠ 48)) := ⟨by omega, by omega, by rw [getD_first s hp]; omega⟩
  have hzz : (((s[0]'hp).toNat : Int) == 48) = true → ¬ (1 : Int) < s.size := fun e h => hz ⟨by omega, by rw [beq_iff_eq] at e; exact e⟩
  clear h1 h10 hz
  cases hB : (((s[0]'hp).toNat : Int) == 48)
  · clear hzz
    by_cases hz1 : (1 : Int) < s.size
    · exact (by
      go_enter Tryd.func9, Tryd.ntmps9
      go_wp2
      go_loop [4, 26] (fun n i => ∃ k : Nat, k ≤ s.size ∧ i = .int .i64 (k : Int) ∧ n = .int .i64 (vl (s.data.toList.take k)) ∧ Hid ((s.data.toList.take k).all dgB = true)) (fun _ i => s.size - (intOf i).toNat)
      case atStart => exact ⟨0, Nat.zero_le _, rfl, rfl, rfl⟩
      case round =>
        obtain ⟨k, hk, rfl, rfl, hA⟩ := hrel
        have hb := vl_bd _ hA.out
        have hpw : (10 : Int) ^ (s.data.toList.take k).length ≤ 10000000000 := pow_le10 (by have := HF.out; rw [List.length_take]; omega)
        have hb0 : 0 ≤ vl (s.data.toList.take k) := hb.1
        have hb1 : vl (s.data.toList.take k) < 10000000000 := by omega
        clear hb hpw
        by_cases hlt : k < s.size
        · have hlti : (k : Int) < s.size := by omega
          have hts := take_snoc' s k hlt
          cases hd : dgB s[k]
          · have HN : Hid (nmB s.data.toList = false) := by
              show _ = _
              cases hn : nmB s.data.toList with
              | false => rfl
              | true =>
                have := (nmB_t hn).2
                rw [List.all_eq_true] at this
                rw [this s[k] (mem_at s k hlt)] at hd
                cases hd
            have hd' := dgB_f hd
            have hd2 : (s[k].toNat : Int) < 48 ∨ 57 < (s[k].toNat : Int) := by omega
            clear hd hd' hts
            rcases hd2 with hd2 | hd2
            all_goals
              go_wp2
              go_ret2
              exact ⟨by unfold nmV; rw [HN.out]; rfl, rfl⟩
          · have hd' := dgB_t hd
            have hd2 : 48 ≤ (s[k].toNat : Int) := by omega
            have hd3 : (s[k].toNat : Int) ≤ 57 := by omega
            have HV : Hid (vl (s.data.toList.take (k + 1)) = vl (s.data.toList.take k) * 10 + ((s[k].toNat : Int) - 48)) := by show _ = _; rw [hts, vl_snoc]
            have HA : Hid ((s.data.toList.take (k + 1)).all dgB = true) := by show _ = _; rw [hts, all_snoc, hA.out, hd]; rfl
            clear hd hd' hts
            go_wp2
            refine ⟨⟨k + 1, by omega, by go_num, ?_, HA⟩, by simp [intOf]; omega⟩
            rw [HV.out]
        · have ht : s.data.toList.take k = s.data.toList := List.take_of_length_le (by simp; omega)
          have HN : Hid (nmB s.data.toList = true) := by
            show _ = _
            have hA' := hA.out
            rw [ht] at hA'
            unfold nmB nfB
            rw [hA', Bool.and_true, decide_eq_true_eq]
            exact HF.out
          rw [ht]
          clear ht
          go_wp2
          go_ret2
          exact ⟨by unfold nmV; rw [HN.out]; rfl, rfl⟩)
    · exact (by
      go_enter Tryd.func9, Tryd.ntmps9
      go_wp2
      go_loop [4, 26] (fun n i => ∃ k : Nat, k ≤ s.size ∧ i = .int .i64 (k : Int) ∧ n = .int .i64 (vl (s.data.toList.take k)) ∧ Hid ((s.data.toList.take k).all dgB = true)) (fun _ i => s.size - (intOf i).toNat)
      case atStart => exact ⟨0, Nat.zero_le _, rfl, rfl, rfl⟩
      case round =>
        obtain ⟨k, hk, rfl, rfl, hA⟩ := hrel
        have hb := vl_bd _ hA.out
        have hpw : (10 : Int) ^ (s.data.toList.take k).length ≤ 10000000000 := pow_le10 (by have := HF.out; rw [List.length_take]; omega)
        have hb0 : 0 ≤ vl (s.data.toList.take k) := hb.1
        have hb1 : vl (s.data.toList.take k) < 10000000000 := by omega
        clear hb hpw
        by_cases hlt : k < s.size
        · have hlti : (k : Int) < s.size := by omega
          have hts := take_snoc' s k hlt
          cases hd : dgB s[k]
          · have HN : Hid (nmB s.data.toList = false) := by
              show _ = _
              cases hn : nmB s.data.toList with
              | false => rfl
              | true =>
                have := (nmB_t hn).2
                rw [List.all_eq_true] at this
                rw [this s[k] (mem_at s k hlt)] at hd
                cases hd
            have hd' := dgB_f hd
            have hd2 : (s[k].toNat : Int) < 48 ∨ 57 < (s[k].toNat : Int) := by omega
            clear hd hd' hts
            rcases hd2 with hd2 | hd2
            all_goals
              go_wp2
              go_ret2
              exact ⟨by unfold nmV; rw [HN.out]; rfl, rfl⟩
          · have hd' := dgB_t hd
            have hd2 : 48 ≤ (s[k].toNat : Int) := by omega
            have hd3 : (s[k].toNat : Int) ≤ 57 := by omega
            have HV : Hid (vl (s.data.toList.take (k + 1)) = vl (s.data.toList.take k) * 10 + ((s[k].toNat : Int) - 48)) := by show _ = _; rw [hts, vl_snoc]
            have HA : Hid ((s.data.toList.take (k + 1)).all dgB = true) := by show _ = _; rw [hts, all_snoc, hA.out, hd]; rfl
            clear hd hd' hts
            go_wp2
            refine ⟨⟨k + 1, by omega, by go_num, ?_, HA⟩, by simp [intOf]; omega⟩
            rw [HV.out]
        · have ht : s.data.toList.take k = s.data.toList := List.take_of_length_le (by simp; omega)
          have HN : Hid (nmB s.data.toList = true) := by
            show _ = _
            have hA' := hA.out
            rw [ht] at hA'
            unfold nmB nfB
            rw [hA', Bool.and_true, decide_eq_true_eq]
            exact HF.out
          rw [ht]
          clear ht
          go_wp2
          go_ret2
          exact ⟨by unfold nmV; rw [HN.out]; rfl, rfl⟩)
  · have hz1 := hzz hB
    clear hzz
    exact (by
      go_enter Tryd.func9, Tryd.ntmps9
      go_wp2
      go_loop [4, 26] (fun n i => ∃ k : Nat, k ≤ s.size ∧ i = .int .i64 (k : Int) ∧ n = .int .i64 (vl (s.data.toList.take k)) ∧ Hid ((s.data.toList.take k).all dgB = true)) (fun _ i => s.size - (intOf i).toNat)
      case atStart => exact ⟨0, Nat.zero_le _, rfl, rfl, rfl⟩
      case round =>
        obtain ⟨k, hk, rfl, rfl, hA⟩ := hrel
        have hb := vl_bd _ hA.out
        have hpw : (10 : Int) ^ (s.data.toList.take k).length ≤ 10000000000 := pow_le10 (by have := HF.out; rw [List.length_take]; omega)
        have hb0 : 0 ≤ vl (s.data.toList.take k) := hb.1
        have hb1 : vl (s.data.toList.take k) < 10000000000 := by omega
        clear hb hpw
        by_cases hlt : k < s.size
        · have hlti : (k : Int) < s.size := by omega
          have hts := take_snoc' s k hlt
          cases hd : dgB s[k]
          · have HN : Hid (nmB s.data.toList = false) := by
              show _ = _
              cases hn : nmB s.data.toList with
              | false => rfl
              | true =>
                have := (nmB_t hn).2
                rw [List.all_eq_true] at this
                rw [this s[k] (mem_at s k hlt)] at hd
                cases hd
            have hd' := dgB_f hd
            have hd2 : (s[k].toNat : Int) < 48 ∨ 57 < (s[k].toNat : Int) := by omega
            clear hd hd' hts
            rcases hd2 with hd2 | hd2
            all_goals
              go_wp2
              go_ret2
              exact ⟨by unfold nmV; rw [HN.out]; rfl, rfl⟩
          · have hd' := dgB_t hd
            have hd2 : 48 ≤ (s[k].toNat : Int) := by omega
            have hd3 : (s[k].toNat : Int) ≤ 57 := by omega
            have HV : Hid (vl (s.data.toList.take (k + 1)) = vl (s.data.toList.take k) * 10 + ((s[k].toNat : Int) - 48)) := by show _ = _; rw [hts, vl_snoc]
            have HA : Hid ((s.data.toList.take (k + 1)).all dgB = true) := by show _ = _; rw [hts, all_snoc, hA.out, hd]; rfl
            clear hd hd' hts
            go_wp2
            refine ⟨⟨k + 1, by omega, by go_num, ?_, HA⟩, by simp [intOf]; omega⟩
            rw [HV.out]
        · have ht : s.data.toList.take k = s.data.toList := List.take_of_length_le (by simp; omega)
          have HN : Hid (nmB s.data.toList = true) := by
            show _ = _
            have hA' := hA.out
            rw [ht] at hA'
            unfold nmB nfB
            rw [hA', Bool.and_true, decide_eq_true_eq]
            exact HF.out
          rw [ht]
          clear ht
          go_wp2
          go_ret2
          exact ⟨by unfold nmV; rw [HN.out]; rfl, rfl⟩)
set_option maxHeartbeats 1000000 in
theorem rnumber_any (s : ByteArray) (w : World) :
    Calls Tryd.prog 11 #[.string s] w fun e w' => e = .returned (.int .i64 (nmR s.data.toList)) ∧ w' = w := by
  by_cases h1 : s.size < 1
  · have h1i : (s.size : Int) < 1 := by omega
    have h0 : ((s.size : Int) == 0) = true := by rw [beq_iff_eq]; omega
    have HN := num_no s (fun h => by omega)
    clear h1
    go_enter Tryd.func11, Tryd.ntmps11
    go_wp2
    go_ret
    exact ⟨by rw [HN.out.2.2]; rfl, rfl⟩
  by_cases h10 : 10 < s.size
  · have h1i : ¬ (s.size : Int) < 1 := by omega
    have h0 : ((s.size : Int) == 0) = false := by rw [beq_eq_false_iff_ne]; omega
    have h2i : (10 : Int) < s.size := by omega
    have HN := num_no s (fun h => by omega)
    clear h1 h10
    go_enter Tryd.func11, Tryd.ntmps11
    go_wp2
    go_ret
    exact ⟨by rw [HN.out.2.2]; rfl, rfl⟩
  have h1i : ¬ (s.size : Int) < 1 := by omega
  have h2i : (s.size : Int) ≤ 10 := by omega
  have h0z : ((s.size : Int) == 0) = false := by rw [beq_eq_false_iff_ne]; omega
  have hp : 0 < s.size := by omega
  have hpi : (0 : Int) < s.size := by omega
  by_cases hz : 1 < s.size ∧ ((s[0]'hp).toNat : Int) = 48
  · have hzi : (1 : Int) < s.size := by omega
    have hb : ((s[0]'hp).toNat == 48) = true := by rw [beq_iff_eq]; omega
    have hb2 : (((s[0]'hp).toNat : Int) == 48) = true := by rw [beq_iff_eq]; exact hz.2
    have HN := num_no s (fun h => by have e := getD_first s hp; rw [e] at h; omega)
    clear h1 h10 hz
    go_enter Tryd.func11, Tryd.ntmps11
    go_wp2
    go_ret
    exact ⟨by rw [HN.out.2.2]; rfl, rfl⟩
  have HF : Hid (1 ≤ s.size ∧ s.size ≤ 10 ∧ (s.size = 1 ∨ (s.data.toList.getD 0 0).toNat ≠ 48)) := ⟨by omega, by omega, by rw [getD_first s hp]; omega⟩
  have hzz : (((s[0]'hp).toNat : Int) == 48) = true → ¬ (1 : Int) < s.size := fun e h => hz ⟨by omega, by rw [beq_iff_eq] at e; exact e⟩
  clear h1 h10 hz
  cases hB : (((s[0]'hp).toNat : Int) == 48)
  · clear hzz
    by_cases hz1 : (1 : Int) < s.size
    · exact (by
      go_enter Tryd.func11, Tryd.ntmps11
      go_wp2
      go_loop [3, 4] (fun n i => ∃ k : Nat, k ≤ s.size ∧ i = .int .i64 (k : Int) ∧ n = .int .i64 (vl (s.data.toList.take k)) ∧ Hid ((s.data.toList.take k).all dgB = true)) (fun _ i => s.size - (intOf i).toNat)
      case atStart => exact ⟨0, Nat.zero_le _, rfl, rfl, rfl⟩
      case round =>
        obtain ⟨k, hk, rfl, rfl, hA⟩ := hrel
        have hb := vl_bd _ hA.out
        have hpw : (10 : Int) ^ (s.data.toList.take k).length ≤ 10000000000 := pow_le10 (by have := HF.out; rw [List.length_take]; omega)
        have hb0 : 0 ≤ vl (s.data.toList.take k) := hb.1
        have hb1 : vl (s.data.toList.take k) < 10000000000 := by omega
        clear hb hpw
        by_cases hlt : k < s.size
        · have hlti : (k : Int) < s.size := by omega
          have hts := take_snoc' s k hlt
          cases hd : dgB s[k]
          · have HN : Hid (nmB s.data.toList = false) := by
              show _ = _
              cases hn : nmB s.data.toList with
              | false => rfl
              | true =>
                have := (nmB_t hn).2
                rw [List.all_eq_true] at this
                rw [this s[k] (mem_at s k hlt)] at hd
                cases hd
            have hd' := dgB_f hd
            have hd2 : (s[k].toNat : Int) < 48 ∨ 57 < (s[k].toNat : Int) := by omega
            clear hd hd' hts
            rcases hd2 with hd2 | hd2
            all_goals
              go_wp2
              go_ret
              exact ⟨by unfold nmR; rw [HN.out]; rfl, rfl⟩
          · have hd' := dgB_t hd
            have hd2 : 48 ≤ (s[k].toNat : Int) := by omega
            have hd3 : (s[k].toNat : Int) ≤ 57 := by omega
            have HV : Hid (vl (s.data.toList.take (k + 1)) = vl (s.data.toList.take k) * 10 + ((s[k].toNat : Int) - 48)) := by show _ = _; rw [hts, vl_snoc]
            have HA : Hid ((s.data.toList.take (k + 1)).all dgB = true) := by show _ = _; rw [hts, all_snoc, hA.out, hd]; rfl
            clear hd hd' hts
            go_wp2
            refine ⟨⟨k + 1, by omega, by go_num, ?_, HA⟩, by simp [intOf]; omega⟩
            rw [HV.out]
        · have ht : s.data.toList.take k = s.data.toList := List.take_of_length_le (by simp; omega)
          have HN : Hid (nmB s.data.toList = true) := by
            show _ = _
            have hA' := hA.out
            rw [ht] at hA'
            unfold nmB nfB
            rw [hA', Bool.and_true, decide_eq_true_eq]
            exact HF.out
          rw [ht]
          clear ht
          go_wp2
          go_ret
          exact ⟨by unfold nmR; rw [HN.out]; rfl, rfl⟩)
    · exact (by
      go_enter Tryd.func11, Tryd.ntmps11
      go_wp2
      go_loop [3, 4] (fun n i => ∃ k : Nat, k ≤ s.size ∧ i = .int .i64 (k : Int) ∧ n = .int .i64 (vl (s.data.toList.take k)) ∧ Hid ((s.data.toList.take k).all dgB = true)) (fun _ i => s.size - (intOf i).toNat)
      case atStart => exact ⟨0, Nat.zero_le _, rfl, rfl, rfl⟩
      case round =>
        obtain ⟨k, hk, rfl, rfl, hA⟩ := hrel
        have hb := vl_bd _ hA.out
        have hpw : (10 : Int) ^ (s.data.toList.take k).length ≤ 10000000000 := pow_le10 (by have := HF.out; rw [List.length_take]; omega)
        have hb0 : 0 ≤ vl (s.data.toList.take k) := hb.1
        have hb1 : vl (s.data.toList.take k) < 10000000000 := by omega
        clear hb hpw
        by_cases hlt : k < s.size
        · have hlti : (k : Int) < s.size := by omega
          have hts := take_snoc' s k hlt
          cases hd : dgB s[k]
          · have HN : Hid (nmB s.data.toList = false) := by
              show _ = _
              cases hn : nmB s.data.toList with
              | false => rfl
              | true =>
                have := (nmB_t hn).2
                rw [List.all_eq_true] at this
                rw [this s[k] (mem_at s k hlt)] at hd
                cases hd
            have hd' := dgB_f hd
            have hd2 : (s[k].toNat : Int) < 48 ∨ 57 < (s[k].toNat : Int) := by omega
            clear hd hd' hts
            rcases hd2 with hd2 | hd2
            all_goals
              go_wp2
              go_ret
              exact ⟨by unfold nmR; rw [HN.out]; rfl, rfl⟩
          · have hd' := dgB_t hd
            have hd2 : 48 ≤ (s[k].toNat : Int) := by omega
            have hd3 : (s[k].toNat : Int) ≤ 57 := by omega
            have HV : Hid (vl (s.data.toList.take (k + 1)) = vl (s.data.toList.take k) * 10 + ((s[k].toNat : Int) - 48)) := by show _ = _; rw [hts, vl_snoc]
            have HA : Hid ((s.data.toList.take (k + 1)).all dgB = true) := by show _ = _; rw [hts, all_snoc, hA.out, hd]; rfl
            clear hd hd' hts
            go_wp2
            refine ⟨⟨k + 1, by omega, by go_num, ?_, HA⟩, by simp [intOf]; omega⟩
            rw [HV.out]
        · have ht : s.data.toList.take k = s.data.toList := List.take_of_length_le (by simp; omega)
          have HN : Hid (nmB s.data.toList = true) := by
            show _ = _
            have hA' := hA.out
            rw [ht] at hA'
            unfold nmB nfB
            rw [hA', Bool.and_true, decide_eq_true_eq]
            exact HF.out
          rw [ht]
          clear ht
          go_wp2
          go_ret
          exact ⟨by unfold nmR; rw [HN.out]; rfl, rfl⟩)
  · have hz1 := hzz hB
    clear hzz
    exact (by
      go_enter Tryd.func11, Tryd.ntmps11
      go_wp2
      go_loop [3, 4] (fun n i => ∃ k : Nat, k ≤ s.size ∧ i = .int .i64 (k : Int) ∧ n = .int .i64 (vl (s.data.toList.take k)) ∧ Hid ((s.data.toList.take k).all dgB = true)) (fun _ i => s.size - (intOf i).toNat)
      case atStart => exact ⟨0, Nat.zero_le _, rfl, rfl, rfl⟩
      case round =>
        obtain ⟨k, hk, rfl, rfl, hA⟩ := hrel
        have hb := vl_bd _ hA.out
        have hpw : (10 : Int) ^ (s.data.toList.take k).length ≤ 10000000000 := pow_le10 (by have := HF.out; rw [List.length_take]; omega)
        have hb0 : 0 ≤ vl (s.data.toList.take k) := hb.1
        have hb1 : vl (s.data.toList.take k) < 10000000000 := by omega
        clear hb hpw
        by_cases hlt : k < s.size
        · have hlti : (k : Int) < s.size := by omega
          have hts := take_snoc' s k hlt
          cases hd : dgB s[k]
          · have HN : Hid (nmB s.data.toList = false) := by
              show _ = _
              cases hn : nmB s.data.toList with
              | false => rfl
              | true =>
                have := (nmB_t hn).2
                rw [List.all_eq_true] at this
                rw [this s[k] (mem_at s k hlt)] at hd
                cases hd
            have hd' := dgB_f hd
            have hd2 : (s[k].toNat : Int) < 48 ∨ 57 < (s[k].toNat : Int) := by omega
            clear hd hd' hts
            rcases hd2 with hd2 | hd2
            all_goals
              go_wp2
              go_ret
              exact ⟨by unfold nmR; rw [HN.out]; rfl, rfl⟩
          · have hd' := dgB_t hd
            have hd2 : 48 ≤ (s[k].toNat : Int) := by omega
            have hd3 : (s[k].toNat : Int) ≤ 57 := by omega
            have HV : Hid (vl (s.data.toList.take (k + 1)) = vl (s.data.toList.take k) * 10 + ((s[k].toNat : Int) - 48)) := by show _ = _; rw [hts, vl_snoc]
            have HA : Hid ((s.data.toList.take (k + 1)).all dgB = true) := by show _ = _; rw [hts, all_snoc, hA.out, hd]; rfl
            clear hd hd' hts
            go_wp2
            refine ⟨⟨k + 1, by omega, by go_num, ?_, HA⟩, by simp [intOf]; omega⟩
            rw [HV.out]
        · have ht : s.data.toList.take k = s.data.toList := List.take_of_length_le (by simp; omega)
          have HN : Hid (nmB s.data.toList = true) := by
            show _ = _
            have hA' := hA.out
            rw [ht] at hA'
            unfold nmB nfB
            rw [hA', Bool.and_true, decide_eq_true_eq]
            exact HF.out
          rw [ht]
          clear ht
          go_wp2
          go_ret
          exact ⟨by unfold nmR; rw [HN.out]; rfl, rfl⟩)
end Go.Proofs.YtchhcipoicpglaaDoor
