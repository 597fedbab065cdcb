/- The reference's sorted. -/
import Derived.Test.YtgkjgkdlcmmpoaaFO
namespace Go.Proofs.Ytgkjgkdlcmmpoaa
open Go Go.RowKit Fi
theorem O4.below {w w' : World} {B C : Nat} {v : Value} {xs : List Smp} (h : O4 w B v xs) (hb : Below C w w') (hC : w.heap.size ≤ C) : O4 w' B v xs := OR.below h hb hC
/-- where it goes, looked for from the beginning -/
theorem ins_fwd {l : List Smp} (s : Smp) (hu : Up l) (k : Nat) (hk : k ≤ l.length) (hd : ∀ j (_ : j < l.length), j < k → l[j].d ≤ s.d) (h0 : ∀ (_ : k < l.length), s.d < l[k].d) : ins l s = l.take k ++ s :: l.drop k := by
  refine ins_at s hu k hk (fun j hj hkj => ?_) (fun h => hd (k - 1) (by omega) (by omega))
  have h1 := h0 (by omega)
  rcases Nat.lt_or_ge k j with h2 | h2
  · have := List.pairwise_iff_getElem.1 hu k j (by omega) hj h2
    omega
  · have e : j = k := by omega
    subst e
    exact h1
set_option maxRecDepth 20000 in
set_option maxHeartbeats 1000000 in
theorem rsorted_any (v : Value) (C : Nat) (xs : List Smp) (w : World) (h : Sv4 w C v xs) (hl : xs.length ≤ 8) :
    Calls Try.prog 21 #[v] w fun e w' => ∃ v', e = .returned v' ∧ O4 w' w.heap.size v' (srt xs) ∧ Below w.heap.size w w' := by
  have HS : Hid (Sv4 w C v xs ∧ xs.length ≤ 8) := ⟨h, hl⟩
  have hlv := h.len
  obtain ⟨n, hn⟩ : ∃ n, n = xs.length := ⟨_, rfl⟩
  rw [← hn] at hlv
  have HN : Hid (n = xs.length) := hn
  have hn8 : (n : Int) ≤ 8 := by omega
  obtain ⟨vo, vn, vc, rfl⟩ : ∃ ao n cap, v = .slice ao n cap := by obtain ⟨ao, cap, e, _⟩ := h.ex; exact ⟨ao, _, cap, e⟩
  clear h hl hn
  go_enter Try.func21, Try.ntmps21
  refine post_hid fun Q hQ => ?_
  go_wp2
  go_loopw [3, 4] (fun o i wr => ∃ (k : Nat), i = .int .i64 k ∧ (k : Int) ≤ n ∧ Hid (O4 wr w.heap.size o (srt (xs.take k)) ∧ Below w.heap.size w wr)) (fun _ i _ => n - (intOf i).toNat)
  case atStart => exact ⟨0, rfl, by omega, ⟨o4_fresh w _ (Nat.le_refl _), (Below.refl _ _).alloc (Nat.le_refl _) _⟩⟩
  case round =>
    obtain ⟨k, rfl, hk, HK⟩ := hrel
    obtain ⟨wa, hwa⟩ : ∃ wa, wa = wr := ⟨_, rfl⟩
    subst hwa
    obtain ⟨ov, hov⟩ : ∃ ov, ov = u3 := ⟨_, rfl⟩
    subst hov
    obtain ⟨oo, on, oc, rfl⟩ : ∃ ao n cap, ov = .slice ao n cap := by obtain ⟨ao, cap, e, _⟩ := HK.out.1.sv.ex; exact ⟨ao, _, cap, e⟩
    by_cases hlt : (k : Int) < n
    · have hkx : k < xs.length := by have := HN.out; omega
      obtain ⟨al, hixl, hab, hac⟩ := (HS.out.1.below HK.out.2 (Nat.le_refl _)).at k hkx
      have hab' : al.block < w.heap.size := by
        obtain ⟨al', h1, h2, h3⟩ := HS.out.1.at k hkx
        have e := (hixl w).symm.trans (h1 w)
        injection e with e _
        injection e with e
        injection e with e
        rw [e]; exact h2.2
      have HX : Hid (srt (xs.take (k + 1)) = ins (srt (xs.take k)) (xs.getD k z0) ∧ (srt (xs.take k)).length = k) := by
        refine ⟨?_, by rw [srt_len, List.length_take]; omega⟩
        rw [List.take_succ_eq_append_getElem hkx, srt_snoc, getD_lt xs k hkx]
      obtain ⟨y, hy⟩ : ∃ y, y = xs.getD k z0 := ⟨_, rfl⟩
      rw [← hy] at hac HX
      obtain ⟨so, sd, sp, sa⟩ := y
      have HL : Hid ((∀ j u, ([.int .i64 so, .int .i64 sd, .int .i64 sp, .int .u64 sa] : List Value)[j]? = some u → wa.cell? (al.add j) = some u) ∧ al.block < w.heap.size) := ⟨hac, hab'⟩
      have hlo := HK.out.1.sv.len
      rw [HX.out.2] at hlo
      clear hac hab hab' hkx hy
      go_wp2
      go_loopw [5] (fun j wi => ∃ (m : Nat), j = .int .i64 m ∧ (m : Int) ≤ k ∧ Hid ((∀ i, i < m → ((srt (xs.take k)).getD i z0).d ≤ sd) ∧ O4 wi w.heap.size (.slice oo on oc) (srt (xs.take k)) ∧ Below w.heap.size w wi ∧ Below wa.heap.size wa wi)) (fun j _ => k - (intOf j).toNat)
      case atStart => exact ⟨0, rfl, by omega, ⟨fun i hi => by omega, HK.out.1, HK.out.2, Below.refl _ _⟩⟩
      case round =>
        obtain ⟨m, rfl, hm, HM⟩ := hrel
        have cl : wr.cell? ⟨al.block, al.off + 1, none⟩ = some (.int .i64 sd) := (HM.out.2.2.2.cell (p := al.add 1) (by rw [add_block]; have := HL.out.2; have := HK.out.2.size; omega)).trans (HL.out.1 1 _ rfl)
        by_cases hmk : (m : Int) < k
        · have hml : m < (srt (xs.take k)).length := by rw [HX.out.2]; omega
          obtain ⟨ao, hixo, hab, hac⟩ := HM.out.2.1.sv.at m hml
          obtain ⟨y, hy⟩ : ∃ y, y = (srt (xs.take k)).getD m z0 := ⟨_, rfl⟩
          rw [← hy] at hac
          have co : wr.cell? ⟨ao.block, ao.off + 1, none⟩ = some (.int .i64 y.d) := hac 1 _ rfl
          by_cases hd : y.d ≤ sd
          · have HM2 : Hid (∀ i, i < m + 1 → ((srt (xs.take k)).getD i z0).d ≤ sd) := fun i hi => by
              rcases Nat.lt_or_ge i m with h1 | h1
              · exact HM.out.1 i h1
              · have e : i = m := by omega
                rw [e, ← hy]; exact hd
            clear hac hab hml hy
            go_wp2_with fail
            go_quiet (fail)
            go_wp2_with fail
            go_roundw
            case rel => exact ⟨m + 1, by go_num, by omega, ⟨HM2.out, OR.drewN HM.out.2.1 _, below_dr HM.out.2.2.1 _, below_dr HM.out.2.2.2 _⟩⟩
            case measure => simp [intOf]; omega
          · have HEX : Hid (ins (srt (xs.take k)) ⟨so, sd, sp, sa⟩ = (srt (xs.take k)).take m ++ ⟨so, sd, sp, sa⟩ :: (srt (xs.take k)).drop m) := by
              refine ins_fwd _ (srt_up _) m (by omega) (fun j hj h1 => ?_) (fun h => ?_)
              · have := HM.out.1 j h1; rw [getD_lt _ _ hj] at this; exact this
              · rw [hy, getD_lt _ _ hml] at hd; show sd < _; omega
            clear hac hab hml hy
            go_wp2_with fail
            go_quiet (fail)
            obtain ⟨U, hU⟩ : ∃ U, U = wr.drewN nq := ⟨_, rfl⟩
            rw [← hU]
            have HU : Hid (O4 U w.heap.size (.slice oo on oc) (srt (xs.take k)) ∧ Below w.heap.size w U ∧ (∀ j u, ([.int .i64 so, .int .i64 sd, .int .i64 sp, .int .u64 sa] : List Value)[j]? = some u → U.cell? (al.add j) = some u) ∧ al.block < U.heap.size) := by
              rw [hU]
              refine ⟨OR.drewN HM.out.2.1 _, below_dr HM.out.2.2.1 _, fun j u hu => ?_, ?_⟩
              · exact (HM.out.2.2.2.cell (p := al.add j) (by rw [add_block]; have := HL.out.2; have := HK.out.2.size; omega)).trans (HL.out.1 j u hu)
              · have h1 := HL.out.2; have h2 := HM.out.2.2.1.size; exact Nat.lt_of_lt_of_le h1 h2
            clear hU cl co
            have hU0 := HU.out.1
            have hA : O4 (U.alloc (.cells #[] 27)) U.heap.size (.slice (some ⟨U.heap.size, 0, none⟩) 0 0) [] := o4_fresh U _ (Nat.le_refl _)
            obtain ⟨v1, hs1, hv1⟩ := HU.out.1.sv.take m (by have := HX.out.2; omega)
            obtain ⟨v5, hs5, hv5⟩ := HU.out.1.sv.drop m (by have := HX.out.2; omega)
            have bA : Below U.heap.size U (U.alloc (.cells #[] 27)) := (Below.refl _ _).alloc (Nat.le_refl _) _
            obtain ⟨v2, U2, hr1, ho2, hb2⟩ := run_app4 (U.alloc (.cells #[] 27)) U.heap.size w.heap.size _ v1 _ _ hA (hv1.below bA (Nat.le_refl _)) (by rw [List.length_take]; have := HX.out.2; simp; omega) (by simp)
            have b2 : Below U.heap.size U U2 := bA.trans hb2
            obtain ⟨v4, U4, hr2, ho4, hb4⟩ := run_app4 (U2.alloc (.cells (smL ⟨so, sd, sp, sa⟩).toArray 27)) U.heap.size _ v2 _ _ _ (OR.alloc ho2 _) (sv_one U2 ⟨so, sd, sp, sa⟩) (by simp; have := HX.out.2; omega) (by have := b2.size; simp; omega)
            have b4 : Below U.heap.size U U4 := (b2.alloc b2.size _).trans hb4
            obtain ⟨v6, U6, hr3, ho6, hb6⟩ := run_app4 U4 U.heap.size w.heap.size v4 v5 _ _ ho4 (hv5.below b4 (Nat.le_refl _)) (by simp; have := HX.out.2; omega) b4.size
            have b6 : Below U.heap.size U U6 := b4.trans hb6
            have HR1 : Hid _ := hr1
            have HR2 : Hid ((Builtin.append_ #[22, 22] 22 #[v2, .slice (some ⟨U2.heap.size, 0, none⟩) 1 1]).run Try.prog (U2.alloc (.cells #[.int .i64 so, .int .i64 sd, .int .i64 sp, .int .u64 sa] 27)) = .ok v4 U4) := hr2
            have HR3 : Hid _ := hr3
            have HCl : Hid (∀ j u, ([.int .i64 so, .int .i64 sd, .int .i64 sp, .int .u64 sa] : List Value)[j]? = some u → U2.cell? (al.add j) = some u) := fun j u hu => (b2.cell (p := al.add j) (by rw [add_block]; exact HU.out.2.2.2)).trans (HU.out.2.2.1 j u hu)
            have HE : Hid (O4 U6 w.heap.size v6 (srt (xs.take (k + 1))) ∧ Below w.heap.size w U6) := by
              refine ⟨?_, HU.out.2.1.trans (b6.mono HU.out.2.1.size)⟩
              rw [HX.out.1, HEX.out]
              have e : [] ++ (srt (xs.take k)).take m ++ [(⟨so, sd, sp, sa⟩ : Smp)] ++ (srt (xs.take k)).drop m = (srt (xs.take k)).take m ++ ⟨so, sd, sp, sa⟩ :: (srt (xs.take k)).drop m := by simp
              rw [e] at ho6
              exact OR.mono ho6 HU.out.2.1.size
            clear hU0 hA hv1 hv5 bA hr1 ho2 hb2 b2 hr2 ho4 hb4 b4 hr3 ho6 hb6 b6
            go_wp2_with (first | (refine step_ldat 27 _ rfl rfl al (by rfl) [.int .i64 so, .int .i64 sd, .int .i64 sp, .int .u64 sa] _ Try.underlying27 rfl (by kernel_rfl) HCl.out ?_) | (at_builtin; refine wpList_app4 rfl _ _ rfl rfl _ _ _ (by rfl) (by rfl) HR1.out ?_) | (at_builtin; refine wpList_app4 rfl _ _ rfl rfl _ _ _ (by rfl) (by rfl) HR2.out ?_) | (at_builtin; refine wpList_app4 rfl _ _ rfl rfl _ _ _ (by rfl) (by rfl) HR3.out ?_))
            go_roundw
            case rel => exact ⟨k + 1, by go_num, by omega, HE⟩
            case measure => simp [intOf]; omega
        · have hmk' : m = k := by omega
          subst hmk'
          have HEX : Hid (ins (srt (xs.take m)) ⟨so, sd, sp, sa⟩ = (srt (xs.take m)).take m ++ ⟨so, sd, sp, sa⟩ :: (srt (xs.take m)).drop m) := by
            refine ins_fwd _ (srt_up _) m (by have := HX.out.2; omega) (fun j hj h1 => ?_) (fun h => by have := HX.out.2; omega)
            have := HM.out.1 j h1; rw [getD_lt _ _ hj] at this; exact this
          go_wp2_with fail
          go_quiet (fail)
          obtain ⟨U, hU⟩ : ∃ U, U = wr.drewN nq := ⟨_, rfl⟩
          rw [← hU]
          have HU : Hid (O4 U w.heap.size (.slice oo on oc) (srt (xs.take m)) ∧ Below w.heap.size w U ∧ (∀ j u, ([.int .i64 so, .int .i64 sd, .int .i64 sp, .int .u64 sa] : List Value)[j]? = some u → U.cell? (al.add j) = some u) ∧ al.block < U.heap.size) := by
            rw [hU]
            refine ⟨OR.drewN HM.out.2.1 _, below_dr HM.out.2.2.1 _, fun j u hu => ?_, ?_⟩
            · exact (HM.out.2.2.2.cell (p := al.add j) (by rw [add_block]; have := HL.out.2; have := HK.out.2.size; omega)).trans (HL.out.1 j u hu)
            · have h1 := HL.out.2; have h2 := HM.out.2.2.1.size; exact Nat.lt_of_lt_of_le h1 h2
          clear hU cl
          have hU0 := HU.out.1
          have hA : O4 (U.alloc (.cells #[] 27)) U.heap.size (.slice (some ⟨U.heap.size, 0, none⟩) 0 0) [] := o4_fresh U _ (Nat.le_refl _)
          obtain ⟨v1, hs1, hv1⟩ := HU.out.1.sv.take m (by have := HX.out.2; omega)
          obtain ⟨v5, hs5, hv5⟩ := HU.out.1.sv.drop m (by have := HX.out.2; omega)
          have bA : Below U.heap.size U (U.alloc (.cells #[] 27)) := (Below.refl _ _).alloc (Nat.le_refl _) _
          obtain ⟨v2, U2, hr1, ho2, hb2⟩ := run_app4 (U.alloc (.cells #[] 27)) U.heap.size w.heap.size _ v1 _ _ hA (hv1.below bA (Nat.le_refl _)) (by rw [List.length_take]; have := HX.out.2; simp; omega) (by simp)
          have b2 : Below U.heap.size U U2 := bA.trans hb2
          obtain ⟨v4, U4, hr2, ho4, hb4⟩ := run_app4 (U2.alloc (.cells (smL ⟨so, sd, sp, sa⟩).toArray 27)) U.heap.size _ v2 _ _ _ (OR.alloc ho2 _) (sv_one U2 ⟨so, sd, sp, sa⟩) (by simp; have := HX.out.2; omega) (by have := b2.size; simp; omega)
          have b4 : Below U.heap.size U U4 := (b2.alloc b2.size _).trans hb4
          obtain ⟨v6, U6, hr3, ho6, hb6⟩ := run_app4 U4 U.heap.size w.heap.size v4 v5 _ _ ho4 (hv5.below b4 (Nat.le_refl _)) (by simp; have := HX.out.2; omega) b4.size
          have b6 : Below U.heap.size U U6 := b4.trans hb6
          have HR1 : Hid _ := hr1
          have HR2 : Hid ((Builtin.append_ #[22, 22] 22 #[v2, .slice (some ⟨U2.heap.size, 0, none⟩) 1 1]).run Try.prog (U2.alloc (.cells #[.int .i64 so, .int .i64 sd, .int .i64 sp, .int .u64 sa] 27)) = .ok v4 U4) := hr2
          have HR3 : Hid _ := hr3
          have HCl : Hid (∀ j u, ([.int .i64 so, .int .i64 sd, .int .i64 sp, .int .u64 sa] : List Value)[j]? = some u → U2.cell? (al.add j) = some u) := fun j u hu => (b2.cell (p := al.add j) (by rw [add_block]; exact HU.out.2.2.2)).trans (HU.out.2.2.1 j u hu)
          have HE : Hid (O4 U6 w.heap.size v6 (srt (xs.take (m + 1))) ∧ Below w.heap.size w U6) := by
            refine ⟨?_, HU.out.2.1.trans (b6.mono HU.out.2.1.size)⟩
            rw [HX.out.1, HEX.out]
            have e : [] ++ (srt (xs.take m)).take m ++ [(⟨so, sd, sp, sa⟩ : Smp)] ++ (srt (xs.take m)).drop m = (srt (xs.take m)).take m ++ ⟨so, sd, sp, sa⟩ :: (srt (xs.take m)).drop m := by simp
            rw [e] at ho6
            exact OR.mono ho6 HU.out.2.1.size
          clear hU0 hA hv1 hv5 bA hr1 ho2 hb2 b2 hr2 ho4 hb4 b4 hr3 ho6 hb6 b6
          go_wp2_with (first | (refine step_ldat 27 _ rfl rfl al (by rfl) [.int .i64 so, .int .i64 sd, .int .i64 sp, .int .u64 sa] _ Try.underlying27 rfl (by kernel_rfl) HCl.out ?_) | (at_builtin; refine wpList_app4 rfl _ _ rfl rfl _ _ _ (by rfl) (by rfl) HR1.out ?_) | (at_builtin; refine wpList_app4 rfl _ _ rfl rfl _ _ _ (by rfl) (by rfl) HR2.out ?_) | (at_builtin; refine wpList_app4 rfl _ _ rfl rfl _ _ _ (by rfl) (by rfl) HR3.out ?_))
          go_roundw
          case rel => exact ⟨m + 1, by go_num, by omega, HE⟩
          case measure => simp [intOf]; omega
    · have hkn : k = n := by omega
      subst hkn
      have HE : Hid (O4 wa w.heap.size (.slice oo on oc) (srt xs) ∧ Below w.heap.size w wa) := ⟨by have := HK.out.1; rw [HN.out, List.take_length] at this; exact this, HK.out.2⟩
      go_wp2_with fail
      rw [hQ.out]
      go_ret
      exact ⟨_, rfl, HE.out⟩
end Go.Proofs.Ytgkjgkdlcmmpoaa
