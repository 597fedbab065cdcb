/- clock: New of both. -/
import Derived.Test.YtdmaaigchfgmdaaCkF
import Derived.Test.YtdmaaigchfgmdaaBigL
import Derived.Test.YtdmaaigchfgmdaaBigK
namespace Go.Proofs.Ytdmaaigchfgmdaa
open Go Go.RowKit Go.Sort
set_option linter.unusedVariables false
/-- a clock just made -/
structure Nl (w w' : World) (p : Nat) (s : Cs) : Prop where
  po : Po w' p s
  be : Below w.heap.size w w'
  hp : w.heap.size ≤ p
structure Nr (w w' : World) (q : Nat) (s : Cs) : Prop where
  rp : Rp w' q s
  be : Below w.heap.size w w'
  hq : w.heap.size ≤ q
def nwE (era : Int) : Int := if era < -1000 ∨ 1000 < era then 0 else era
theorem nw_csL (era at' off rate : Int) (h0 : 0 ≤ at') (h1 : at' < 18446744073709551616) : csL (newS era at' off rate) = [.int .i64 (nwE era), .int .u64 at', .int .i64 (sv off), .int .i64 (cf rate), .int .i64 0, .int .i64 0, .int .i64 0, .int .i64 0] := by
  have e : newS era at' off rate = ⟨nwE era * 18446744073709551616 + at', sv off, cf rate, 0, 0, 0, 0⟩ := rfl
  rw [e]
  unfold csL
  simp only
  rw [show eraI (nwE era * 18446744073709551616 + at') = nwE era from by unfold eraI; omega, show atI (nwE era * 18446744073709551616 + at') = at' from by unfold atI; omega]
set_option maxRecDepth 20000 in
set_option maxHeartbeats 2000000 in
theorem new_any (era at' off rate : Int) (w : World) (h0 : 0 ≤ at') (h1 : at' < 18446744073709551616) : Calls Try.prog 7 #[.agg #[.int .i64 era, .int .u64 at'], .int .i64 off, .int .i64 rate] w fun e w' => ∃ p, e = .returned (.pointer (some ⟨p, 0, none⟩)) ∧ Nl w w' p (newS era at' off rate) := by
  obtain ⟨B, hB⟩ : ∃ B, nwE era = B := ⟨_, rfl⟩
  obtain ⟨O, hO⟩ : ∃ B, sv off = B := ⟨_, rfl⟩
  obtain ⟨C, hC⟩ : ∃ B, cf rate = B := ⟨_, rfl⟩
  have HX : Hid (csL (newS era at' off rate) = [.int .i64 B, .int .u64 at', .int .i64 O, .int .i64 C, .int .i64 0, .int .i64 0, .int .i64 0, .int .i64 0]) := by
    show _ = _
    rw [nw_csL _ _ _ _ h0 h1, hB, hO, hC]
  have K1 : Hid (∀ u, Calls Try.prog 25 #[.int .i64 off, .int .i64 4611686018427387904] u fun e w' => e = .returned (.int .i64 O) ∧ w' = u) := fun u => by rw [← hO]; exact clampM_any _ _
  have K2 : Hid (∀ u, Calls Try.prog 26 #[.int .i64 rate] u fun e w' => e = .returned (.int .i64 C) ∧ w' = u) := fun u => by rw [← hC]; exact cut_any _ _
  have E0 : Hid (era < -1000 → B = 0) := fun h => by rw [← hB]; unfold nwE; rw [if_pos (Or.inl h)]
  have E1 : Hid (1000 < era → B = 0) := fun h => by rw [← hB]; unfold nwE; rw [if_pos (Or.inr h)]
  have E2 : Hid (¬ era < -1000 → ¬ 1000 < era → B = era) := fun h h' => by rw [← hB]; unfold nwE; rw [if_neg (by omega)]
  clear hB hO hC h0 h1
  go_enter Try.func7, Try.ntmps7
  refine post_hid fun Q hQ => ?_
  refine seq_hid fun R hR => ?_
  go_wp2_with (first
    | (refine step_boxL (by rfl) 25 _ rfl #[.int .i64 era, .int .u64 at'] (by rfl) (fun u => by rfl) ?_; intro W1 g1 H1))
  rw [hR.out]
  clear hR
  have c0 : W1.cell? ⟨g1, 0, none⟩ = some (.int .i64 era) := H1.out.bk.cell 0
  have f0 : W1.frozen? ⟨g1, 0, none⟩ = false := H1.out.bk.frozen 0
  have HE : Hid (era < -1000 ∨ 1000 < era ∨ ¬ era < -1000 ∧ ¬ 1000 < era) := by show _ ∨ _; omega
  refine seq_hid fun R hR => ?_
  rcases HE.out with hc | hc | ⟨hc, hc'⟩
  · go_wp2_with fail
    refine world_hid fun W2 hW2 => ?_
    have HG : Hid (Bk g1 W2 #[.int .i64 B, .int .u64 at'] 25 ∧ Below w.heap.size w W2) := by
      rw [hW2.out, E0.out hc]
      exact ⟨(H1.out.bk.set (j := 0) (.int .i64 0)), H1.out.be.setCell (by show _ ≤ g1; rw [H1.out.at']; exact Nat.le_refl _) _⟩
    clear hW2 HE E0 E1 E2 H1 c0 f0
    rw [hR.out]
    clear hR
    have c0 : W2.cell? ⟨g1, 0, none⟩ = some (.int .i64 B) := HG.out.1.cell 0
    have c1 : W2.cell? ⟨g1, 1, none⟩ = some (.int .u64 at') := HG.out.1.cell 1
    go_wp2_with fail
    go_region_held3 (fun w' => w'.cell? ⟨g1, 0, none⟩ = some (.int .i64 B) ∧ w'.cell? ⟨g1, 1, none⟩ = some (.int .u64 at')) (first | exact ⟨c0, c1⟩ | go_keep) (first | (go_at_call 25; refine (K1.out _).mono ?_; rintro e w' ⟨rfl, hw⟩; rw [hw]; clear hw) | (go_at_call 26; refine (K2.out _).mono ?_; rintro e w' ⟨rfl, hw⟩; rw [hw]; clear hw))
    go_wp2_with fail
    rw [hQ.out]
    go_ret
    refine ⟨_, rfl, ?_, ?_, HG.out.2.size⟩
    · show Bk _ _ _ _
      rw [HX.out]
      exact Bk.new _ _ _
    · exact HG.out.2.drew.alloc HG.out.2.size _
  · have hd : ¬ era < -1000 := by omega
    go_wp2_with fail
    refine world_hid fun W2 hW2 => ?_
    have HG : Hid (Bk g1 W2 #[.int .i64 B, .int .u64 at'] 25 ∧ Below w.heap.size w W2) := by
      rw [hW2.out, E1.out hc]
      exact ⟨(H1.out.bk.set (j := 0) (.int .i64 0)), H1.out.be.setCell (by show _ ≤ g1; rw [H1.out.at']; exact Nat.le_refl _) _⟩
    clear hW2 HE E0 E1 E2 H1 c0 f0
    rw [hR.out]
    clear hR
    have c0 : W2.cell? ⟨g1, 0, none⟩ = some (.int .i64 B) := HG.out.1.cell 0
    have c1 : W2.cell? ⟨g1, 1, none⟩ = some (.int .u64 at') := HG.out.1.cell 1
    go_wp2_with fail
    go_region_held3 (fun w' => w'.cell? ⟨g1, 0, none⟩ = some (.int .i64 B) ∧ w'.cell? ⟨g1, 1, none⟩ = some (.int .u64 at')) (first | exact ⟨c0, c1⟩ | go_keep) (first | (go_at_call 25; refine (K1.out _).mono ?_; rintro e w' ⟨rfl, hw⟩; rw [hw]; clear hw) | (go_at_call 26; refine (K2.out _).mono ?_; rintro e w' ⟨rfl, hw⟩; rw [hw]; clear hw))
    go_wp2_with fail
    rw [hQ.out]
    go_ret
    refine ⟨_, rfl, ?_, ?_, HG.out.2.size⟩
    · show Bk _ _ _ _
      rw [HX.out]
      exact Bk.new _ _ _
    · exact HG.out.2.drew.alloc HG.out.2.size _
  · go_wp2_with fail
    refine world_hid fun W2 hW2 => ?_
    have HG : Hid (Bk g1 W2 #[.int .i64 B, .int .u64 at'] 25 ∧ Below w.heap.size w W2) := by
      rw [hW2.out, E2.out hc hc']
      exact ⟨H1.out.bk, H1.out.be⟩
    clear hW2 HE E0 E1 E2 H1 c0 f0
    rw [hR.out]
    clear hR
    have c0 : W2.cell? ⟨g1, 0, none⟩ = some (.int .i64 B) := HG.out.1.cell 0
    have c1 : W2.cell? ⟨g1, 1, none⟩ = some (.int .u64 at') := HG.out.1.cell 1
    go_wp2_with fail
    go_region_held3 (fun w' => w'.cell? ⟨g1, 0, none⟩ = some (.int .i64 B) ∧ w'.cell? ⟨g1, 1, none⟩ = some (.int .u64 at')) (first | exact ⟨c0, c1⟩ | go_keep) (first | (go_at_call 25; refine (K1.out _).mono ?_; rintro e w' ⟨rfl, hw⟩; rw [hw]; clear hw) | (go_at_call 26; refine (K2.out _).mono ?_; rintro e w' ⟨rfl, hw⟩; rw [hw]; clear hw))
    go_wp2_with fail
    rw [hQ.out]
    go_ret
    refine ⟨_, rfl, ?_, ?_, HG.out.2.size⟩
    · show Bk _ _ _ _
      rw [HX.out]
      exact Bk.new _ _ _
    · exact HG.out.2.drew.alloc HG.out.2.size _
set_option maxRecDepth 20000 in
set_option maxHeartbeats 2000000 in
theorem rnew_any (era at' off rate : Int) (w : World) (h0 : 0 ≤ at') (h1 : at' < 18446744073709551616) (ho : -9223372036854775808 ≤ off ∧ off ≤ 9223372036854775807) (hr : -9223372036854775808 ≤ rate ∧ rate ≤ 9223372036854775807) : Calls Try.prog 17 #[.agg #[.int .i64 era, .int .u64 at'], .int .i64 off, .int .i64 rate] w fun e w' => ∃ p, e = .returned (.pointer (some ⟨p, 0, none⟩)) ∧ Nr w w' p (newS era at' off rate) := by
  obtain ⟨B, hB⟩ : ∃ B, nwE era = B := ⟨_, rfl⟩
  obtain ⟨O, hO⟩ : ∃ B, sv off = B := ⟨_, rfl⟩
  obtain ⟨C, hC⟩ : ∃ B, cf rate = B := ⟨_, rfl⟩
  have HX : Hid (csL (newS era at' off rate) = [.int .i64 B, .int .u64 at', .int .i64 O, .int .i64 C, .int .i64 0, .int .i64 0, .int .i64 0, .int .i64 0]) := by
    show _ = _
    rw [nw_csL _ _ _ _ h0 h1, hB, hO, hC]
  have K1 : Hid (∀ u, Calls Try.prog 31 #[.int .i64 off, .int .i64 4611686018427387904] u fun e w' => e = .returned (.int .i64 O) ∧ Below u.heap.size u w') := fun u => by
    have h := rclamp_any off 4611686018427387904 u ho.1 ho.2 (by decide)
    rw [if_neg (by decide), show min (4611686018427387904 : Int) 4611686018427387904 = 4611686018427387904 from by decide] at h
    rw [← hO]; exact h
  have K2 : Hid (∀ u, Calls Try.prog 32 #[.int .i64 rate] u fun e w' => e = .returned (.int .i64 C) ∧ Below u.heap.size u w') := fun u => by rw [← hC]; exact rcutf_any _ _ hr.1 hr.2
  have E0 : Hid (era < -1000 → B = 0) := fun h => by rw [← hB]; unfold nwE; rw [if_pos (Or.inl h)]
  have E1 : Hid (1000 < era → B = 0) := fun h => by rw [← hB]; unfold nwE; rw [if_pos (Or.inr h)]
  have E2 : Hid (¬ era < -1000 → ¬ 1000 < era → B = era) := fun h h' => by rw [← hB]; unfold nwE; rw [if_neg (by omega)]
  clear hB hO hC h0 h1 ho hr
  go_enter Try.func17, Try.ntmps17
  refine post_hid fun Q hQ => ?_
  refine seq_hid fun R hR => ?_
  go_wp2_with (first
    | (refine step_boxL (by rfl) 43 _ rfl #[.int .i64 era, .int .u64 at'] (by rfl) (fun u => by rfl) ?_; intro W1 g1 H1))
  rw [hR.out]
  clear hR
  have c0 : W1.cell? ⟨g1, 0, none⟩ = some (.int .i64 era) := H1.out.bk.cell 0
  have f0 : W1.frozen? ⟨g1, 0, none⟩ = false := H1.out.bk.frozen 0
  have HE : Hid (era < -1000 ∨ 1000 < era ∨ ¬ era < -1000 ∧ ¬ 1000 < era) := by show _ ∨ _; omega
  refine seq_hid fun R hR => ?_
  rcases HE.out with hc | hc | ⟨hc, hc'⟩
  · go_wp2_with fail
    refine world_hid fun W2 hW2 => ?_
    have HG : Hid (Bk g1 W2 #[.int .i64 B, .int .u64 at'] 43 ∧ Below w.heap.size w W2) := by
      rw [hW2.out, E0.out hc]
      exact ⟨(H1.out.bk.set (j := 0) (.int .i64 0)), H1.out.be.setCell (by show _ ≤ g1; rw [H1.out.at']; exact Nat.le_refl _) _⟩
    clear hW2 HE E0 E1 E2 H1 c0 f0
    rw [hR.out]
    clear hR
    have c0 : W2.cell? ⟨g1, 0, none⟩ = some (.int .i64 B) := HG.out.1.cell 0
    have c1 : W2.cell? ⟨g1, 1, none⟩ = some (.int .u64 at') := HG.out.1.cell 1
    go_wp2_with fail
    go_region_held3 (fun w' => w'.cell? ⟨g1, 0, none⟩ = some (.int .i64 B) ∧ w'.cell? ⟨g1, 1, none⟩ = some (.int .u64 at')) (first | exact ⟨c0, c1⟩ | exact ⟨HU.out.1.cell 0, HU.out.1.cell 1⟩ | exact ⟨HV.out.1.cell 0, HV.out.1.cell 1⟩ | go_keep) (first | (go_at_call 31; refine (K1.out _).mono ?_; rintro e w3 ⟨rfl, hb⟩; have HU : Hid (Bk g1 w3 #[.int .i64 B, .int .u64 at'] 43 ∧ Below w.heap.size w w3) := ⟨Bk.kept HG.out.1 (hb.block _ (Bk.lt HG.out.1)), below_thru HG.out.2.drew hb⟩; clear hb) | (go_at_call 32; refine (K2.out _).mono ?_; rintro e w4 ⟨rfl, hb⟩; have HV : Hid (Bk g1 w4 #[.int .i64 B, .int .u64 at'] 43 ∧ Below w.heap.size w w4) := ⟨Bk.kept HU.out.1 (hb.block _ (Bk.lt HU.out.1)), below_thru HU.out.2 hb⟩; clear hb))
    go_wp2_with fail
    rw [hQ.out]
    go_ret
    refine ⟨_, rfl, ?_, ?_, HV.out.2.size⟩
    · show Bk _ _ _ _
      rw [HX.out]
      exact Bk.new _ _ _
    · exact HV.out.2.alloc HV.out.2.size _
  · have hd : ¬ era < -1000 := by omega
    go_wp2_with fail
    refine world_hid fun W2 hW2 => ?_
    have HG : Hid (Bk g1 W2 #[.int .i64 B, .int .u64 at'] 43 ∧ Below w.heap.size w W2) := by
      rw [hW2.out, E1.out hc]
      exact ⟨(H1.out.bk.set (j := 0) (.int .i64 0)), H1.out.be.setCell (by show _ ≤ g1; rw [H1.out.at']; exact Nat.le_refl _) _⟩
    clear hW2 HE E0 E1 E2 H1 c0 f0
    rw [hR.out]
    clear hR
    have c0 : W2.cell? ⟨g1, 0, none⟩ = some (.int .i64 B) := HG.out.1.cell 0
    have c1 : W2.cell? ⟨g1, 1, none⟩ = some (.int .u64 at') := HG.out.1.cell 1
    go_wp2_with fail
    go_region_held3 (fun w' => w'.cell? ⟨g1, 0, none⟩ = some (.int .i64 B) ∧ w'.cell? ⟨g1, 1, none⟩ = some (.int .u64 at')) (first | exact ⟨c0, c1⟩ | exact ⟨HU.out.1.cell 0, HU.out.1.cell 1⟩ | exact ⟨HV.out.1.cell 0, HV.out.1.cell 1⟩ | go_keep) (first | (go_at_call 31; refine (K1.out _).mono ?_; rintro e w3 ⟨rfl, hb⟩; have HU : Hid (Bk g1 w3 #[.int .i64 B, .int .u64 at'] 43 ∧ Below w.heap.size w w3) := ⟨Bk.kept HG.out.1 (hb.block _ (Bk.lt HG.out.1)), below_thru HG.out.2.drew hb⟩; clear hb) | (go_at_call 32; refine (K2.out _).mono ?_; rintro e w4 ⟨rfl, hb⟩; have HV : Hid (Bk g1 w4 #[.int .i64 B, .int .u64 at'] 43 ∧ Below w.heap.size w w4) := ⟨Bk.kept HU.out.1 (hb.block _ (Bk.lt HU.out.1)), below_thru HU.out.2 hb⟩; clear hb))
    go_wp2_with fail
    rw [hQ.out]
    go_ret
    refine ⟨_, rfl, ?_, ?_, HV.out.2.size⟩
    · show Bk _ _ _ _
      rw [HX.out]
      exact Bk.new _ _ _
    · exact HV.out.2.alloc HV.out.2.size _
  · go_wp2_with fail
    refine world_hid fun W2 hW2 => ?_
    have HG : Hid (Bk g1 W2 #[.int .i64 B, .int .u64 at'] 43 ∧ Below w.heap.size w W2) := by
      rw [hW2.out, E2.out hc hc']
      exact ⟨H1.out.bk, H1.out.be⟩
    clear hW2 HE E0 E1 E2 H1 c0 f0
    rw [hR.out]
    clear hR
    have c0 : W2.cell? ⟨g1, 0, none⟩ = some (.int .i64 B) := HG.out.1.cell 0
    have c1 : W2.cell? ⟨g1, 1, none⟩ = some (.int .u64 at') := HG.out.1.cell 1
    go_wp2_with fail
    go_region_held3 (fun w' => w'.cell? ⟨g1, 0, none⟩ = some (.int .i64 B) ∧ w'.cell? ⟨g1, 1, none⟩ = some (.int .u64 at')) (first | exact ⟨c0, c1⟩ | exact ⟨HU.out.1.cell 0, HU.out.1.cell 1⟩ | exact ⟨HV.out.1.cell 0, HV.out.1.cell 1⟩ | go_keep) (first | (go_at_call 31; refine (K1.out _).mono ?_; rintro e w3 ⟨rfl, hb⟩; have HU : Hid (Bk g1 w3 #[.int .i64 B, .int .u64 at'] 43 ∧ Below w.heap.size w w3) := ⟨Bk.kept HG.out.1 (hb.block _ (Bk.lt HG.out.1)), below_thru HG.out.2.drew hb⟩; clear hb) | (go_at_call 32; refine (K2.out _).mono ?_; rintro e w4 ⟨rfl, hb⟩; have HV : Hid (Bk g1 w4 #[.int .i64 B, .int .u64 at'] 43 ∧ Below w.heap.size w w4) := ⟨Bk.kept HU.out.1 (hb.block _ (Bk.lt HU.out.1)), below_thru HU.out.2 hb⟩; clear hb))
    go_wp2_with fail
    rw [hQ.out]
    go_ret
    refine ⟨_, rfl, ?_, ?_, HV.out.2.size⟩
    · show Bk _ _ _ _
      rw [HX.out]
      exact Bk.new _ _ _
    · exact HV.out.2.alloc HV.out.2.size _
end Go.Proofs.Ytdmaaigchfgmdaa
