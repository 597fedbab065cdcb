/- ClockScript, walked. -/
import Derived.Test.YtdmaaigchfgmdaaCkT
namespace Go.Proofs.Ytdmaaigchfgmdaa
open Go Go.RowKit Go.Sort
set_option linter.unusedVariables false
set_option maxRecDepth 20000 in
set_option maxHeartbeats 4000000 in
theorem ClockScript_row (era at' off rate : Int) (v : Value) (ss : List Stp) (w : World) (he : -9223372036854775808 ≤ era ∧ era ≤ 9223372036854775807) (ha : 0 ≤ at' ∧ at' < 18446744073709551616) (ho : -9223372036854775808 ≤ off ∧ off ≤ 9223372036854775807) (hr : -9223372036854775808 ≤ rate ∧ rate ≤ 9223372036854775807) (hv : Sp w.heap.size w v ss) :
    Calls Try.prog 4 #[.agg #[.int .i64 era, .int .u64 at'], .int .i64 off, .int .i64 rate, v] w fun e w' => e = .returned (.bool true) ∧ Below w.heap.size w w' := by
  obtain ⟨ao, cap, rfl, -⟩ := hv.ex
  obtain ⟨n, hn⟩ : ∃ n, n = ss.length := ⟨_, rfl⟩
  rw [← hn] at hv ⊢
  have HV : Hid (Sp w.heap.size w (.slice ao n cap) ss ∧ n = ss.length) := ⟨hv, hn⟩
  obtain ⟨s0, hs0⟩ : ∃ s, newS era at' off rate = s := ⟨_, rfl⟩
  have HA : Hid ((0 ≤ at' ∧ at' < 18446744073709551616) ∧ (-9223372036854775808 ≤ off ∧ off ≤ 9223372036854775807) ∧ (-9223372036854775808 ≤ rate ∧ rate ≤ 9223372036854775807) ∧ newS era at' off rate = s0) := ⟨ha, ho, hr, hs0⟩
  clear hv hn ha he ho hr hs0
  go_enter Try.func4, Try.ntmps4
  refine post_hid fun Q hQ => ?_
  refine seq_hid fun R hR => ?_
  go_wp2_with (refine step_boxL (by rfl) 25 _ rfl #[.int .i64 era, .int .u64 at'] (by rfl) (fun u => by rfl) ?_; intro W1 g1 H1)
  rw [hR.out]
  clear hR
  refine seq_hid fun R hR => ?_
  go_wp2_with (go_at_call 16; refine (shown_any _).mono ?_; rintro e w1 ⟨rfl, hb⟩; have H2 : Hid (Below w.heap.size w w1 ∧ Bk g1 w1 #[.int .i64 era, .int .u64 at'] 25) := ⟨below_thru H1.out.be hb, Bk.kept H1.out.bk (hb.block _ H1.out.bk.lt)⟩; clear hb)
  rw [hR.out]
  clear hR H1
  have c0 : w1.cell? ⟨g1, 0, none⟩ = some (.int .i64 era) := H2.out.2.cell 0
  have c1 : w1.cell? ⟨g1, 1, none⟩ = some (.int .u64 at') := H2.out.2.cell 1
  go_upto_region 3 with fail
  go_region_held3 (fun w' => w'.cell? ⟨g1, 0, none⟩ = some (.int .i64 era) ∧ w'.cell? ⟨g1, 1, none⟩ = some (.int .u64 at')) (first | exact ⟨c0, c1⟩ | exact ⟨H5.out.2.cell 0, H5.out.2.cell 1⟩ | exact ⟨H4.out.2.cell 0, H4.out.2.cell 1⟩ | exact ⟨H3.out.2.cell 0, H3.out.2.cell 1⟩ | go_keep) (first
    | (go_at_call 7; have hK := wc_new (w := w) (u := w1.drew) H2.out.1.drew era at' off rate HA.out.1.1 HA.out.1.2 s0 HA.out.2.2.2; (with_reducible refine hK.mono ?_); clear hK; rintro e w2 ⟨p, rfl, h1, h2, h3⟩; have H3 : Hid (Wc w w2 p s0 ∧ Bk g1 w2 #[.int .i64 era, .int .u64 at'] 25) := ⟨h1, Bk.kept (v := w1.drew) H2.out.2 (h3.block _ H2.out.2.lt)⟩; clear h1 h2 h3)
    | (go_at_call 18; have hK := conv_date era at' w2; (with_reducible refine hK.mono ?_); clear hK; rintro e w3 ⟨rfl, hb⟩; have H4 : Hid (Wc w w3 p s0 ∧ Bk g1 w3 #[.int .i64 era, .int .u64 at'] 25) := ⟨H3.out.1.thru hb, Bk.kept H3.out.2 (hb.block _ H3.out.2.lt)⟩; clear hb)
    | (go_at_call 17; have hK := rnew_any era at' off rate w3 HA.out.1.1 HA.out.1.2 HA.out.2.1 HA.out.2.2.1; rw [HA.out.2.2.2] at hK; (with_reducible refine hK.mono ?_); clear hK; rintro e w4 ⟨q, rfl, h2⟩; have H5 : Hid (Wp w w4 p q s0 ∧ Bk g1 w4 #[.int .i64 era, .int .u64 at'] 25) := ⟨⟨H4.out.1.thru h2.be, h2.rp, (fun e => by have := Bk.lt H4.out.1.po; have := h2.hq; omega), Nat.le_trans H4.out.1.be.size h2.hq⟩, Bk.kept H4.out.2 (h2.be.block _ H4.out.2.lt)⟩; clear h2))
  have H6 : Hid (Wp w w4 p q s0) := H5.out.1
  clear c0 c1 H2 H3 H4 H5
  go_wp2_with (go_at_call 19; have hK := told_any H6.out; (with_reducible refine hK.mono ?_); clear hK; rintro e w5 ⟨rfl, h1⟩; have H7 : Hid (Wp w w5 p q s0) := h1; clear h1)
  go_loopw [30] (fun i wr => ∃ (k : Nat) (s : Cs), i = .int .i64 k ∧ (k : Int) ≤ n ∧ Hid (Wp w wr p q s)) (fun i _ => n - (intOf i).toNat)
  case atStart => exact ⟨0, s0, rfl, by omega, H7.out⟩
  case round =>
    clear H6 H7
    obtain ⟨k, s, rfl, hk, HS⟩ := hrel
    by_cases hlt : (k : Int) < n
    · have hn63 : (n : Int) ≤ 9223372036854775807 := by rw [HV.out.2]; exact HV.out.1.lim
      have kw : wrap64 ((k : Int) + 1) = k + 1 := w64i _ (by omega) (by omega)
      have hkx : k < ss.length := by have := HV.out.2; omega
      obtain ⟨ad, hix, hab, hac, hok⟩ := (HV.out.1.below HS.out.c.be (Nat.le_refl _)).at k hkx
      obtain ⟨y, hy⟩ : ∃ y, ss.getD k z16 = y := ⟨_, rfl⟩
      rw [hy] at hac hok
      have HY : Hid ((∀ j u, (spL y)[j]? = some u → wr.cell? (ad.add j) = some u) ∧ OkP y) := ⟨hac, hok⟩
      clear hac hab hy hkx hok
      have HD : Hid (∀ u, Wp w u p q s → Calls Try.prog 20 #[.pointer (some ⟨p, 0, none⟩), .pointer (some ⟨q, 0, none⟩), .agg (spL y).toArray] u fun e w' => e = .returned (.bool true) ∧ ∃ s', Wp w w' p q s') := fun u hu => does_any y HY.out.2 hu
      obtain ⟨yk, yo, yj, yn⟩ := y
      simp only [spL] at HD
      have HB : Hid (Wp w (wr.alloc (.cells #[.int .i64 yk, .int .i64 yo, .int .i64 yj, .int .i64 yn] 47)) p q s) := HS.out.thru ((Below.refl _ _).alloc (Nat.le_refl _) _)
      go_wp2_with (first
        | (refine step_ldat 47 _ rfl rfl ad (by rfl) [.int .i64 yk, .int .i64 yo, .int .i64 yj, .int .i64 yn] _ Try.underlying47 rfl (by kernel_rfl) HY.out.1 ?_)
        | (go_at_call 20; have hK := HD.out _ HB.out; (with_reducible refine hK.mono ?_); clear hK; rintro e w6 ⟨rfl, s', h1⟩; have H8 : Hid (Wp w w6 p q s') := h1; clear h1)
        | (go_at_call 19; have hK := told_any H8.out; (with_reducible refine hK.mono ?_); clear hK; rintro e w7 ⟨rfl, h1⟩; have H9 : Hid (Wp w w7 p q s') := h1; clear h1))
      go_roundw
      case rel => exact ⟨k + 1, s', by go_num, by omega, H9.out⟩
      case measure => simp [intOf]; omega
    · go_wp2_with fail
      rw [hQ.out]
      go_ret
      exact ⟨rfl, HS.out.c.be⟩
end Go.Proofs.Ytdmaaigchfgmdaa
