/- ClockSteady, walked. -/
import Derived.Test.YtdmaaigchfgmdaaCkN1
namespace Go.Proofs.Ytdmaaigchfgmdaa
open Go Go.RowKit Go.Sort
set_option linter.unusedVariables false
def yS (X r f : Int) : Cs := ⟨X, 0, r, f, 0, 0, 0⟩
def yP (X r f : Int) (k : Nat) : Cs := ⟨X + 4294967296 * k, (r + f) * k / 65536, r, f, (r + f) * k % 65536, 0, k⟩
theorem yS_ok {X r f : Int} (x0 : -18446744073709551616000 ≤ X) (x1 : X < 18465190817783261167616) (r0 : -140737488355 ≤ r) (r1 : r ≤ 140737488355) (f0 : -140737488355 ≤ f) (f1 : f ≤ 140737488355) : OkC (yS X r f) := by
  constructor <;> simp only [yS] <;> omega
theorem yS_run {X r f : Int} (ok : OkC (yS X r f)) (k : Nat) (hk : (k : Int) ≤ 1048576) : passS (yS X r f) k = yP X r f k := by
  rw [run_pass ok rfl (show (-2305843009213693952 : Int) ≤ 0 by decide) (show (0 : Int) ≤ 2305843009213693952 by decide) k (by simp only [yS]; omega)]
  unfold runS yS yP
  simp
theorem yP_zero (X r f : Int) : yP X r f 0 = yS X r f := by unfold yP yS; simp
theorem yP_pass {X r f : Int} (ok : OkC (yS X r f)) (a b : Nat) (hk : (a : Int) + b ≤ 1048576) : paE (yP X r f a) b = false ∧ paS (yP X r f a) b = yP X r f (a + b) := by
  have h : paE (yP X r f a) b = false := by
    unfold paE
    rw [decide_eq_false (show ¬ (b : Int) < 0 by omega), decide_eq_false (show ¬ 1048576 - (yP X r f a).n < (b : Int) by simp only [yP]; omega)]; rfl
  refine ⟨h, ?_⟩
  unfold paS
  rw [h, if_neg (by decide), Int.toNat_natCast, ← yS_run ok a (by omega), pass_add, yS_run ok (a + b) (by push_cast; omega)]
/-- two clocks beside the law's copy of the date -/
structure We (w u : World) (g : Nat) (B A : Int) (p q : Nat) (s t : Cs) : Prop where
  d : Wd w u p q s t
  bk : Bk g u #[.int .i64 B, .int .u64 A] 25
  np : g ≠ p
  nq : g ≠ q
theorem We.thru {w u u' : World} {g p q : Nat} {B A : Int} {s t : Cs} (h : We w u g B A p q s t) (hb : Below u.heap.size u u') : We w u' g B A p q s t := ⟨h.d.thru hb, Bk.kept h.bk (hb.block _ h.bk.lt), h.np, h.nq⟩
theorem We.modA {w u u' : World} {g p q : Nat} {B A : Int} {s t s' : Cs} (h : We w u g B A p q s t) (a : Wc w u' p s') (hg : u.grownBy u' (some p)) : We w u' g B A p q s' t := ⟨h.d.modA a hg, Bk.kept h.bk (hg.block _ h.bk.lt (fun e => h.np (Option.some.inj e))), h.np, h.nq⟩
theorem We.modB {w u u' : World} {g p q : Nat} {B A : Int} {s t t' : Cs} (h : We w u g B A p q s t) (b : Wc w u' q t') (hg : u.grownBy u' (some q)) : We w u' g B A p q s t' := ⟨h.d.modB b hg, Bk.kept h.bk (hg.block _ h.bk.lt (fun e => h.nq (Option.some.inj e))), h.np, h.nq⟩
theorem We.drewN {w u : World} {g p q : Nat} {B A : Int} {s t : Cs} (h : We w u g B A p q s t) (n : Nat) : We w (u.drewN n) g B A p q s t := h.thru ⟨rfl, rfl, rfl, Nat.le_refl _, fun _ _ => rfl⟩
theorem mulk_bd {r : Int} {k : Nat} (h0 : -281474976710 ≤ r) (h1 : r ≤ 281474976710) (hk : (k : Int) ≤ 262144) : -73786976294666240 ≤ r * k ∧ r * k ≤ 73786976294666240 := by
  have hk0 : (0 : Int) ≤ k := Int.natCast_nonneg k
  have a : r * k ≤ 281474976710 * k := Int.mul_le_mul_of_nonneg_right h1 hk0
  have b : -281474976710 * (k : Int) ≤ r * k := Int.mul_le_mul_of_nonneg_right h0 hk0
  omega
set_option maxRecDepth 20000 in
set_option maxHeartbeats 2000000 in
theorem ClockSteady_row (era at' r f : Int) (v : Value) (xs : List Int) (w : World) (he : -9223372036854775808 ≤ era ∧ era ≤ 9223372036854775807) (ha : 0 ≤ at' ∧ at' < 18446744073709551616) (hr : -9223372036854775808 ≤ r ∧ r ≤ 9223372036854775807) (hf : -9223372036854775808 ≤ f ∧ f ≤ 9223372036854775807) (hv : Si w.heap.size w v xs) :
    Calls Try.prog 5 #[.agg #[.int .i64 era, .int .u64 at'], .int .i64 r, .int .i64 f, v] w fun e w' => e = .returned (.bool true) ∧ Below w.heap.size w w' := by
  obtain ⟨ao, cap, rfl, -⟩ := hv.ex
  obtain ⟨n, hn⟩ : ∃ n, n = xs.length := ⟨_, rfl⟩
  rw [← hn] at hv ⊢
  have HV : Hid (Si w.heap.size w (.slice ao n cap) xs ∧ n = xs.length) := ⟨hv, hn⟩
  have HA : Hid (0 ≤ at' ∧ at' < 18446744073709551616) := ha
  clear hv hn ha he hr hf
  go_enter Try.func5, Try.ntmps5
  refine post_hid fun Q hQ => ?_
  refine seq_hid fun R hR => ?_
  go_wp2_with (refine step_boxL (by rfl) 25 _ rfl #[.int .i64 era, .int .u64 at'] (by rfl) (fun u => by rfl) ?_; intro W1 g1 H1)
  rw [hR.out]
  clear hR
  refine seq_hid fun R hR => ?_
  go_wp2_with (go_at_call 16; refine (shown_any _).mono ?_; rintro e w1 ⟨rfl, hb⟩; have H2 : Hid (Below w.heap.size w w1 ∧ Bk g1 w1 #[.int .i64 era, .int .u64 at'] 25) := ⟨below_thru H1.out.be hb, Bk.kept H1.out.bk (hb.block _ H1.out.bk.lt)⟩; clear hb)
  rw [hR.out]
  clear hR H1
  by_cases h1 : 140737488355 < r
  · go_wp2_with fail
    rw [hQ.out]
    go_ret
    exact ⟨rfl, H2.out.1⟩
  by_cases h2 : r < -140737488355
  · go_wp2_with fail
    rw [hQ.out]
    go_ret
    exact ⟨rfl, H2.out.1⟩
  by_cases h3 : 140737488355 < f
  · go_wp2_with fail
    rw [hQ.out]
    go_ret
    exact ⟨rfl, H2.out.1⟩
  by_cases h4 : f < -140737488355
  · go_wp2_with fail
    rw [hQ.out]
    go_ret
    exact ⟨rfl, H2.out.1⟩
  obtain ⟨X, hX⟩ : ∃ X, nwE era * 18446744073709551616 + at' = X := ⟨_, rfl⟩
  have bE := nwE_bd era
  have HX : Hid (newS era at' 0 r = yS X r 0 ∧ sfS (yS X r 0) f = yS X r f ∧ OkC (yS X r f) ∧ atI X = at') := by
    have := HA.out
    refine ⟨?_, ?_, yS_ok (by omega) (by omega) (by omega) (by omega) (by omega) (by omega), ?_⟩
    · show (⟨nwE era * 18446744073709551616 + at', sv 0, cf r, 0, 0, 0, 0⟩ : Cs) = _
      rw [sv_in (by decide) (by decide), cf_in (by omega) (by omega), hX]
      rfl
    · unfold sfS yS; simp only; rw [cf_in (by omega) (by omega)]
    · rw [← hX]; unfold atI; omega
  clear hX bE
  have c0 : w1.cell? ⟨g1, 0, none⟩ = some (.int .i64 era) := H2.out.2.cell 0
  have c1 : w1.cell? ⟨g1, 1, none⟩ = some (.int .u64 at') := H2.out.2.cell 1
  have w1r : wrap64 (r + f) = r + f := w64i _ (by omega) (by omega)
  go_upto_region 5 with fail
  go_region_held3 (fun w' => w'.cell? ⟨g1, 0, none⟩ = some (.int .i64 era) ∧ w'.cell? ⟨g1, 1, none⟩ = some (.int .u64 at')) (first | exact ⟨c0, c1⟩ | exact ⟨H4.out.bk.cell 0, H4.out.bk.cell 1⟩ | exact ⟨H3.out.2.cell 0, H3.out.2.cell 1⟩ | go_keep) (first
    | (go_at_call 7; have hK := wc_new (w := w) (u := w1.drew) H2.out.1.drew era at' 0 r HA.out.1 HA.out.2 (yS X r 0) HX.out.1; (with_reducible refine hK.mono ?_); clear hK; rintro e w2 ⟨p, rfl, h1, h2, h3⟩; have H3 : Hid ((Wc w w2 p (yS X r 0) ∧ g1 ≠ p) ∧ Bk g1 w2 #[.int .i64 era, .int .u64 at'] 25) := ⟨⟨h1, fun e => by have := H2.out.2.lt; have h2 : w1.heap.size ≤ p := h2; omega⟩, Bk.kept (v := w1.drew) H2.out.2 (h3.block _ H2.out.2.lt)⟩; clear h1 h2 h3)
    | (go_at_call 7; have hK := wc_new (w := w) (u := w2) H3.out.1.1.be era at' 0 r HA.out.1 HA.out.2 (yS X r 0) HX.out.1; (with_reducible refine hK.mono ?_); clear hK; rintro e w3 ⟨q, rfl, h1, h2, h3⟩; have H4 : Hid (We w w3 g1 era at' p q (yS X r 0) (yS X r 0)) := ⟨Wd.mk' H3.out.1.1 h1 h2 h3, Bk.kept H3.out.2 (h3.block _ H3.out.2.lt), H3.out.1.2, fun e => by have := H3.out.2.lt; omega⟩; clear h1 h2 h3))
  clear c0 c1 H2
  go_wp2_with (first
    | (go_at_call 21; have hK := wc_setFreq H4.out.d.a f (yS X r f) HX.out.2.1; (with_reducible refine hK.mono ?_); clear hK; rintro e w4 ⟨rfl, h1, h2⟩; have H5 : Hid (We w w4 g1 era at' p q (yS X r f) (yS X r 0)) := H4.out.modA h1 h2; clear h1 h2)
    | (go_at_call 21; have hK := wc_setFreq H5.out.d.b f (yS X r f) HX.out.2.1; (with_reducible refine hK.mono ?_); clear hK; rintro e w5 ⟨rfl, h1, h2⟩; have H6 : Hid (We w w5 g1 era at' p q (yS X r f) (yS X r f)) := H5.out.modB h1 h2; clear h1 h2))
  go_loopw [11, 44] (fun a i wr => ∃ (k N : Nat), i = .int .i64 k ∧ a = .int .i64 N ∧ (k : Int) ≤ n ∧ (N : Int) ≤ 262144 ∧ Hid (We w wr g1 era at' p q (yP X r f N) (yS X r f))) (fun _ i _ => n - (intOf i).toNat)
  case atStart => exact ⟨0, 0, rfl, rfl, by omega, by omega, by rw [yP_zero]; exact H6.out⟩
  case round =>
    clear H3 H4 H5 H6
    obtain ⟨k, N, rfl, rfl, hk, bN, HS⟩ := hrel
    by_cases hlt : (k : Int) < n
    · have hn63 : (n : Int) ≤ 9223372036854775807 := by rw [HV.out.2]; exact HV.out.1.lim
      have kw : wrap64 ((k : Int) + 1) = k + 1 := w64i _ (by omega) (by omega)
      have hkx : k < xs.length := by have := HV.out.2; omega
      obtain ⟨ad, hix, hab, hac, hok⟩ := (HV.out.1.below HS.out.d.a.be (Nat.le_refl _)).at k hkx
      obtain ⟨y, hy⟩ : ∃ y, xs.getD k 0 = y := ⟨_, rfl⟩
      rw [hy] at hac hok
      clear hy hab hkx
      by_cases y0 : y < 0
      · clear w1r
        go_wp2_with fail
        go_roundw
        case rel => exact ⟨k + 1, N, by go_num, rfl, by omega, by omega, HS.out⟩
        case measure => simp [intOf]; omega
      by_cases y1 : 65536 < y
      · clear w1r
        go_wp2_with fail
        go_roundw
        case rel => exact ⟨k + 1, N, by go_num, rfl, by omega, by omega, HS.out⟩
        case measure => simp [intOf]; omega
      have w2r : wrap64 ((N : Int) + y) = N + y := w64i _ (by omega) (by omega)
      by_cases y2 : 262144 < (N : Int) + y
      · clear w1r
        go_wp2_with fail
        go_roundw
        case rel => exact ⟨k + 1, N, by go_num, rfl, by omega, by omega, HS.out⟩
        case measure => simp [intOf]; omega
      obtain ⟨m, rfl⟩ : ∃ m : Nat, y = m := ⟨y.toNat, by omega⟩
      obtain ⟨G, hG⟩ : ∃ G, (r + f) * ((N + m : Nat) : Int) = G := ⟨_, rfl⟩
      have bG := mulk_bd (r := r + f) (k := N + m) (by omega) (by omega) (by push_cast; omega)
      rw [hG] at bG
      obtain ⟨M, hM⟩ : ∃ M : Nat, N + m = M := ⟨_, rfl⟩
      have hMi : (N : Int) + m = M := by omega
      have w3r : wrap64 G = G := w64i _ (by omega) (by omega)
      have w3r' : wrap64 ((r + f) * (M : Int)) = G := by rw [← hM, hG]; exact w3r
      have w4r : wrap64 ((M : Int) * 4294967296) = M * 4294967296 := w64i _ (by omega) (by omega)
      obtain ⟨T, hT⟩ : ∃ T, atI (yP X r f M).x = T := ⟨_, rfl⟩
      have HP : Hid (paS (yP X r f N) m = yP X r f M ∧ (if paE (yP X r f N) m = true then 1 else 0 : Int) = 0) := by
        obtain ⟨h1, h2⟩ := yP_pass HX.out.2.2.1 N m (by omega)
        rw [h2, h1, hM]
        exact ⟨rfl, rfl⟩
      have HZ : Hid ((yP X r f M).e = G / 65536 ∧ (yP X r f M).n = M ∧ atI (yP X r f M).x = T ∧ sn T at' = M * 4294967296) := by
        refine ⟨by rw [← hG, hM]; rfl, rfl, hT, ?_⟩
        rw [← hT, ← HX.out.2.2.2]
        have h := at_since X (4294967296 * M) (by omega) (by omega)
        rw [show (M : Int) * 4294967296 = 4294967296 * M from Int.mul_comm _ _]
        exact h
      rw [hMi] at w2r
      clear hT bG hG
      go_upto_region 16 with (go_at_call 10; have hK := wc_pass HS.out.d.a m (yP X r f M) HP.out.1 0 HP.out.2; (with_reducible refine hK.mono ?_); clear hK; rintro e w6 ⟨rfl, h1, h2⟩; have H7 : Hid (We w w6 g1 era at' p q (yP X r f M) (yS X r f)) := HS.out.modA h1 h2; clear h1 h2)
      have c1 : w6.cell? ⟨g1, 1, none⟩ = some (.int .u64 at') := H7.out.bk.cell 1
      have w1q : IntKind.i64.wrap (r + f) = r + f := by rw [IntWalk.i64_left]; exact w1r
      have w3q : IntKind.i64.wrap ((r + f) * (M : Int)) = G := by rw [IntWalk.i64_left]; exact w3r'
      have w4q : IntKind.i64.wrap ((M : Int) * 4294967296) = M * 4294967296 := by rw [IntWalk.i64_left]; exact w4r
      go_region_held3 (fun w' => w'.cell? ⟨g1, 1, none⟩ = some (.int .u64 at')) (first | exact c1 | go_keep) (first
        | (go_at_call 11; have hK := wc_error (u := w6.drew) (H7.out.drewN 1).d.a (G / 65536) HZ.out.1; (with_reducible refine hK.mono ?_); clear hK; rintro e w7 ⟨rfl, hw⟩; rw [hw]; clear hw)
        | (go_at_call 15; have hK := wc_seconds (u := w6.drew) (H7.out.drewN 1).d.a M HZ.out.2.1; (with_reducible refine hK.mono ?_); clear hK; rintro e w7 ⟨rfl, hw⟩; rw [hw]; clear hw)
        | (go_at_call 13; have hK := wc_true (u := w6.drew) (H7.out.drewN 1).d.a T HZ.out.2.2.1; (with_reducible refine hK.mono ?_); clear hK; rintro e w7 ⟨rfl, hw⟩; rw [hw]; clear hw)
        | (go_at_call 22; have hK := since_any T at' w6.drew; rw [HZ.out.2.2.2] at hK; (with_reducible refine hK.mono ?_); clear hK; rintro e w7 ⟨rfl, hw⟩; rw [hw]; clear hw))
      go_wp2_with fail
      go_roundw
      case rel => exact ⟨k + 1, M, by go_num, rfl, by omega, by omega, H7.out.drewN 1⟩
      case measure => simp [intOf]; omega
    · have bG := mulk_bd (r := r + f) (k := N) (by omega) (by omega) bN
      obtain ⟨T, hT⟩ : ∃ T, atI (yP X r f N).x = T := ⟨_, rfl⟩
      obtain ⟨E, hE⟩ : ∃ T, (yP X r f N).e = T := ⟨_, rfl⟩
      obtain ⟨A, hA⟩ : ∃ T, atI ((yP X r f N).x + (yP X r f N).e) = T := ⟨_, rfl⟩
      have hE' : E = (r + f) * N / 65536 := hE.symm
      have HP : Hid (paS (yS X r f) N = yP X r f N ∧ (if paE (yS X r f) N = true then 1 else 0 : Int) = 0) := by
        obtain ⟨h1, h2⟩ := yP_pass HX.out.2.2.1 0 N (by simp; omega)
        rw [yP_zero] at h1 h2
        rw [h2, h1, Nat.zero_add]
        exact ⟨rfl, rfl⟩
      have HZ : Hid ((yP X r f N).e = E ∧ atI (yP X r f N).x = T ∧ atI ((yP X r f N).x + (yP X r f N).e) = A ∧ sn A T = E) := by
        refine ⟨hE, hT, hA, ?_⟩
        rw [← hA, ← hT, hE]
        exact at_since _ _ (by omega) (by omega)
      clear bG hT hE hA hE' w1r
      go_wp2_with (first
        | (go_at_call 10; have hK := wc_pass HS.out.d.b N (yP X r f N) HP.out.1 0 HP.out.2; (with_reducible refine hK.mono ?_); clear hK; rintro e v1 ⟨rfl, h1, h2⟩; have I1 : Hid (We w v1 g1 era at' p q (yP X r f N) (yP X r f N)) := HS.out.modB h1 h2; clear h1 h2)
        | (go_at_call 11; have hK := wc_error I1.out.d.b E HZ.out.1; (with_reducible refine hK.mono ?_); clear hK; rintro e w7 ⟨rfl, hw⟩; rw [hw]; clear hw)
        | (go_at_call 11; have hK := wc_error I1.out.d.a E HZ.out.1; (with_reducible refine hK.mono ?_); clear hK; rintro e w7 ⟨rfl, hw⟩; rw [hw]; clear hw)
        | (go_at_call 12; have hK := wc_now I1.out.d.b A HZ.out.2.2.1; (with_reducible refine hK.mono ?_); clear hK; rintro e v2 ⟨rfl, h1, h2⟩; have I2 : Hid (We w v2 g1 era at' p q (yP X r f N) (yP X r f N)) := I1.out.thru h2; clear h1 h2)
        | (go_at_call 12; have hK := wc_now I2.out.d.a A HZ.out.2.2.1; (with_reducible refine hK.mono ?_); clear hK; rintro e v3 ⟨rfl, h1, h2⟩; have I3 : Hid (We w v3 g1 era at' p q (yP X r f N) (yP X r f N)) := I2.out.thru h2; clear h1 h2)
        | (go_at_call 13; have hK := wc_true I3.out.d.b T HZ.out.2.1; (with_reducible refine hK.mono ?_); clear hK; rintro e w7 ⟨rfl, hw⟩; rw [hw]; clear hw)
        | (go_at_call 13; have hK := wc_true I3.out.d.a T HZ.out.2.1; (with_reducible refine hK.mono ?_); clear hK; rintro e w7 ⟨rfl, hw⟩; rw [hw]; clear hw)
        | (go_at_call 12; have hK := wc_now I3.out.d.a A HZ.out.2.2.1; (with_reducible refine hK.mono ?_); clear hK; rintro e v4 ⟨rfl, h1, h2⟩; have I4 : Hid (We w v4 g1 era at' p q (yP X r f N) (yP X r f N)) := I3.out.thru h2; clear h1 h2)
        | (go_at_call 13; have hK := wc_true I4.out.d.a T HZ.out.2.1; (with_reducible refine hK.mono ?_); clear hK; rintro e w7 ⟨rfl, hw⟩; rw [hw]; clear hw)
        | (go_at_call 22; have hK := since_any A T v4; rw [HZ.out.2.2.2] at hK; (with_reducible refine hK.mono ?_); clear hK; rintro e w7 ⟨rfl, hw⟩; rw [hw]; clear hw)
        | (go_at_call 11; have hK := wc_error I4.out.d.a E HZ.out.1; (with_reducible refine hK.mono ?_); clear hK; rintro e w7 ⟨rfl, hw⟩; rw [hw]; clear hw))
      rw [hQ.out]
      go_ret
      exact ⟨rfl, I4.out.d.a.be⟩
end Go.Proofs.Ytdmaaigchfgmdaa
