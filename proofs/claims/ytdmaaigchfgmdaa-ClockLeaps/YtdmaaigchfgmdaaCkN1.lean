/- ClockAdds, walked. -/
import Derived.Test.YtdmaaigchfgmdaaCkO
namespace Go.Proofs.Ytdmaaigchfgmdaa
open Go Go.RowKit Go.Sort
set_option linter.unusedVariables false
def zS (X e : Int) : Cs := ⟨X, e, 0, 0, 0, 0, 0⟩
def zP (X e : Int) (k : Nat) : Cs := ⟨X + 4294967296 * k, e, 0, 0, 0, 0, k⟩
theorem zS_ok {X e : Int} (x0 : -18446744073709551616000 ≤ X) (x1 : X < 18465190817783261167616) (e0 : -4611686018427387904 ≤ e) (e1 : e ≤ 4611686018427387904) : OkC (zS X e) := by
  constructor <;> simp only [zS] <;> omega
theorem zS_pass {X e : Int} (x0 : -18446744073709551616000 ≤ X) (x1 : X < 18465190817783261167616) (e0 : -2305843009213693952 ≤ e) (e1 : e ≤ 2305843009213693952) (k : Nat) (hk : (k : Int) ≤ 1048576) : paE (zS X e) k = false ∧ paS (zS X e) k = zP X e k := by
  have h : paE (zS X e) k = false := by
    unfold paE
    rw [decide_eq_false (show ¬ (k : Int) < 0 by omega), decide_eq_false (show ¬ 1048576 - (zS X e).n < (k : Int) by simp only [zS]; omega)]; rfl
  refine ⟨h, ?_⟩
  unfold paS
  rw [h, if_neg (by decide), Int.toNat_natCast, run_pass (zS_ok x0 x1 (by omega) (by omega)) rfl e0 e1 k (by simp only [zS]; omega)]
  unfold runS zS zP
  simp
theorem zS_slew {X e d : Int} (h0 : -4611686018427387904 ≤ e + d) (h1 : e + d ≤ 4611686018427387904) : slewS (zS X e) d = zS X (e + d) := by
  unfold slewS zS
  simp only
  rw [sv_in h0 h1]
theorem zS_new (era at' : Int) : newS era at' 0 0 = zS (nwE era * 18446744073709551616 + at') 0 := by
  show (⟨nwE era * 18446744073709551616 + at', sv 0, cf 0, 0, 0, 0, 0⟩ : Cs) = _
  rw [sv_in (by decide) (by decide), cf_in (by decide) (by decide)]
  rfl
theorem nwE_bd (era : Int) : -1000 ≤ nwE era ∧ nwE era ≤ 1000 := by unfold nwE; split <;> omega
/-- two clocks that a law has made -/
structure Wd (w u : World) (p q : Nat) (s t : Cs) : Prop where
  a : Wc w u p s
  b : Wc w u q t
  ne : p ≠ q
theorem Wd.mk' {w u : World} {p q : Nat} {s t : Cs} (a : Wc w u p s) {u' : World} (b : Wc w u' q t) (hq : u.heap.size ≤ q) (hb : Below u.heap.size u u') : Wd w u' p q s t := ⟨a.thru hb, b, fun e => by have := Bk.lt a.po; omega⟩
theorem Wd.thru {w u u' : World} {p q : Nat} {s t : Cs} (h : Wd w u p q s t) (hb : Below u.heap.size u u') : Wd w u' p q s t := ⟨h.a.thru hb, h.b.thru hb, h.ne⟩
theorem Wd.modA {w u u' : World} {p q : Nat} {s t s' : Cs} (h : Wd w u p q s t) (a : Wc w u' p s') (hg : u.grownBy u' (some p)) : Wd w u' p q s' t := ⟨a, h.b.other hg h.a.lp h.ne.symm, h.ne⟩
theorem Wd.modB {w u u' : World} {p q : Nat} {s t t' : Cs} (h : Wd w u p q s t) (b : Wc w u' q t') (hg : u.grownBy u' (some q)) : Wd w u' p q s t' := ⟨h.a.other hg h.b.lp h.ne, b, h.ne⟩
set_option maxRecDepth 20000 in
set_option maxHeartbeats 2000000 in
theorem ClockAdds_row (era at' : Int) (v : Value) (sec : Int) (xs : List Int) (w : World) (he : -9223372036854775808 ≤ era ∧ era ≤ 9223372036854775807) (ha : 0 ≤ at' ∧ at' < 18446744073709551616) (hv : Sj w.heap.size w v xs) (hs : 0 ≤ sec ∧ sec < 256) :
    Calls Try.prog 3 #[.agg #[.int .i64 era, .int .u64 at'], v, .int .u8 sec] w fun e w' => e = .returned (.bool true) ∧ Below w.heap.size w w' := by
  obtain ⟨ao, cap, rfl, -⟩ := hv.ex
  obtain ⟨n, hn⟩ : ∃ n, n = xs.length := ⟨_, rfl⟩
  rw [← hn] at hv ⊢
  obtain ⟨m, hm⟩ : ∃ m : Nat, sec = m := ⟨sec.toNat, by omega⟩
  subst hm
  obtain ⟨X, hX⟩ : ∃ X, nwE era * 18446744073709551616 + at' = X := ⟨_, rfl⟩
  have bE := nwE_bd era
  have HX : Hid (newS era at' 0 0 = zS X 0 ∧ (-18446744073709551616000 ≤ X ∧ X < 18465190817783261167616) ∧ (0 ≤ at' ∧ at' < 18446744073709551616)) := ⟨by rw [zS_new, hX], by omega, ha⟩
  have HV : Hid (Sj w.heap.size w (.slice ao n cap) xs ∧ n = xs.length ∧ (m : Int) < 256) := ⟨hv, hn, hs.2⟩
  clear hv hn hs ha he hX bE
  go_enter Try.func3, Try.ntmps3
  refine post_hid fun Q hQ => ?_
  refine seq_hid fun R hR => ?_
  go_wp2_with (refine step_boxL (by rfl) 25 _ rfl #[.int .i64 era, .int .u64 at'] (by rfl) (fun u => by rfl) ?_; intro W1 g1 H1)
  rw [hR.out]
  clear hR
  by_cases hlen : 1024 < (n : Int)
  · go_wp2_with fail
    rw [hQ.out]
    go_ret
    exact ⟨rfl, H1.out.be⟩
  have c0 : W1.cell? ⟨g1, 0, none⟩ = some (.int .i64 era) := H1.out.bk.cell 0
  have c1 : W1.cell? ⟨g1, 1, none⟩ = some (.int .u64 at') := H1.out.bk.cell 1
  refine seq_hid fun R hR => ?_
  go_wp2_with fail
  rw [hR.out]
  clear hR
  refine seq_hid fun R hR => ?_
  go_wp2_with (go_at_call 7; have hK := wc_new (w := w) H1.out.be era at' 0 0 HX.out.2.2.1 HX.out.2.2.2 (zS X 0) HX.out.1; (with_reducible refine hK.mono ?_); clear hK; rintro e w1 ⟨p, rfl, h1, h2, h3⟩; have H2 : Hid (Wc w w1 p (zS X 0) ∧ Bk g1 w1 #[.int .i64 era, .int .u64 at'] 25) := ⟨h1, Bk.kept H1.out.bk (h3.block _ H1.out.bk.lt)⟩; clear h1 h2 h3)
  rw [hR.out]
  clear hR c0 c1 H1
  have c0 : w1.cell? ⟨g1, 0, none⟩ = some (.int .i64 era) := H2.out.2.cell 0
  have c1 : w1.cell? ⟨g1, 1, none⟩ = some (.int .u64 at') := H2.out.2.cell 1
  refine seq_hid fun R hR => ?_
  go_wp2_with (go_at_call 7; have hK := wc_new (w := w) H2.out.1.be era at' 0 0 HX.out.2.2.1 HX.out.2.2.2 (zS X 0) HX.out.1; (with_reducible refine hK.mono ?_); clear hK; rintro e w2 ⟨q, rfl, h1, h2, h3⟩; have H3 : Hid (Wd w w2 p q (zS X 0) (zS X 0)) := Wd.mk' H2.out.1 h1 h2 h3; clear h1 h2 h3)
  rw [hR.out]
  clear hR c0 c1 H2
  go_wp2_with fail
  go_loopw [9, 10] (fun a i wr => ∃ (k : Nat) (S : Int), i = .int .i64 k ∧ a = .int .i64 S ∧ (k : Int) ≤ n ∧ (-2147483648 * (k : Int) ≤ S ∧ S ≤ 2147483648 * (k : Int)) ∧ Hid (Wd w wr p q (zS X S) (zS X 0))) (fun _ i _ => n - (intOf i).toNat)
  case atStart => exact ⟨0, 0, rfl, rfl, by omega, by omega, H3.out⟩
  case round =>
    obtain ⟨k, S, rfl, rfl, hk, bS, HS⟩ := hrel
    by_cases hlt : (k : Int) < n
    · have hkx : k < xs.length := by have := HV.out.2.1; omega
      obtain ⟨ad, hix, hab, hac, hok⟩ := (HV.out.1.below HS.out.a.be (Nat.le_refl _)).at k hkx
      obtain ⟨y, hy⟩ : ∃ y, xs.getD k 0 = y := ⟨_, rfl⟩
      rw [hy] at hac hok
      clear hy hab hkx
      have y1 : wrap64 y = y := w64i _ (by omega) (by omega)
      have y2 : IntKind.i64.wrap y = y := by rw [IntWalk.i64_left]; exact y1
      have y3 : wrap64 (S + y) = S + y := w64i _ (by omega) (by omega)
      have HE : Hid (slewS (zS X S) y = zS X (S + y) ∧ (-9223372036854775808 ≤ y ∧ y ≤ 9223372036854775807)) := ⟨zS_slew (by omega) (by omega), by omega⟩
      by_cases hp : ((k : Int) % 2 == 0) = true
      · go_wp2_with (go_at_call 8; have hK := wc_slew HS.out.a y HE.out.2 (zS X (S + y)) HE.out.1; (with_reducible refine hK.mono ?_); clear hK; rintro e w4 ⟨rfl, h1, h2⟩; have H4 : Hid (Wd w w4 p q (zS X (S + y)) (zS X 0)) := HS.out.modA h1 h2; clear h1 h2)
        go_roundw
        case rel => exact ⟨k + 1, S + y, by go_num, rfl, by omega, by omega, H4.out⟩
        case measure => simp [intOf]; omega
      · have hp : ((k : Int) % 2 == 0) = false := by simpa using hp
        go_wp2_with (go_at_call 9; have hK := wc_step HS.out.a y HE.out.2 (zS X (S + y)) HE.out.1; (with_reducible refine hK.mono ?_); clear hK; rintro e w4 ⟨rfl, h1, h2⟩; have H4 : Hid (Wd w w4 p q (zS X (S + y)) (zS X 0)) := HS.out.modA h1 h2; clear h1 h2)
        go_roundw
        case rel => exact ⟨k + 1, S + y, by go_num, rfl, by omega, by omega, H4.out⟩
        case measure => simp [intOf]; omega
    · have HE : Hid (slewS (zS X 0) S = zS X S ∧ (-9223372036854775808 ≤ S ∧ S ≤ 9223372036854775807)) := ⟨by rw [zS_slew (by omega) (by omega)]; rw [Int.zero_add], by omega⟩
      have HP : Hid (paE (zS X S) m = false ∧ paS (zS X S) m = zP X S m) := zS_pass HX.out.2.1.1 HX.out.2.1.2 (by omega) (by omega) m (by have := HV.out.2.2; omega)
      have m1 : wrap64 (m : Int) = m := w64i _ (by have := HV.out.2.2; omega) (by have := HV.out.2.2; omega)
      have m2 : IntKind.i64.wrap (m : Int) = m := by rw [IntWalk.i64_left]; exact m1
      obtain ⟨A, hA⟩ : ∃ A, atI ((zP X S m).x + (zP X S m).e) = A := ⟨_, rfl⟩
      obtain ⟨E, hE⟩ : ∃ A, eraI ((zP X S m).x + (zP X S m).e) = A := ⟨_, rfl⟩
      obtain ⟨T, hT⟩ : ∃ A, atI (zP X S m).x = A := ⟨_, rfl⟩
      have HA : Hid (atI ((zP X S m).x + (zP X S m).e) = A ∧ eraI ((zP X S m).x + (zP X S m).e) = E ∧ atI (zP X S m).x = T ∧ (zP X S m).e = S ∧ (zP X S m).n = m ∧ (if paE (zS X S) m = true then 1 else 0 : Int) = 0) := ⟨hA, hE, hT, rfl, rfl, by rw [HP.out.1]; rfl⟩
      clear hA hE hT
      go_wp2_with (first
        | (go_at_call 9; have hK := wc_step HS.out.b S HE.out.2 (zS X S) HE.out.1; (with_reducible refine hK.mono ?_); clear hK; rintro e w4 ⟨rfl, h1, h2⟩; have H4 : Hid (Wd w w4 p q (zS X S) (zS X S)) := HS.out.modB h1 h2; clear h1 h2)
        | (go_at_call 10; have hK := wc_pass H4.out.a m (zP X S m) HP.out.2 0 HA.out.2.2.2.2.2; (with_reducible refine hK.mono ?_); clear hK; rintro e w5 ⟨rfl, h1, h2⟩; have H5 : Hid (Wd w w5 p q (zP X S m) (zS X S)) := H4.out.modA h1 h2; clear h1 h2)
        | (go_at_call 10; have hK := wc_pass H5.out.b m (zP X S m) HP.out.2 0 HA.out.2.2.2.2.2; (with_reducible refine hK.mono ?_); clear hK; rintro e w6 ⟨rfl, h1, h2⟩; have H6 : Hid (Wd w w6 p q (zP X S m) (zP X S m)) := H5.out.modB h1 h2; clear h1 h2)
        | (go_at_call 11; have hK := wc_error H6.out.a S HA.out.2.2.2.1; (with_reducible refine hK.mono ?_); clear hK; rintro e w7 ⟨rfl, hw⟩; rw [hw]; clear hw)
        | (go_at_call 11; have hK := wc_error H6.out.b S HA.out.2.2.2.1; (with_reducible refine hK.mono ?_); clear hK; rintro e w7 ⟨rfl, hw⟩; rw [hw]; clear hw)
        | (go_at_call 12; have hK := wc_now H6.out.a A HA.out.1; (with_reducible refine hK.mono ?_); clear hK; rintro e w7 ⟨rfl, h1, h2⟩; have H7 : Hid (Wd w w7 p q (zP X S m) (zP X S m)) := H6.out.thru h2; clear h1 h2)
        | (go_at_call 12; have hK := wc_now H7.out.b A HA.out.1; (with_reducible refine hK.mono ?_); clear hK; rintro e w8 ⟨rfl, h1, h2⟩; have H8 : Hid (Wd w w8 p q (zP X S m) (zP X S m)) := H7.out.thru h2; clear h1 h2)
        | (go_at_call 13; have hK := wc_true H8.out.a T HA.out.2.2.1; (with_reducible refine hK.mono ?_); clear hK; rintro e w9 ⟨rfl, hw⟩; rw [hw]; clear hw)
        | (go_at_call 13; have hK := wc_true H8.out.b T HA.out.2.2.1; (with_reducible refine hK.mono ?_); clear hK; rintro e w9 ⟨rfl, hw⟩; rw [hw]; clear hw)
        | (go_at_call 14; have hK := wc_date H8.out.a E A HA.out.2.1 HA.out.1; (with_reducible refine hK.mono ?_); clear hK; rintro e w9 ⟨rfl, h1, h2⟩; have H9 : Hid (Wd w w9 p q (zP X S m) (zP X S m)) := H8.out.thru h2; clear h1 h2)
        | (go_at_call 14; have hK := wc_date H9.out.b E A HA.out.2.1 HA.out.1; (with_reducible refine hK.mono ?_); clear hK; rintro e w10 ⟨rfl, h1, h2⟩; have HB : Hid (Wd w w10 p q (zP X S m) (zP X S m)) := H9.out.thru h2; clear h1 h2)
        | (go_at_call 15; have hK := wc_seconds HB.out.a m HA.out.2.2.2.2.1; (with_reducible refine hK.mono ?_); clear hK; rintro e w11 ⟨rfl, hw⟩; rw [hw]; clear hw))
      rw [hQ.out]
      go_ret
      exact ⟨rfl, HB.out.a.be⟩
end Go.Proofs.Ytdmaaigchfgmdaa
