/- What PrintAddr of the reference returns; ConfAddrs. -/
import Derived.Test.YtchhcipoicpglaaDoorDAb
namespace Go.Proofs.YtchhcipoicpglaaDoor
open Go.RowKit
theorem digits_any (n : Int) (w : World) (h0 : 0 ≤ n) (h : n ≤ 255) :
    Calls Tryd.prog 13 #[.int .i64 n] w fun e w' => e = .returned (.string (tx (dd n))) ∧ ∃ m, w' = w.drewN m := by
  by_cases h1 : n < 10
  · exact (digits_1 n w h0 h1).mono (fun e w' ⟨a, b⟩ => ⟨a, 0, b⟩)
  · by_cases h2 : n < 100
    · exact digits_2 n w (by omega) h2
    · exact digits_3 n w (by omega) (by omega)
theorem tx_46 : (⟨#[46]⟩ : ByteArray) = tx [46] := rfl
set_option maxHeartbeats 1000000 in
theorem rprint_any (a : Int) (w : World) (h0 : 0 ≤ a) (h1 : a < 4294967296) :
    Calls Tryd.prog 7 #[.int .u32 a] w fun e w' => e = .returned (.string (tx (pa a))) ∧ ∃ m, w' = w.drewN m := by
  obtain ⟨A0, hA0⟩ : ∃ A, A = oc a 0 := ⟨_, rfl⟩
  obtain ⟨A1, hA1⟩ : ∃ A, A = oc a 1 := ⟨_, rfl⟩
  obtain ⟨A2, hA2⟩ : ∃ A, A = oc a 2 := ⟨_, rfl⟩
  obtain ⟨A3, hA3⟩ : ∃ A, A = oc a 3 := ⟨_, rfl⟩
  have b0 := oc_bd a 0
  have b1 := oc_bd a 1
  have b2 := oc_bd a 2
  have b3 := oc_bd a 3
  have e0 : a / 16777216 = A0 := by rw [hA0]; unfold oc; simp; omega
  have e1 : a / 65536 % 256 = A1 := by rw [hA1]; rfl
  have e2 : a / 256 % 256 = A2 := by rw [hA2]; rfl
  have e3 : a % 256 = A3 := by rw [hA3]; rfl
  have f1 : (a / 65536).tmod 256 = A1 := by rw [Int.tmod_eq_emod_of_nonneg (by omega), e1]
  have f2 : (a / 256).tmod 256 = A2 := by rw [Int.tmod_eq_emod_of_nonneg (by omega), e2]
  have f3 : a.tmod 256 = A3 := by rw [Int.tmod_eq_emod_of_nonneg (by omega), e3]
  have g0 : IntKind.i64.wrap A0 = A0 := by rw [IntKind.wrap_i64]; omega
  have g1 : IntKind.i64.wrap (a / 65536) = a / 65536 := by rw [IntKind.wrap_i64]; omega
  have g2 : IntKind.i64.wrap (a / 256) = a / 256 := by rw [IntKind.wrap_i64]; omega
  rw [← hA0] at b0
  rw [← hA1] at b1
  rw [← hA2] at b2
  rw [← hA3] at b3
  obtain ⟨D0, hD0⟩ : ∃ D, D = tx (dd A0) := ⟨_, rfl⟩
  obtain ⟨D1, hD1⟩ : ∃ D, D = tx (dd A1) := ⟨_, rfl⟩
  obtain ⟨D2, hD2⟩ : ∃ D, D = tx (dd A2) := ⟨_, rfl⟩
  obtain ⟨D3, hD3⟩ : ∃ D, D = tx (dd A3) := ⟨_, rfl⟩
  have s0 : D0.size ≤ 3 := by rw [hD0]; exact (dd_ok _ b0.1 b0.2).2.2
  have s1 : D1.size ≤ 3 := by rw [hD1]; exact (dd_ok _ b1.1 b1.2).2.2
  have s2 : D2.size ≤ 3 := by rw [hD2]; exact (dd_ok _ b2.1 b2.2).2.2
  have s3 : D3.size ≤ 3 := by rw [hD3]; exact (dd_ok _ b3.1 b3.2).2.2
  have HG : Hid (∀ n D, 0 ≤ n → n ≤ 255 → D = tx (dd n) → ∀ v, Calls Tryd.prog 13 #[.int .i64 n] v fun e v' => e = .returned (.string D) ∧ ∃ m, v' = v.drewN m) := fun n D n0 n1 hD v => by rw [hD]; exact digits_any n v n0 n1
  have HP : Hid (tx (pa a) = D0 ++ ⟨#[46]⟩ ++ D1 ++ ⟨#[46]⟩ ++ D2 ++ ⟨#[46]⟩ ++ D3) := by
    show _ = _
    rw [hD0, hD1, hD2, hD3, tx_46]
    simp only [tx_app]
    unfold pa
    rw [hA0, hA1, hA2, hA3]
  have H0 : Hid (D0 = tx (dd A0) ∧ D1 = tx (dd A1) ∧ D2 = tx (dd A2) ∧ D3 = tx (dd A3)) := ⟨hD0, hD1, hD2, hD3⟩
  have HB : Hid ((0 ≤ A0 ∧ A0 ≤ 255) ∧ (0 ≤ A1 ∧ A1 ≤ 255) ∧ (0 ≤ A2 ∧ A2 ≤ 255) ∧ (0 ≤ A3 ∧ A3 ≤ 255)) := ⟨b0, b1, b2, b3⟩
  clear hA0 hA1 hA2 hA3 hD0 hD1 hD2 hD3
  go_enter Tryd.func7, Tryd.ntmps7
  go_wp2_with fail
  refine (HG.out A0 D0 HB.out.1.1 HB.out.1.2 H0.out.1 _).mono ?_
  rintro e v1 ⟨rfl, m1, rfl⟩
  go_wp2_with fail
  refine (HG.out A1 D1 HB.out.2.1.1 HB.out.2.1.2 H0.out.2.1 _).mono ?_
  rintro e v2 ⟨rfl, m2, rfl⟩
  go_wp2_with fail
  refine (HG.out A2 D2 HB.out.2.2.1.1 HB.out.2.2.1.2 H0.out.2.2.1 _).mono ?_
  rintro e v3 ⟨rfl, m3, rfl⟩
  go_wp2_with fail
  refine (HG.out A3 D3 HB.out.2.2.2.1 HB.out.2.2.2.2 H0.out.2.2.2 _).mono ?_
  rintro e v4 ⟨rfl, m4, rfl⟩
  go_wp2_with fail
  go_ret
  exact ⟨by rw [HP.out]; rfl, _, rfl⟩
theorem eq_tx {s : ByteArray} {l : List UInt8} (h : l = s.data.toList) : tx l = s := by rw [h, tx_of]
set_option maxHeartbeats 2000000 in
theorem ConfAddrs_row (s : ByteArray) (a : Int) (w : World) (m : Int) (hs : s.size ≤ 1048576) (h0 : 0 ≤ a) (h1 : a < 4294967296) (hm : w.cell? ⟨0, 0, none⟩ = some (.int .i64 m)) (htab : Lib.TabIs Tryd.prog w "internal/strconv.uint64pow10" .u64 Lib.pow10Tab) :
    Calls Tryd.prog 3 #[.string s, .int .u32 a] w fun e w' => e = .returned (.bool true) ∧ Below w.heap.size w w' := by
  have HT := Lib.tabBelow_of_tabIs htab
  have hz := World.block_lt_of_cell? w _ hm
  have HM : Hid (∀ v, Below w.heap.size w v → v.cell? ⟨0, 0, none⟩ = some (.int .i64 m)) := fun v hb => by rw [hb.cell (p := ⟨0, 0, none⟩) hz]; exact hm
  have HTb : Hid (∀ v, Below w.heap.size w v → Lib.TabBelow Tryd.prog v.heap.size v "internal/strconv.uint64pow10" .u64 Lib.pow10Tab) := fun v hb => Lib.tabBelow_of_tabIs (HT v hb)
  clear HT hz hm htab
  have HA : Hid (∀ v, Below w.heap.size w v → Calls Tryd.prog 4 #[.string s] v fun e v' => e = .returned (.tuple #[.int .u32 (axV (ct 46 [] s.data.toList)), .int .i64 (axE (ct 46 [] s.data.toList))]) ∧ Below v.heap.size v v') := fun v hb => addr_any s v m hs (HM.out v hb)
  have HR : Hid (∀ v, Calls Tryd.prog 5 #[.string s] v fun e v' => e = .returned (.tuple #[.int .u32 (axV (ct 46 [] s.data.toList)), .int .i64 (axE (ct 46 [] s.data.toList))]) ∧ Below v.heap.size v v') := fun v => raddr_any s v hs
  have ap := ad_pa a h0 h1
  obtain ⟨Pd, hPd⟩ : ∃ P, P = tx (pa a) := ⟨_, rfl⟩
  have HP : Hid (∀ v, Below w.heap.size w v → Calls Tryd.prog 6 #[.int .u32 a] v fun e v' => e = .returned (.string Pd) ∧ Below v.heap.size v v') := fun v hb => by rw [hPd]; exact print_any a v h0 h1 (HTb.out v hb)
  have HQ : Hid (∀ v, Below w.heap.size w v → Calls Tryd.prog 4 #[.string Pd] v fun e v' => e = .returned (.tuple #[.int .u32 a, .int .i64 0]) ∧ Below v.heap.size v v') := fun v hb => by
    have h := addr_any Pd v m (by rw [hPd]; have := pa_len a; rw [show (tx (pa a)).size = (pa a).length from rfl]; omega) (HM.out v hb)
    rw [hPd, tx_data, (ax_yes ap.1).1, (ax_yes ap.1).2, ap.2, ← hPd] at h
    exact h
  have HRP : Hid (∀ v, Calls Tryd.prog 7 #[.int .u32 a] v fun e v' => e = .returned (.string Pd) ∧ ∃ m, v' = v.drewN m) := fun v => by rw [hPd]; exact rprint_any a v h0 h1
  obtain ⟨X, hX⟩ : ∃ X, X = axV (ct 46 [] s.data.toList) := ⟨_, rfl⟩
  obtain ⟨E, hE⟩ : ∃ E, E = axE (ct 46 [] s.data.toList) := ⟨_, rfl⟩
  rw [← hX, ← hE] at HA HR
  have HX : Hid ((E = 0 ∧ ∀ v, Below w.heap.size w v → Calls Tryd.prog 6 #[.int .u32 X] v fun e v' => e = .returned (.string s) ∧ Below v.heap.size v v') ∨ (E ≠ 0)) := by
    show _ ∨ _
    cases hb : adB (ct 46 [] s.data.toList) with
    | true =>
      left
      have hx := (ax_yes hb).1
      refine ⟨by rw [hE]; exact (ax_yes hb).2, fun v hv => ?_⟩
      have hbd : 0 ≤ X ∧ X < 4294967296 := by
        rw [hX, hx]
        unfold adB at hb
        rw [Bool.and_eq_true, decide_eq_true_eq] at hb
        have := adV_bd _ hb.2
        rw [hb.1] at this
        exact ⟨this.1, Int.lt_of_lt_of_le this.2 (by decide)⟩
      have h := print_any X v hbd.1 hbd.2 (HTb.out v hv)
      have e : tx (pa X) = s := eq_tx (by rw [hX, hx, pa_back hb])
      rw [e] at h
      exact h
    | false => right; rw [hE, (ax_no hb).2]; decide
  clear hX hE hPd ap
  go_enter Tryd.func3, Tryd.ntmps3
  go_wp2_with fail
  refine (HA.out _ (Below.refl _ _)).mono ?_
  rintro e w1 ⟨rfl, hb1⟩
  have B1 : Hid (Below w.heap.size w w1) := hb1
  clear hb1
  go_wp2_with fail
  refine (HR.out _).mono ?_
  rintro e w2 ⟨rfl, hb2⟩
  have B2 : Hid (Below w.heap.size w w2) := B1.out.trans (hb2.mono B1.out.size)
  clear hb2 B1
  go_wp2_with fail
  refine (HP.out _ B2.out).mono ?_
  rintro e w3 ⟨rfl, hb3⟩
  have B3 : Hid (Below w.heap.size w w3) := B2.out.trans (hb3.mono B2.out.size)
  clear hb3 B2
  go_wp2_with fail
  refine (HQ.out _ B3.out).mono ?_
  rintro e w4 ⟨rfl, hb4⟩
  have B4 : Hid (Below w.heap.size w w4) := B3.out.trans (hb4.mono B3.out.size)
  clear hb4 B3
  rcases HX.out with ⟨hE0, hpx⟩ | hE0
  · have HPX : Hid (∀ v, Below w.heap.size w v → Calls Tryd.prog 6 #[.int .u32 X] v fun e v' => e = .returned (.string s) ∧ Below v.heap.size v v') := hpx
    have hEb : (E != 0) = false := by rw [hE0]; rfl
    have hEb2 : (E == E) = true := by simp
    clear hpx HX hE0
    go_wp2_with fail
    refine (HRP.out _).mono ?_
    rintro e w5 ⟨rfl, m5, rfl⟩
    go_wp2_with fail
    refine (HPX.out _ (below_drewN B4.out m5)).mono ?_
    rintro e w6 ⟨rfl, hb6⟩
    have B6 : Hid (Below w.heap.size w w6) := (below_drewN B4.out m5).trans (hb6.mono (below_drewN B4.out m5).size)
    clear hb6
    go_wp2_with fail
    go_ret
    exact ⟨rfl, B6.out⟩
  · have hEb : (E != 0) = true := by rw [bne_iff_ne]; exact hE0
    have hEb2 : (E == E) = true := by simp
    clear HX hE0
    go_wp2_with fail
    refine (HRP.out _).mono ?_
    rintro e w5 ⟨rfl, m5, rfl⟩
    go_wp2_with fail
    go_ret
    exact ⟨rfl, below_drewN B4.out m5⟩
theorem u32_wf {a : Int} (h : (Lit.int .u32 a).wf = true) : 0 ≤ a ∧ a < 4294967296 := by
  have e1 : IntKind.u32.min = 0 := by decide
  have e2 : IntKind.u32.max = 4294967295 := by decide
  simp [Lit.wf, e1, e2] at h
  omega
/-- a slice of bytes that came in -/
theorem ConfAddrs_walk (s : ByteArray) (a : Int) (w : World) (m : Int) (hs : s.size ≤ 1048576) (ha : (Lit.int .u32 a).wf = true) (hm : w.cell? ⟨0, 0, none⟩ = some (.int .i64 m)) (htab : Lib.TabIs Tryd.prog w "internal/strconv.uint64pow10" .u64 Lib.pow10Tab) :
    Calls Tryd.prog 3 #[.string s, .int .u32 a] w fun e w' => e = .returned (.bool true) ∧ Below w.heap.size w w' :=
  ConfAddrs_row s a w m hs (u32_wf ha).1 (u32_wf ha).2 hm htab
end Go.Proofs.YtchhcipoicpglaaDoor
