/- LoopSlews, walked. -/
import Derived.Test.YtbagfnafkpbanaaLpK
namespace Go.Proofs.Ytbagfnafkpbanaa
open Go Go.RowKit Go.Sort
set_option linter.unusedVariables false
/-- what was driven in is L; what is left has its sign, and is no more -/
structure Sw (L : Int) (s : Lp) : Prop where
  ok : OkL s
  b0 : -4611686018427387904 ≤ L
  b1 : L ≤ 4611686018427387904
  ge : 0 ≤ L → 0 ≤ s.left ∧ s.left ≤ L
  lt : L < 0 → L ≤ s.left ∧ s.left ≤ 0
theorem Sw.tic {L : Int} {s : Lp} (h : Sw L s) : Sw L (ticS s) := by
  have hb := tk_bd h.ok
  have h1 := h.ge; have h2 := h.lt
  refine ⟨h.ok.tic, h.b0, h.b1, ?_, ?_⟩ <;> simp only [ticS] <;> omega
theorem Sw.x {L : Int} {s : Lp} (h : Sw L s) : (0 < L ∧ 0 ≤ tkX s) ∨ (L = 0 ∧ tkX s = 0) ∨ (L < 0 ∧ tkX s ≤ 0) := by
  have hb := tk_bd h.ok
  have h1 := h.ge; have h2 := h.lt
  omega
set_option maxRecDepth 20000 in
set_option maxHeartbeats 2000000 in
theorem LoopSlews_row (c : List Value) (o : Int) (sec : Int) (st pa so : Int) (w : World) (hc : Cg c st pa so) (ho : -9223372036854775808 ≤ o ∧ o ≤ 9223372036854775807) (hsec : 0 ≤ sec ∧ sec < 65536) :
    Calls Try.prog 7 #[.agg c.toArray, .int .i64 o, .int .u16 sec] w fun e w' => e = .returned (.bool true) ∧ Below w.heap.size w w' := by
  have HG : Hid (Cg c st pa so ∧ (-9223372036854775808 ≤ o ∧ o ≤ 9223372036854775807) ∧ (Try.prog.info? 29).map (·.size) = some c.length) := ⟨hc, ho, by rw [hc.len]; kernel_rfl⟩
  obtain ⟨n, hn⟩ : ∃ n : Nat, sec.tmod 3000 = (n : Int) := by
    have h1 := Int.emod_nonneg sec (show (3000 : Int) ≠ 0 by decide)
    exact ⟨(sec % 3000).toNat, by rw [Int.tmod_eq_emod_of_nonneg hsec.1]; omega⟩
  have hnb : (n : Int) < 3000 := by
    rw [← hn, Int.tmod_eq_emod_of_nonneg hsec.1]
    exact Int.emod_lt_of_pos _ (by decide)
  have w1' : wrap64 sec = sec := w64i _ (by omega) (by omega)
  have w2' : IntKind.i64.wrap sec = sec := by rw [IntWalk.i64_left]; exact w1'
  clear hc ho hsec
  go_enter Try.func7, Try.ntmps7
  refine post_hid fun Q hQ => ?_
  refine seq_hid fun R hR => ?_
  go_wp2_with (refine step_boxL (by rfl) 29 _ rfl c.toArray (by rfl) (fun u => by rfl) ?_; intro W g HW)
  rw [hR.out]
  clear hR
  have HC : Hid (∀ j u, c[j]? = some u → W.cell? ((⟨g, 0, none⟩ : Addr).add j) = some u) := cells_of HW.out.bk
  obtain ⟨s0, hs0⟩ : ∃ s0, newS st pa so 0 true = s0 := ⟨_, rfl⟩
  have HO : Hid (OkL s0 ∧ newS st pa so 0 true = s0 ∧ s0.left = 0 ∧ s0.st = 1) := ⟨by rw [← hs0]; exact OkL.new _ _ _ _ _, hs0, by rw [← hs0]; rfl, by rw [← hs0]; rfl⟩
  clear hs0
  have HN := wl_new HG.out.1 HW.out.bk HW.out.be (by rw [HW.out.at']; exact Nat.le_refl _) 0 true
  rw [HO.out.2.1] at HN
  have HN : Hid (Calls Try.prog 9 #[.agg c.toArray, .int .i64 0, .bool true] W _) := HN
  refine seq_hid fun R hR => ?_
  go_wp2_with (first
    | (refine step_ldat 29 _ rfl rfl ⟨g, 0, none⟩ (by rfl) c _ Try.underlying29 rfl HG.out.2.2 HC.out ?_)
    | (go_at_call 9; refine HN.out.mono ?_; rintro e w1 ⟨p, rfl, hp1, hp2, hb1⟩; have H1 : Hid (Wl w g c.toArray p s0 w1) := hp1; clear hp1 hp2 hb1))
  rw [hR.out]
  clear hR HN HC
  obtain ⟨A, hA⟩ : ∃ A, (upd s0 o 0 5).2.1 = A := ⟨_, rfl⟩
  obtain ⟨X, hX⟩ : ∃ X, (upd s0 o 0 5).2.2 = X := ⟨_, rfl⟩
  obtain ⟨S, hS⟩ : ∃ S, (upd s0 o 0 5).1 = S := ⟨_, rfl⟩
  have KU : Hid ((∀ u, Wl w g c.toArray p s0 u → Calls Try.prog 14 #[.pointer (some ⟨p, 0, none⟩), .int .i64 o, .int .i64 0, .int .i64 5] u fun e w' => e = .returned (.tuple #[.int .i64 A, .int .i64 X]) ∧ Wl w g c.toArray p S w') ∧ (∀ q u, Rp u q s0 → Calls Try.prog 19 #[.pointer (some ⟨q, 0, none⟩), .int .i64 o, .int .i64 0, .int .i64 5] u fun e w' => e = .returned (.tuple #[.int .i64 A, .int .i64 X]) ∧ Rp w' q S ∧ u.grownBy w' (some q)) ∧ OkL S ∧ ((A = 1 ∧ Sw S.left S) ∨ (A ≠ 1 ∧ S.left = 0))) := by
    have hs := upd_says HO.out.1 o 0 5
    have hok := HO.out.1.upd o 0 5
    rw [hA, hX, hS] at hs
    rw [hS] at hok
    have hb := sv_bd o
    refine ⟨fun u hu => ?_, fun q u hu => ?_, hok, ?_⟩
    · have := wl_upd hu HO.out.1 o 0 5 HG.out.2.1 (by omega)
      rw [hA, hX, hS] at this
      exact this
    · have := rupdate_any q s0 o 0 5 u hu HO.out.1 HG.out.2.1 (by omega)
      rw [hA, hX, hS] at this
      exact this
    · rcases hs with ⟨h1, -, -, h2⟩ | ⟨h1, -, -, -, -, -, -, h2⟩ | ⟨h1, -, -, -, -, h2⟩ | ⟨-, -, -, -, -, -, h2⟩
      · exact .inr ⟨by omega, by rw [h2]; exact HO.out.2.2.1⟩
      · exact .inr ⟨by omega, h2⟩
      · exact .inl ⟨h1, hok, hok.l0, hok.l1, fun h => ⟨h, Int.le_refl _⟩, fun h => ⟨Int.le_refl _, by omega⟩⟩
      · exact absurd HO.out.2.2.2 h2
  clear hA hX hS
  refine seq_hid fun R hR => ?_
  go_wp2_with (go_at_call 14; refine (KU.out.1 _ H1.out).mono ?_; rintro e w2 ⟨rfl, h2⟩; have H2 : Hid (Wl w g c.toArray p S w2) := h2; clear h2)
  rw [hR.out]
  clear hR
  have HC : Hid (∀ j u, c[j]? = some u → w2.cell? ((⟨g, 0, none⟩ : Addr).add j) = some u) := cells_of H2.out.ck
  have HN : Hid (Calls Try.prog 13 #[.agg c.toArray, .int .i64 0, .bool true] w2 _) := rnew_any c st pa so 0 true w2 HG.out.1 (by omega)
  refine seq_hid fun R hR => ?_
  go_wp2_with (first
    | (refine step_ldat 29 _ rfl rfl ⟨g, 0, none⟩ (by rfl) c _ Try.underlying29 rfl HG.out.2.2 HC.out ?_)
    | (go_at_call 13; refine HN.out.mono ?_; rintro e w3 ⟨q, rfl, hq⟩; have H3 : Hid (Wl w g c.toArray p S w3 ∧ Rp w3 q s0 ∧ q ≠ p ∧ q ≠ g ∧ w.heap.size ≤ q) := (⟨H2.out.thru hq.be, (HO.out.2.1 ▸ hq.rp), (fun e => by have := Bk.lt H2.out.po; have := hq.hq; omega), (fun e => by have := H2.out.ck.lt; have := hq.hq; omega), Nat.le_trans H2.out.be.size hq.hq⟩); clear hq)
    | (go_at_call 19; refine (KU.out.2.1 q _ H3.out.2.1).mono ?_; rintro e w4 ⟨rfl, -, g4⟩; have H4 : Hid (Wl w g c.toArray p S w4) := (H3.out.1.other g4 H3.out.2.2.2.2 H3.out.2.2.1 H3.out.2.2.2.1); clear g4))
  rw [hR.out]
  clear hR HN HC
  refine seq_hid fun R hR => ?_
  go_wp2_with fail
  rw [hR.out]
  clear hR H1 H2 H3 HW
  rcases KU.out.2.2.2 with ⟨hA, hL⟩ | ⟨hA, hL⟩
  · subst hA
    obtain ⟨L, eL⟩ : ∃ L, S.left = L := ⟨_, rfl⟩
    rw [eL] at hL
    have HL : Hid (Sw L S ∧ 0 = L - S.left) := ⟨hL, by omega⟩
    clear hL KU
    refine seq_hid fun R hR => ?_
    go_wp2_with fail
    rw [hR.out]
    clear hR
    refine seq_hid fun R hR => ?_
    go_wp2_with (go_at_call 11; refine (wl_left H4.out L eL).mono ?_; rintro e w5 ⟨rfl, hw⟩; rw [hw]; clear hw)
    rw [hR.out]
    clear hR
    clear eL
    have HN3 : Hid ((n : Int) < 3000) := hnb
    go_wp2_with fail
    go_loopw [13, 14, 15] (fun m i x wr => ∃ (k : Nat) (M : Int) (s : Lp), i = .int .i64 k ∧ m = .int .i64 M ∧ (k : Int) ≤ n ∧ Hid (Wl w g c.toArray p s wr ∧ Sw L s ∧ M = L - s.left)) (fun _ i _ _ => n - (intOf i).toNat)
    case atStart => exact ⟨0, 0, S, rfl, rfl, by omega, ⟨H4.out, HL.out⟩⟩
    case round =>
      obtain ⟨k, M, s, rfl, rfl, hk, HS⟩ := hrel
      by_cases hlt : (k : Int) < n
      · obtain ⟨X, hX⟩ : ∃ X, tkX s = X := ⟨_, rfl⟩
        obtain ⟨L2, hL2⟩ : ∃ L2, (ticS s).left = L2 := ⟨_, rfl⟩
        obtain ⟨M2, hM2⟩ : ∃ M2, M + X = M2 := ⟨_, rfl⟩
        have e1 : s.left - X = L2 := by rw [← hX, ← hL2]; rfl
        have e2 : L - M2 = L2 := by have := HS.out.2.2; omega
        have hx := HS.out.2.1.x
        rw [hX] at hx
        have HT : Hid (Wl w g c.toArray p s wr ∧ (∀ u, Wl w g c.toArray p s u → Calls Try.prog 10 #[.pointer (some ⟨p, 0, none⟩)] u fun e w' => e = .returned (.int .i64 X) ∧ Wl w g c.toArray p (ticS s) w') ∧ (ticS s).left = L2 ∧ Sw L (ticS s) ∧ M2 = L - (ticS s).left) := by
          refine ⟨HS.out.1, fun u hu => ?_, hL2, HS.out.2.1.tic, by omega⟩
          rw [← hX]
          exact wl_tick hu HS.out.2.1.ok
        have b := HS.out.2.1
        obtain ⟨u1, u2⟩ := wrapS hM2 (by have := b.ok.l0; have := b.ok.l1; have := b.ge; have := b.lt; have := b.b0; have := b.b1; have := tk_bd b.ok; omega) (by have := b.ok.l0; have := b.ok.l1; have := b.ge; have := b.lt; have := b.b0; have := b.b1; have := tk_bd b.ok; omega)
        obtain ⟨u3, u4⟩ := wrapS e2 (by have := b.tic.ok.l0; omega) (by have := b.tic.ok.l1; omega)
        clear hX hL2 hM2 e1 e2 b
        rcases hx with ⟨a1, a2⟩ | ⟨a1, a2⟩ | ⟨a1, a2⟩
        · have a3 : decide (0 ≤ L) = true := by simp; omega
          have a4 : decide (X < 0) = false := by simp; omega
          have a5 : decide (L ≤ 0) = false := by simp; omega
          clear a1 a2
          go_wp2_with (first
            | (go_at_call 10; refine (HT.out.2.1 _ HT.out.1).mono ?_; rintro e w6 ⟨rfl, h6⟩; have H6 : Hid (Wl w g c.toArray p (ticS s) w6) := h6; clear h6)
            | (go_at_call 11; refine (wl_left H6.out L2 HT.out.2.2.1).mono ?_; rintro e w7 ⟨rfl, hw⟩; rw [hw]; clear hw))
          go_roundw
          case rel => exact ⟨k + 1, M2, ticS s, by go_num, rfl, by omega, ⟨H6.out, HT.out.2.2.2⟩⟩
          case measure => simp [intOf]; omega
        · have a3 : decide (0 ≤ L) = true := by simp; omega
          have a4 : decide (X < 0) = false := by simp; omega
          have a5 : decide (L ≤ 0) = true := by simp; omega
          have a6 : decide (0 < X) = false := by simp; omega
          clear a1 a2
          go_wp2_with (first
            | (go_at_call 10; refine (HT.out.2.1 _ HT.out.1).mono ?_; rintro e w6 ⟨rfl, h6⟩; have H6 : Hid (Wl w g c.toArray p (ticS s) w6) := h6; clear h6)
            | (go_at_call 11; refine (wl_left H6.out L2 HT.out.2.2.1).mono ?_; rintro e w7 ⟨rfl, hw⟩; rw [hw]; clear hw))
          go_roundw
          case rel => exact ⟨k + 1, M2, ticS s, by go_num, rfl, by omega, ⟨H6.out, HT.out.2.2.2⟩⟩
          case measure => simp [intOf]; omega
        · have a3 : decide (0 ≤ L) = false := by simp; omega
          have a5 : decide (L ≤ 0) = true := by simp; omega
          have a6 : decide (0 < X) = false := by simp; omega
          clear a1 a2
          go_wp2_with (first
            | (go_at_call 10; refine (HT.out.2.1 _ HT.out.1).mono ?_; rintro e w6 ⟨rfl, h6⟩; have H6 : Hid (Wl w g c.toArray p (ticS s) w6) := h6; clear h6)
            | (go_at_call 11; refine (wl_left H6.out L2 HT.out.2.2.1).mono ?_; rintro e w7 ⟨rfl, hw⟩; rw [hw]; clear hw))
          go_roundw
          case rel => exact ⟨k + 1, M2, ticS s, by go_num, rfl, by omega, ⟨H6.out, HT.out.2.2.2⟩⟩
          case measure => simp [intOf]; omega
      · obtain ⟨z1, hz1⟩ : ∃ z, szS (sv M) = z := ⟨_, rfl⟩
        obtain ⟨z2, hz2⟩ : ∃ z, szS (sv L) = z := ⟨_, rfl⟩
        have hz : z1 ≤ z2 := by
          have b := HS.out.2.1
          have := b.ge; have := b.lt; have := b.b0; have := b.b1; have := HS.out.2.2
          rw [← hz1, ← hz2, szS_sv, szS_sv, sv_in (by omega) (by omega), sv_in (by omega) (by omega)]
          omega
        have HZ : Hid ((∀ u, Calls Try.prog 17 #[.int .i64 M] u fun e w' => e = .returned (.int .i64 z1) ∧ w' = u) ∧ (∀ u, Calls Try.prog 17 #[.int .i64 L] u fun e w' => e = .returned (.int .i64 z2) ∧ w' = u)) := by
          have b := HS.out.2.1
          have := b.ge; have := b.lt; have := b.b0; have := b.b1; have := HS.out.2.2
          rw [← hz1, ← hz2]
          exact ⟨fun u => lsize_any _ _ (by omega), fun u => lsize_any _ _ (by omega)⟩
        clear hz1 hz2
        go_wp2_with (go_at_call 17; first | (refine (HZ.out.1 _).mono ?_; rintro e w7 ⟨rfl, hw⟩; rw [hw]; clear hw) | (refine (HZ.out.2 _).mono ?_; rintro e w7 ⟨rfl, hw⟩; rw [hw]; clear hw))
        rw [hQ.out]
        go_ret
        exact ⟨rfl, HS.out.1.be⟩
  · have hA2 : (A == 1) = false := by simpa using hA
    go_wp2_with (go_at_call 11; refine (wl_left H4.out 0 hL).mono ?_; rintro e w5 ⟨rfl, hw⟩; rw [hw]; clear hw)
    rw [hQ.out]
    go_ret
    exact ⟨rfl, H4.out.be⟩
end Go.Proofs.Ytbagfnafkpbanaa
