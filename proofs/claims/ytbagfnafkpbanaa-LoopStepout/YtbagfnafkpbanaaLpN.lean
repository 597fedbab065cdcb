/- LoopStepout, walked. -/
import Derived.Test.YtbagfnafkpbanaaLpK
namespace Go.Proofs.Ytbagfnafkpbanaa
open Go Go.RowKit Go.Sort
set_option linter.unusedVariables false
/-- steady, or behind a spike at t -/
structure Sk (so : Int) (s : Lp) (t : Int) : Prop where
  ok : OkL s
  so' : s.stepout = so
  so1 : 1 ≤ so
  st : s.st = 4 ∨ (s.st = 2 ∧ s.wn = t ∧ 0 ≤ t)
  tb : -1 ≤ t ∧ t ≤ 1073741824
theorem Sk.after {so : Int} {s : Lp} {t : Int} (h : Sk so s t) (o n : Int) (hn : 0 ≤ n ∧ n ≤ 1073741824) : ∃ (A X : Int) (s' : Lp), (upd s o 0 n).2.1 = A ∧ (upd s o 0 n).2.2 = X ∧ (upd s o 0 n).1 = s' ∧
    ((s.st = 4 ∧ s'.st = 2 ∧ A = 0 ∧ Sk so s' n) ∨ (s.st = 4 ∧ s'.st = 4 ∧ A ≠ 2 ∧ Sk so s' t) ∨ (s.st = 2 ∧ A ≠ 2 ∧ Sk so s' t) ∨ (s.st = 2 ∧ A = 2 ∧ 0 ≤ t ∧ so ≤ n - t ∧ Sk so s' t)) := by
  have hs := upd_says h.ok o 0 n
  have h2 := (upd_same (s := s) o 0 n).2.2
  have hok := h.ok.upd o 0 n
  have hc : ck n = n := by unfold ck; omega
  have htb := h.tb
  refine ⟨_, _, _, rfl, rfl, rfl, ?_⟩
  rw [h.so'] at h2
  have key : ∀ t', (-1 ≤ t' ∧ t' ≤ 1073741824) → ((upd s o 0 n).1.st = 4 ∨ ((upd s o 0 n).1.st = 2 ∧ (upd s o 0 n).1.wn = t' ∧ 0 ≤ t')) → Sk so (upd s o 0 n).1 t' := fun t' hb h' => ⟨hok, h2, h.so1, h', hb⟩
  rcases h.st with h4 | ⟨h4, hw, h0⟩
  · rcases hs with ⟨h1, h3, h5, h6⟩ | ⟨h1, h3, h5, h6, h7, -⟩ | ⟨h1, h3, h5, h6, h7, -⟩ | ⟨h1, h3, h5, h6, -⟩
    · exact .inr (.inl ⟨h4, by rw [h6]; exact h4, by omega, key t htb (.inl (by rw [h6]; exact h4))⟩)
    · exact absurd h4 h7
    · exact .inr (.inl ⟨h4, h7, by omega, key t htb (.inl h7)⟩)
    · have e := h6 h4
      rw [hc] at e
      exact .inl ⟨h4, by rw [e], h1, key n (by omega) (.inr ⟨by rw [e], by rw [e], hn.1⟩)⟩
  · rcases hs with ⟨h1, h3, h5, h6⟩ | ⟨h1, h3, h5, h6, h7, h8, h9, -⟩ | ⟨h1, h3, h5, h6, h7, -⟩ | ⟨h1, h3, h5, h6, h7, -⟩
    · exact .inr (.inr (.inl ⟨h4, by omega, key t htb (.inr (by rw [h6]; exact ⟨h4, hw, h0⟩))⟩))
    · have h10 := h8 h4
      rw [hc, h.so'] at h10
      unfold sinS at h10
      rw [if_neg (by omega)] at h9
      refine .inr (.inr (.inr ⟨h4, h1, h0, ?_, key t htb (.inl h9)⟩))
      have := h.so1
      omega
    · exact .inr (.inr (.inl ⟨h4, by omega, key t htb (.inl h7)⟩))
    · have e := h7 h4
      exact .inr (.inr (.inl ⟨h4, by omega, key t htb (.inr (by rw [e]; exact ⟨h4, hw, h0⟩))⟩))
set_option maxRecDepth 20000 in
set_option maxHeartbeats 4000000 in
theorem LoopStepout_row (c : List Value) (f : Int) (v : Value) (gap : Int) (st pa so : Int) (ss : List Int) (w : World) (hc : Cg c st pa so) (hf : -9223372036854775808 ≤ f ∧ f ≤ 9223372036854775807) (hv : So w.heap.size w v ss) (hg : 0 ≤ gap ∧ gap < 256) :
    Calls Try.prog 6 #[.agg c.toArray, .int .i64 f, v, .int .u8 gap] w fun e w' => e = .returned (.bool true) ∧ Below w.heap.size w w' := by
  obtain ⟨ao, cap, rfl, -⟩ := hv.ex
  obtain ⟨n, hn⟩ : ∃ n, n = ss.length := ⟨_, rfl⟩
  rw [← hn] at hv ⊢
  have HV : Hid (So w.heap.size w (.slice ao n cap) ss ∧ n = ss.length ∧ (0 ≤ gap ∧ gap < 256)) := ⟨hv, hn, hg⟩
  have HG : Hid (Cg c st pa so ∧ (-9223372036854775808 ≤ f ∧ f ≤ 9223372036854775807) ∧ (Try.prog.info? 29).map (·.size) = some c.length) := ⟨hc, hf, by rw [hc.len]; kernel_rfl⟩
  have g1 : wrap64 gap = gap := w64i _ (by omega) (by omega)
  have g2 : IntKind.i64.wrap gap = gap := by rw [IntWalk.i64_left]; exact g1
  clear hv hn hc hf hg
  go_enter Try.func6, Try.ntmps6
  refine post_hid fun Q hQ => ?_
  refine seq_hid fun R hR => ?_
  go_wp2_with (refine step_boxL (by rfl) 29 _ rfl c.toArray (by rfl) (fun u => by rfl) ?_; intro W g HW)
  rw [hR.out]
  clear hR
  have HC : Hid (∀ j u, c[j]? = some u → W.cell? ((⟨g, 0, none⟩ : Addr).add j) = some u) := cells_of HW.out.bk
  have c12 : W.cell? ⟨g, 12, none⟩ = some (.int .i64 so) := by rw [HW.out.bk.cell 12, List.getElem?_toArray]; exact HG.out.1.c12
  by_cases z0 : 16384 < (n : Int)
  · go_wp2_with fail
    rw [hQ.out]
    go_ret
    exact ⟨rfl, HW.out.be⟩
  by_cases z1 : so < 1
  · go_wp2_with fail
    rw [hQ.out]
    go_ret
    exact ⟨rfl, HW.out.be⟩
  by_cases z2 : 1048576 < so
  · go_wp2_with fail
    rw [hQ.out]
    go_ret
    exact ⟨rfl, HW.out.be⟩
  refine seq_hid fun R hR => ?_
  go_wp2_with fail
  rw [hR.out]
  clear hR c12
  have HBD : Hid ((n : Int) ≤ 16384 ∧ 1 ≤ so ∧ so ≤ 1048576) := ⟨by omega, by omega, by omega⟩
  clear z1 z2
  obtain ⟨s0, hs0⟩ : ∃ s0, newS st pa so f true = s0 := ⟨_, rfl⟩
  have HO : Hid (OkL s0 ∧ newS st pa so f true = s0 ∧ s0.stepout = so ∧ s0.st = 1) := ⟨by rw [← hs0]; exact OkL.new _ _ _ _ _, hs0, by have := HBD.out; rw [← hs0]; show max 0 (min so 1048576) = so; omega, by rw [← hs0]; rfl⟩
  clear hs0
  have HN := wl_new HG.out.1 HW.out.bk HW.out.be (by rw [HW.out.at']; exact Nat.le_refl _) f true
  rw [HO.out.2.1] at HN
  have HN : Hid (Calls Try.prog 9 #[.agg c.toArray, .int .i64 f, .bool true] W _) := HN
  refine seq_hid fun R hR => ?_
  go_wp2_with (first
    | (refine step_ldat 29 _ rfl rfl ⟨g, 0, none⟩ (by rfl) c _ Try.underlying29 rfl HG.out.2.2 HC.out ?_)
    | (go_at_call 9; refine HN.out.mono ?_; rintro e w1 ⟨p, rfl, hp1, hp2, hb1⟩; have H1 : Hid (Wl w g c.toArray p s0 w1) := hp1; clear hp1 hp2 hb1))
  rw [hR.out]
  clear hR HN HC HW
  obtain ⟨A0, hA⟩ : ∃ A, (upd s0 0 0 0).2.1 = A := ⟨_, rfl⟩
  obtain ⟨X0, hX⟩ : ∃ X, (upd s0 0 0 0).2.2 = X := ⟨_, rfl⟩
  obtain ⟨s1, hS⟩ : ∃ S, (upd s0 0 0 0).1 = S := ⟨_, rfl⟩
  have KU : Hid ((∀ u, Wl w g c.toArray p s0 u → Calls Try.prog 14 #[.pointer (some ⟨p, 0, none⟩), .int .i64 0, .int .i64 0, .int .i64 0] u fun e w' => e = .returned (.tuple #[.int .i64 A0, .int .i64 X0]) ∧ Wl w g c.toArray p s1 w') ∧ s1.st = 4 ∧ Sk so s1 (-1)) := by
    have hs := upd_says HO.out.1 0 0 0
    have hok := HO.out.1.upd 0 0 0
    have h2 := (upd_same (s := s0) 0 0 0).2.2
    have z : szS (sv 0) = 0 := by decide
    rw [z, hA, hX, hS] at hs
    rw [hS] at hok h2
    have p0 := HO.out.1.p0
    have m0 := HO.out.1.m0
    have h4 : s1.st = 4 := by
      rcases hs with ⟨h1, h3, h5, h6⟩ | ⟨h1, h3, h5, h6, -⟩ | ⟨h1, h3, h5, h6, h7, -⟩ | ⟨h1, h3, h5, h6, h7, h8, h9⟩
      · omega
      · omega
      · exact h7
      · exact absurd HO.out.2.2.2 h9
    refine ⟨fun u hu => ?_, h4, hok, by rw [h2]; exact HO.out.2.2.1, HBD.out.2.1, .inl h4, by omega⟩
    have := wl_upd hu HO.out.1 0 0 0 (by omega) (by omega)
    rw [hA, hX, hS] at this
    exact this
  clear hA hX hS
  refine seq_hid fun R hR => ?_
  go_wp2_with (go_at_call 14; refine (KU.out.1 _ H1.out).mono ?_; rintro e w2 ⟨rfl, h2⟩; have H2 : Hid (Wl w g c.toArray p s1 w2) := h2; clear h2)
  rw [hR.out]
  clear hR H1
  refine seq_hid fun R hR => ?_
  go_wp2_with (go_at_call 15; refine (wl_state H2.out 4 KU.out.2.1).mono ?_; rintro e w3 ⟨rfl, hw⟩; rw [hw]; clear hw)
  rw [hR.out]
  clear hR
  have HL : Hid (Sk so s1 (-1)) := KU.out.2.2
  clear KU HO
  go_wp2_with fail
  go_loopw [10, 11, 12] (fun sp nw i wr => ∃ (k : Nat) (t T : Int) (s : Lp), i = .int .i64 k ∧ sp = .int .i64 t ∧ nw = .int .i64 T ∧ (k : Int) ≤ n ∧ Hid (Wl w g c.toArray p s wr ∧ Sk so s t ∧ 0 ≤ T ∧ T ≤ 255 * k)) (fun _ _ i _ => n - (intOf i).toNat)
  case atStart => exact ⟨0, -1, 0, s1, rfl, rfl, rfl, by omega, ⟨H2.out, HL.out, by omega, by omega⟩⟩
  case round =>
    obtain ⟨k, t, T, s, rfl, rfl, rfl, hk, HS⟩ := hrel
    by_cases hlt : (k : Int) < n
    · have hkx : k < ss.length := by have := HV.out.2.1; omega
      obtain ⟨ad, hix, hab, hac, hok⟩ := (HV.out.1.below HS.out.1.be (Nat.le_refl _)).at k hkx
      obtain ⟨yo, hy⟩ : ∃ y, y = ss.getD k 0 := ⟨_, rfl⟩
      rw [← hy] at hac hok
      obtain ⟨T2, hT2⟩ : ∃ T2, T + gap = T2 := ⟨_, rfl⟩
      have HT : Hid (0 ≤ T2 ∧ T2 ≤ 255 * (k + 1)) := by have := HS.out.2.2; have := HV.out.2.2; exact ⟨by omega, by omega⟩
      have HT3 : Hid (0 ≤ T2 ∧ T2 ≤ 1073741824) := by have := HT.out; have := HBD.out.1; exact ⟨by omega, by omega⟩
      obtain ⟨u1, u2⟩ := wrapS hT2 (by have := HT3.out; omega) (by have := HT3.out; omega)
      obtain ⟨D, hD⟩ : ∃ D, T2 - t = D := ⟨_, rfl⟩
      obtain ⟨u3, u4⟩ := wrapS hD (by have := HT3.out; have := HS.out.2.1.tb; omega) (by have := HT3.out; have := HS.out.2.1.tb; omega)
      obtain ⟨A, X, s', hA, hX, hs', hcs⟩ := HS.out.2.1.after yo T2 HT3.out
      have KU : Hid (∀ u, Wl w g c.toArray p s u → Calls Try.prog 14 #[.pointer (some ⟨p, 0, none⟩), .int .i64 yo, .int .i64 0, .int .i64 T2] u fun e w' => e = .returned (.tuple #[.int .i64 A, .int .i64 X]) ∧ Wl w g c.toArray p s' w') := fun u hu => by
        rw [← hA, ← hX, ← hs']
        exact wl_upd hu HS.out.2.1.ok yo 0 T2 hok (by omega)
      have HD : Hid (T2 - t = D) := hD
      clear hab hy hkx hA hX hs' hok hT2 hD
      rcases hcs with ⟨h1, h2, h3, h4⟩ | ⟨h1, h2, h3, h4⟩ | ⟨h1, h3, h4⟩ | ⟨h1, h3, h5, h6, h4⟩
      · subst h3
        have HK : Hid (Sk so s' T2) := h4
        have hw0 : s.st = 4 := h1
        have ht : s'.st = 2 := h2
        clear h1 h2 h4
        go_wp2_with (first
          | (go_at_call 15; first | (with_reducible refine (wl_state H5.out 2 ht).mono ?_; rintro e w4 ⟨rfl, hw⟩; rw [hw]; clear hw) | (with_reducible refine (wl_state HS.out.1 4 hw0).mono ?_; rintro e w4 ⟨rfl, hw⟩; rw [hw]; clear hw))
          | (go_at_call 14; refine (KU.out _ HS.out.1).mono ?_; rintro e w5 ⟨rfl, h5⟩; have H5 : Hid (Wl w g c.toArray p s' w5) := h5; clear h5; have d12 : w5.cell? ⟨g, 12, none⟩ = some (.int .i64 so) := (by rw [H5.out.ck.cell 12, List.getElem?_toArray]; exact HG.out.1.c12)))
        go_roundw
        case rel => exact ⟨k + 1, T2, T2, s', by go_num, rfl, rfl, by omega, ⟨H5.out, HK.out, HT.out.1, by have := HT.out.2; omega⟩⟩
        case measure => simp [intOf]; omega
      · have HK : Hid (Sk so s' t) := h4
        have hw0 : s.st = 4 := h1
        have ht : s'.st = 4 := h2
        have q1 : (A == 2) = false := by simpa using h3
        clear h1 h2 h3 h4
        go_wp2_with (first
          | (go_at_call 15; first | (with_reducible refine (wl_state H5.out 4 ht).mono ?_; rintro e w4 ⟨rfl, hw⟩; rw [hw]; clear hw) | (with_reducible refine (wl_state HS.out.1 4 hw0).mono ?_; rintro e w4 ⟨rfl, hw⟩; rw [hw]; clear hw))
          | (go_at_call 14; refine (KU.out _ HS.out.1).mono ?_; rintro e w5 ⟨rfl, h5⟩; have H5 : Hid (Wl w g c.toArray p s' w5) := h5; clear h5; have d12 : w5.cell? ⟨g, 12, none⟩ = some (.int .i64 so) := (by rw [H5.out.ck.cell 12, List.getElem?_toArray]; exact HG.out.1.c12)))
        go_roundw
        case rel => exact ⟨k + 1, t, T2, s', by go_num, rfl, rfl, by omega, ⟨H5.out, HK.out, HT.out.1, by have := HT.out.2; omega⟩⟩
        case measure => simp [intOf]; omega
      · have HK : Hid (Sk so s' t) := h4
        have hw0 : s.st = 2 := h1
        have q1 : (A == 2) = false := by simpa using h3
        clear h1 h3 h4
        go_wp2_with (first
          | (go_at_call 15; refine (wl_state HS.out.1 2 hw0).mono ?_; rintro e w4 ⟨rfl, hw⟩; rw [hw]; clear hw)
          | (go_at_call 14; refine (KU.out _ HS.out.1).mono ?_; rintro e w5 ⟨rfl, h5⟩; have H5 : Hid (Wl w g c.toArray p s' w5) := h5; clear h5; have d12 : w5.cell? ⟨g, 12, none⟩ = some (.int .i64 so) := (by rw [H5.out.ck.cell 12, List.getElem?_toArray]; exact HG.out.1.c12)))
        go_roundw
        case rel => exact ⟨k + 1, t, T2, s', by go_num, rfl, rfl, by omega, ⟨H5.out, HK.out, HT.out.1, by have := HT.out.2; omega⟩⟩
        case measure => simp [intOf]; omega
      · subst h3
        have HK : Hid (Sk so s' t) := h4
        have hw0 : s.st = 2 := h1
        have q1 : decide (t < 0) = false := by simpa using h5
        have q2 : decide (D < so) = false := by have := HD.out; simp; omega
        clear h1 h4 h5 h6
        go_wp2_with (first
          | (go_at_call 15; refine (wl_state HS.out.1 2 hw0).mono ?_; rintro e w4 ⟨rfl, hw⟩; rw [hw]; clear hw)
          | (go_at_call 14; refine (KU.out _ HS.out.1).mono ?_; rintro e w5 ⟨rfl, h5⟩; have H5 : Hid (Wl w g c.toArray p s' w5) := h5; clear h5; have d12 : w5.cell? ⟨g, 12, none⟩ = some (.int .i64 so) := (by rw [H5.out.ck.cell 12, List.getElem?_toArray]; exact HG.out.1.c12)))
        go_roundw
        case rel => exact ⟨k + 1, t, T2, s', by go_num, rfl, rfl, by omega, ⟨H5.out, HK.out, HT.out.1, by have := HT.out.2; omega⟩⟩
        case measure => simp [intOf]; omega
    · go_wp2_with fail
      rw [hQ.out]
      go_ret
      exact ⟨rfl, HS.out.1.be⟩
end Go.Proofs.Ytbagfnafkpbanaa
