/- PeerTruth. -/
import Derived.Test.YtdgmfpaamjccpaaHZ
namespace Go.Proofs.Ytdgmfpaamjccpaa
open Go Go.RowKit
theorem truth (b off th he ba org rec xmt dst : Int) (h0 : -288230376151711744 ≤ off) (h1 : off ≤ 288230376151711744) (h2 : 0 ≤ th) (h3 : th ≤ 288230376151711744) (h6 : 0 ≤ ba) (h7 : ba ≤ 288230376151711744)
    (e1 : IntKind.u64.wrap (b + IntKind.u64.wrap off) = org) (e2 : IntKind.u64.wrap (b + IntKind.u64.wrap th) = rec) (e3 : IntKind.u64.wrap (rec + IntKind.u64.wrap he) = xmt) (e4 : IntKind.u64.wrap (IntKind.u64.wrap (xmt + IntKind.u64.wrap ba) + IntKind.u64.wrap off) = dst) :
    exO org rec xmt dst = (th - ba - 2 * off) / 2 ∧ exD org rec xmt dst = max (th + ba) 4096 := by
  simp only [IntKind.wrap_u64] at e1 e2 e3 e4
  have m1 : org = (b + off) % 18446744073709551616 := by rw [← e1, Int.add_emod_emod]
  have m2 : rec = (b + th) % 18446744073709551616 := by rw [← e2, Int.add_emod_emod]
  have m3 : xmt = (b + th + he) % 18446744073709551616 := by rw [← e3, m2, Int.add_emod_emod, Int.emod_add_emod]
  have m4 : dst = (b + th + he + ba + off) % 18446744073709551616 := by rw [← e4, Int.add_emod_emod, Int.add_emod_emod, Int.emod_add_emod, m3, Int.add_assoc ((b + th + he) % 18446744073709551616), Int.emod_add_emod, ← Int.add_assoc]
  clear e1 e2 e3 e4
  have s1 : sn rec org = th - off := by
    have : (rec - org + 9223372036854775808) % 18446744073709551616 = th - off + 9223372036854775808 := by rw [m1, m2]; omega
    unfold sn
    rw [this]
    unfold Fx.cl
    omega
  have s2 : sn xmt dst = -(ba + off) := by
    have : (xmt - dst + 9223372036854775808) % 18446744073709551616 = -(ba + off) + 9223372036854775808 := by rw [m3, m4]; omega
    unfold sn
    rw [this]
    unfold Fx.cl
    omega
  unfold exO exD
  rw [s1, s2]
  have r1 : (th - off + -(ba + off)) = th - ba - 2 * off := by omega
  have r2 : (th - off - -(ba + off)) = th + ba := by omega
  rw [r1, r2]
  refine ⟨Fx.cl_in (by omega) (by omega), ?_⟩
  rw [Fx.cl_in (by omega) (by omega)]
set_option maxRecDepth 20000 in
set_option maxHeartbeats 400000 in
theorem truth_w (b off th he ba : Int) (w : World) :
    Calls Try.prog 6 #[.int .u64 b, .int .i64 off, .int .i64 th, .int .i64 he, .int .i64 ba] w fun e w' => e = .returned (.bool true) ∧ Below w.heap.size w w' := by
  have H1 : Hid (∀ u, Calls Try.prog 10 #[] u fun e w' => e = .returned (.bool true) ∧ Below u.heap.size u w') := shown_any
  by_cases hin : (-288230376151711744 ≤ off ∧ off ≤ 288230376151711744) ∧ (0 ≤ th ∧ th ≤ 288230376151711744) ∧ (0 ≤ he ∧ he ≤ 288230376151711744) ∧ (0 ≤ ba ∧ ba ≤ 288230376151711744)
  · obtain ⟨⟨i0, i1⟩, ⟨i2, i3⟩, ⟨i4, i5⟩, i6, i7⟩ := hin
    obtain ⟨org, e1⟩ : ∃ x, IntKind.u64.wrap (b + IntKind.u64.wrap off) = x := ⟨_, rfl⟩
    obtain ⟨rec, e2⟩ : ∃ x, IntKind.u64.wrap (b + IntKind.u64.wrap th) = x := ⟨_, rfl⟩
    obtain ⟨xmt, e3⟩ : ∃ x, IntKind.u64.wrap (rec + IntKind.u64.wrap he) = x := ⟨_, rfl⟩
    obtain ⟨dst, e4⟩ : ∃ x, IntKind.u64.wrap (IntKind.u64.wrap (xmt + IntKind.u64.wrap ba) + IntKind.u64.wrap off) = x := ⟨_, rfl⟩
    have T := truth b off th he ba org rec xmt dst i0 i1 i2 i3 i6 i7 e1 e2 e3 e4
    obtain ⟨O, hO⟩ : ∃ O, exO org rec xmt dst = O := ⟨_, rfl⟩
    obtain ⟨D, hD⟩ : ∃ D, exD org rec xmt dst = D := ⟨_, rfl⟩
    rw [hO, hD] at T
    have HX : Hid (∀ u, Calls Try.prog 9 #[.int .u64 org, .int .u64 rec, .int .u64 xmt, .int .u64 dst] u fun e w' => e = .returned (.tuple #[.int .i64 O, .int .i64 D]) ∧ w' = u) := fun u => by rw [← hO, ← hD]; exact exchange_any _ _ _ _ u
    obtain ⟨V, hV⟩ : ∃ V, V = O + off := ⟨_, rfl⟩
    obtain ⟨S, hS⟩ : ∃ S, S = th + ba := ⟨_, rfl⟩
    obtain ⟨G, hG⟩ : ∃ G, G = D / 2 := ⟨_, rfl⟩
    obtain ⟨H, hH⟩ : ∃ H, H = G + 1 := ⟨_, rfl⟩
    obtain ⟨N, hN⟩ : ∃ N, N = -V := ⟨_, rfl⟩
    have f1 : wrap64 (O + off) = V := by simp only [wrap64]; omega
    have f1' : IntKind.i64.wrap (O + off) = V := by rw [IntKind.wrap_i64]; omega
    have f2' : IntKind.i64.wrap (th + ba) = S := by rw [IntKind.wrap_i64]; omega
    have f4' : IntKind.i64.wrap (G + 1) = H := by rw [IntKind.wrap_i64]; omega
    have f5' : IntKind.i64.wrap (-V) = N := by rw [IntKind.wrap_i64]; omega
    have f3' : IntKind.i64.wrap (D.tdiv 2) = G := by rw [hG, Int.tdiv_eq_ediv_of_nonneg (by omega), IntKind.wrap_i64]; omega
    have f2 : wrap64 (th + ba) = S := by simp only [wrap64]; omega
    have f3 : wrap64 (D.tdiv 2) = G := by rw [hG, Int.tdiv_eq_ediv_of_nonneg (by omega)]; simp only [wrap64]; omega
    have f4 : wrap64 (G + 1) = H := by simp only [wrap64]; omega
    have f5 : wrap64 (-V) = N := by simp only [wrap64]; omega
    have HF : Hid (S ≤ D ∧ (D = S ∨ D = 4096) ∧ V ≤ H ∧ N ≤ H) := by refine ⟨?_, ?_, ?_, ?_⟩ <;> omega
    clear T hO hD hV hS hG hH hN
    go_enter Try.func6, Try.ntmps6
    refine post_hid fun Q hQ => ?_
    refine seq_hid fun R hR => ?_
    go_wp2
    rw [hR.out]
    clear hR
    refine seq_hid fun R hR => ?_
    go_wp2_with (go_at_call 10; refine (H1.out _).mono ?_; rintro e w1 ⟨rfl, hb1⟩; have HB : Hid (Below w.heap.size w w1) := hb1; clear hb1)
    rw [hR.out]
    clear hR
    refine seq_hid fun R hR => ?_
    go_wp2
    rw [hR.out]
    clear hR
    refine seq_hid fun R hR => ?_
    have j0 : ¬ off < -288230376151711744 := by omega
    have j1 : ¬ 288230376151711744 < off := by omega
    have j2 : ¬ th < 0 := by omega
    have j3 : ¬ 288230376151711744 < th := by omega
    have j4 : ¬ he < 0 := by omega
    have j5 : ¬ 288230376151711744 < he := by omega
    have j6 : ¬ ba < 0 := by omega
    have j7 : ¬ 288230376151711744 < ba := by omega
    go_wp2
    rw [hR.out]
    clear hR
    clear j0 j1 j2 j3 j4 j5 j6 j7 i0 i1 i2 i3 i4 i5 i6 i7
    refine seq_hid fun R hR => ?_
    go_wp2
    rw [hR.out]
    clear hR
    refine seq_hid fun R hR => ?_
    go_wp2
    rw [hR.out]
    clear hR
    refine seq_hid fun R hR => ?_
    go_wp2
    rw [hR.out]
    clear hR
    refine seq_hid fun R hR => ?_
    go_wp2
    rw [hR.out]
    clear hR
    clear e1 e2 e3 e4
    refine seq_hid fun R hR => ?_
    go_wp2_with (go_at_call 9; refine (HX.out _).mono ?_; rintro e wq ⟨rfl, hwq⟩; rw [hwq]; clear hwq)
    rw [hR.out]
    clear hR
    clear HX
    refine seq_hid fun R hR => ?_
    go_wp2
    rw [hR.out]
    clear hR
    have g1 : S ≤ D := HF.out.1
    by_cases hd : D = S
    · have g2 : (D == S) = true := by simpa using hd
      clear hd
      by_cases hv : V < 0
      · have g3 : N ≤ H := HF.out.2.2.2
        clear HF
        go_wp2
        rw [hQ.out]
        go_ret
        exact ⟨ret_bool' (by first | rfl | (simp; omega)), HB.out⟩
      · have g3 : V ≤ H := HF.out.2.2.1
        clear HF
        go_wp2
        rw [hQ.out]
        go_ret
        exact ⟨ret_bool' (by first | rfl | (simp; omega)), HB.out⟩
    · have g2 : (D == S) = false := by simpa using hd
      have g4 : (D == 4096) = true := by have := HF.out.2.1; simp; omega
      clear hd
      by_cases hv : V < 0
      · have g3 : N ≤ H := HF.out.2.2.2
        clear HF
        go_wp2
        rw [hQ.out]
        go_ret
        exact ⟨ret_bool' (by first | rfl | (simp; omega)), HB.out⟩
      · have g3 : V ≤ H := HF.out.2.2.1
        clear HF
        go_wp2
        rw [hQ.out]
        go_ret
        exact ⟨ret_bool' (by first | rfl | (simp; omega)), HB.out⟩
  · have HI : Hid (¬ ((-288230376151711744 ≤ off ∧ off ≤ 288230376151711744) ∧ (0 ≤ th ∧ th ≤ 288230376151711744) ∧ (0 ≤ he ∧ he ≤ 288230376151711744) ∧ (0 ≤ ba ∧ ba ≤ 288230376151711744))) := hin
    clear hin
    go_enter Try.func6, Try.ntmps6
    refine post_hid fun Q hQ => ?_
    refine seq_hid fun R hR => ?_
    go_wp2
    rw [hR.out]
    clear hR
    refine seq_hid fun R hR => ?_
    go_wp2_with (go_at_call 10; refine (H1.out _).mono ?_; rintro e w1 ⟨rfl, hb1⟩; have HB : Hid (Below w.heap.size w w1) := hb1; clear hb1)
    rw [hR.out]
    clear hR
    refine seq_hid fun R hR => ?_
    go_wp2
    rw [hR.out]
    clear hR
    refine seq_hid fun R hR => ?_
    go_wp2
    all_goals
      first
      | (rw [hQ.out]
         go_ret
         exact ⟨rfl, HB.out⟩)
      | (exfalso; have := HI.out; omega)
theorem PeerTruth_walk (a0 : Int) (a1 : Int) (a2 : Int) (a3 : Int) (a4 : Int) (_w0 : (Lit.int .u64 a0).wf = true) (_w1 : (Lit.int .i64 a1).wf = true) (_w2 : (Lit.int .i64 a2).wf = true) (_w3 : (Lit.int .i64 a3).wf = true) (_w4 : (Lit.int .i64 a4).wf = true) (w : World) :
    Calls Try.prog 6 #[.int .u64 a0, .int .i64 a1, .int .i64 a2, .int .i64 a3, .int .i64 a4] w fun e w' => e = .returned (.bool true) ∧ Below w.heap.size w w' := truth_w a0 a1 a2 a3 a4 w
end Go.Proofs.Ytdgmfpaamjccpaa
