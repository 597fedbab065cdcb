/- LoopQuiet, walked. -/
import Derived.Test.YtbagfnafkpbanaaLpK
import Derived.Test.YtbagfnafkpbanaaGC
namespace Go.Proofs.Ytbagfnafkpbanaa
open Go Go.RowKit Go.Sort
set_option linter.unusedVariables false
theorem upd_panic {s : Lp} {o : Int} (j n : Int) (h : s.panics < szS (sv o)) : upd s o j n = (s, 3, 0) := by
  unfold upd updS
  rw [if_pos h]
/-- two loops of the program's, the same -/
structure Wp (w : World) (g : Nat) (c : Array Value) (p q : Nat) (s r : Lp) (u : World) : Prop where
  wl : Wl w g c p s u
  qo : Po u q r
  np : q ≠ p
  ng : q ≠ g
  lq : w.heap.size ≤ q
theorem Wp.drewN {w u : World} {g p q : Nat} {c : Array Value} {s r : Lp} (h : Wp w g c p q s r u) (n : Nat) : Wp w g c p q s r (u.drewN n) := ⟨h.wl.drewN n, h.qo.drewN n, h.np, h.ng, h.lq⟩
theorem Wp.a {w u u' : World} {g p q : Nat} {c : Array Value} {s s' r : Lp} (h : Wp w g c p q s r u) (hp : Po u' p s') (hg : u.grownBy u' (some p)) : Wp w g c p q s' r u' := ⟨h.wl.mod hp hg, h.qo.other hg h.np, h.np, h.ng, h.lq⟩
theorem Wp.b {w u u' : World} {g p q : Nat} {c : Array Value} {s r r' : Lp} (h : Wp w g c p q s r u) (hp : Po u' q r') (hg : u.grownBy u' (some q)) : Wp w g c p q s r' u' := ⟨h.wl.other hg h.lq h.np h.ng, hp, h.np, h.ng, h.lq⟩
theorem wp_new {w u : World} {g p : Nat} {c : List Value} {st pa so : Int} {s : Lp} (hc : Cg c st pa so) (hw : Wl w g c.toArray p s u) (f : Int) (has : Bool) (hs : newS st pa so f has = s) : Calls Try.prog 9 #[.agg c.toArray, .int .i64 f, .bool has] u fun e w' => ∃ q, e = .returned (.pointer (some ⟨q, 0, none⟩)) ∧ Wp w g c.toArray p q s s w' := by
  subst hs
  refine (new_any c st pa so f has u hc).mono ?_
  rintro e w' ⟨q, h1, h2⟩
  have l1 := Bk.lt hw.po
  have l2 := hw.ck.lt
  have l3 := h2.hp
  exact ⟨q, h1, hw.thru h2.be, h2.po, by omega, by omega, Nat.le_trans hw.be.size h2.hp⟩
theorem Sp.at2 {N : Nat} {u : World} {ao : Option Addr} {n cap : Nat} {xs : List Stp} (h : Sp N u (.slice ao n cap) xs) (k : Nat) (hk : k < xs.length) {ad : Addr} (hix : ∀ u, Sem.run Try.prog (Instr.indexAt 31 (.slice ao n cap) (.int .i64 (k : Int))) u = .ok (.pointer (some ad)) u) : ∀ j v, 0 < j → (spL (xs.getD k z15))[j]? = some v → u.cell? ⟨ad.block, ad.off + j, none⟩ = some v := by
  obtain ⟨ad2, h1, -, h3, -⟩ := h.at k hk
  have e := (hix u).symm.trans (h1 u)
  injection e with e1
  injection e1 with e1
  injection e1 with e1
  subst e1
  intro j v hj0 hj
  have := h3 j v hj
  unfold Addr.add at this
  rw [if_neg (by omega)] at this
  exact this
set_option maxRecDepth 20000 in
set_option maxHeartbeats 4000000 in
theorem LoopQuiet_row (c : List Value) (f : Int) (has : Bool) (v : Value) (o now : Int) (st pa so : Int) (ss : List Stp) (w : World) (hc : Cg c st pa so) (hf : -9223372036854775808 ≤ f ∧ f ≤ 9223372036854775807) (hv : Sp w.heap.size w v ss) (ho : -9223372036854775808 ≤ o ∧ o ≤ 9223372036854775807) (hnow : -9223372036854775808 ≤ now ∧ now ≤ 9223372036854775807) :
    Calls Try.prog 8 #[.agg c.toArray, .int .i64 f, .bool has, v, .int .i64 o, .int .i64 now] w fun e w' => e = .returned (.bool true) ∧ Below w.heap.size w w' := by
  obtain ⟨ao, cap, rfl, -⟩ := hv.ex
  obtain ⟨n, hn⟩ : ∃ n, n = ss.length := ⟨_, rfl⟩
  rw [← hn] at hv ⊢
  have HV : Hid (Sp w.heap.size w (.slice ao n cap) ss ∧ n = ss.length) := ⟨hv, hn⟩
  have HG : Hid (Cg c st pa so ∧ (-9223372036854775808 ≤ o ∧ o ≤ 9223372036854775807) ∧ (Try.prog.info? 29).map (·.size) = some c.length) := ⟨hc, ho, by rw [hc.len]; kernel_rfl⟩
  obtain ⟨Z, hZ⟩ : ∃ Z, szS (sv o) = Z := ⟨_, rfl⟩
  have KZ : Hid ((∀ u, Calls Try.prog 17 #[.int .i64 o] u fun e w' => e = .returned (.int .i64 Z) ∧ w' = u) ∧ szS (sv o) = Z) := ⟨fun u => by rw [← hZ]; exact lsize_any _ _ ho, hZ⟩
  clear hv hn hc hf ho hnow hZ
  go_enter Try.func8, Try.ntmps8
  refine post_hid fun Q hQ => ?_
  refine seq_hid fun R hR => ?_
  go_wp2_with (refine step_boxL (by rfl) 29 _ rfl c.toArray (by rfl) (fun u => by rfl) ?_; intro W g HW)
  rw [hR.out]
  clear hR
  have c11 : W.cell? ⟨g, 11, none⟩ = some (.int .i64 pa) := by rw [HW.out.bk.cell 11, List.getElem?_toArray]; exact HG.out.1.c11
  by_cases z0 : 4096 < (n : Int)
  · have y0 : decide (4096 < (n : Int)) = true := by simpa using z0
    go_wp2_with fail
    go_quiet ((go_at_call 17; exact Calls.quiet_of_same (KZ.out.1 _)))
    go_wp2_with fail
    rw [hQ.out]
    go_ret
    exact ⟨rfl, ⟨HW.out.be.os, HW.out.be.tape, HW.out.be.output, HW.out.be.size, HW.out.be.block⟩⟩
  have y0 : decide (4096 < (n : Int)) = false := by simpa using z0
  by_cases z1 : pa < 1
  · have y1 : decide (pa < 1) = true := by simpa using z1
    go_wp2_with fail
    go_quiet ((go_at_call 17; exact Calls.quiet_of_same (KZ.out.1 _)))
    go_wp2_with fail
    rw [hQ.out]
    go_ret
    exact ⟨rfl, ⟨HW.out.be.os, HW.out.be.tape, HW.out.be.output, HW.out.be.size, HW.out.be.block⟩⟩
  have y1 : decide (pa < 1) = false := by simpa using z1
  by_cases z2 : 4611686018427387904 ≤ pa
  · have y2 : decide (4611686018427387904 ≤ pa) = true := by simpa using z2
    go_wp2_with fail
    go_quiet ((go_at_call 17; exact Calls.quiet_of_same (KZ.out.1 _)))
    go_wp2_with fail
    rw [hQ.out]
    go_ret
    exact ⟨rfl, ⟨HW.out.be.os, HW.out.be.tape, HW.out.be.output, HW.out.be.size, HW.out.be.block⟩⟩
  have y2 : decide (4611686018427387904 ≤ pa) = false := by simpa using z2
  by_cases z3 : Z ≤ pa
  · have y3 : decide (Z ≤ pa) = true := by simpa using z3
    go_wp2_with fail
    go_quiet ((go_at_call 17; exact Calls.quiet_of_same (KZ.out.1 _)))
    go_wp2_with fail
    rw [hQ.out]
    go_ret
    exact ⟨rfl, ⟨HW.out.be.os, HW.out.be.tape, HW.out.be.output, HW.out.be.size, HW.out.be.block⟩⟩
  have y3 : decide (Z ≤ pa) = false := by simpa using z3
  refine seq_hid fun R hR => ?_
  go_wp2_with fail
  go_quiet ((go_at_call 17; exact Calls.quiet_of_same (KZ.out.1 _)))
  go_wp2_with fail
  rw [hR.out]
  clear hR c11 y0 y1 y2 y3
  have HBD : Hid (1 ≤ pa ∧ pa < 4611686018427387904 ∧ pa < Z) := ⟨by omega, by omega, by omega⟩
  clear z1 z2 z3
  refine world_hid fun V hV => ?_
  have HW2 : Hid (Bk g V c.toArray 29 ∧ Below w.heap.size w V ∧ w.heap.size ≤ g) := by
    rw [hV.out]
    exact ⟨Bk.kept HW.out.bk rfl, ⟨HW.out.be.os, HW.out.be.tape, HW.out.be.output, HW.out.be.size, HW.out.be.block⟩, by rw [HW.out.at']; exact Nat.le_refl _⟩
  clear hV HW
  have HC : Hid (∀ j u, c[j]? = some u → V.cell? ((⟨g, 0, none⟩ : Addr).add j) = some u) := cells_of HW2.out.1
  obtain ⟨s0, hs0⟩ : ∃ s0, newS st pa so f has = s0 := ⟨_, rfl⟩
  have HO : Hid (OkL s0 ∧ newS st pa so f has = s0 ∧ s0.panics = pa) := ⟨by rw [← hs0]; exact OkL.new _ _ _ _ _, hs0, by have := HBD.out; rw [← hs0]; show max 1 (min pa 4611686018427387904) = pa; omega⟩
  clear hs0
  have HN := wl_new HG.out.1 HW2.out.1 HW2.out.2.1 HW2.out.2.2 f has
  rw [HO.out.2.1] at HN
  have HN : Hid (Calls Try.prog 9 #[.agg c.toArray, .int .i64 f, .bool has] V _) := HN
  refine seq_hid fun R hR => ?_
  go_wp2_with (first
    | (refine step_ldat 29 _ rfl rfl ⟨g, 0, none⟩ (by rfl) c _ Try.underlying29 rfl HG.out.2.2 HC.out ?_)
    | (go_at_call 9; refine HN.out.mono ?_; rintro e w1 ⟨p, rfl, hp1, hp2, hb1⟩; have H1 : Hid (Wl w g c.toArray p s0 w1) := hp1; clear hp1 hp2 hb1))
  rw [hR.out]
  clear hR HN HC HW2
  have HC : Hid (∀ j u, c[j]? = some u → w1.cell? ((⟨g, 0, none⟩ : Addr).add j) = some u) := cells_of H1.out.ck
  have HN : Hid (Calls Try.prog 9 #[.agg c.toArray, .int .i64 f, .bool has] w1 _) := wp_new HG.out.1 H1.out f has HO.out.2.1
  refine seq_hid fun R hR => ?_
  go_wp2_with (first
    | (refine step_ldat 29 _ rfl rfl ⟨g, 0, none⟩ (by rfl) c _ Try.underlying29 rfl HG.out.2.2 HC.out ?_)
    | (go_at_call 9; refine HN.out.mono ?_; rintro e w2 ⟨q, rfl, hq⟩; have H2 : Hid (Wp w g c.toArray p q s0 s0 w2) := hq; clear hq))
  rw [hR.out]
  clear hR HN HC H1
  have HO2 : Hid (OkL s0 ∧ s0.panics = pa) := ⟨HO.out.1, HO.out.2.2⟩
  clear HO
  go_wp2_with fail
  go_loopw [15] (fun i wr => ∃ (k : Nat) (s : Lp), i = .int .i64 k ∧ (k : Int) ≤ n ∧ Hid (Wp w g c.toArray p q s s wr ∧ OkL s ∧ s.panics = pa)) (fun i _ => n - (intOf i).toNat)
  case atStart => exact ⟨0, s0, rfl, by omega, ⟨H2.out, HO2.out⟩⟩
  case round =>
    obtain ⟨k, s, rfl, hk, HS⟩ := hrel
    by_cases hlt : (k : Int) < n
    · have hkx : k < ss.length := by have := HV.out.2; omega
      obtain ⟨ad, hix, hab, hac, hok⟩ := (HV.out.1.below HS.out.1.wl.be (Nat.le_refl _)).at k hkx
      clear hab hac
      obtain ⟨y, hy⟩ : ∃ y, ss.getD k z15 = y := ⟨_, rfl⟩
      rw [hy] at hok
      obtain ⟨yk, yo, yj, yn⟩ := y
      have HY : Hid (∀ u, Below w.heap.size w u → u.cell? ⟨ad.block, ad.off + 1, none⟩ = some (.int .i64 yo) ∧ u.cell? ⟨ad.block, ad.off + 2, none⟩ = some (.int .i64 yj) ∧ u.cell? ⟨ad.block, ad.off + 3, none⟩ = some (.int .i64 yn)) := fun u hu => by
        have h := (HV.out.1.below hu (Nat.le_refl _)).at2 k hkx hix
        rw [hy] at h
        exact ⟨h 1 _ (by decide) rfl, h 2 _ (by decide) rfl, h 3 _ (by decide) rfl⟩
      obtain ⟨A, hA⟩ : ∃ A, (upd s yo yj yn).2.1 = A := ⟨_, rfl⟩
      obtain ⟨X, hX⟩ : ∃ X, (upd s yo yj yn).2.2 = X := ⟨_, rfl⟩
      obtain ⟨S, hS⟩ : ∃ S, (upd s yo yj yn).1 = S := ⟨_, rfl⟩
      have KS : Hid (OkL S ∧ S.panics = pa) := ⟨by rw [← hS]; exact HS.out.2.1.upd _ _ _, by rw [← hS, (upd_same (s := s) yo yj yn).2.1]; exact HS.out.2.2⟩
      have KU : Hid ((∀ u r, Wp w g c.toArray p q s r u → Calls Try.prog 14 #[.pointer (some ⟨p, 0, none⟩), .int .i64 yo, .int .i64 yj, .int .i64 yn] u fun e w' => e = .returned (.tuple #[.int .i64 A, .int .i64 X]) ∧ Wp w g c.toArray p q S r w') ∧ (∀ u r, Wp w g c.toArray p q r s u → Calls Try.prog 14 #[.pointer (some ⟨q, 0, none⟩), .int .i64 yo, .int .i64 yj, .int .i64 yn] u fun e w' => e = .returned (.tuple #[.int .i64 A, .int .i64 X]) ∧ Wp w g c.toArray p q r S w') ∧ (∀ u, Wp w g c.toArray p q S S u → Calls Try.prog 14 #[.pointer (some ⟨q, 0, none⟩), .int .i64 o, .int .i64 yj, .int .i64 now] u fun e w' => e = .returned (.tuple #[.int .i64 3, .int .i64 0]) ∧ Wp w g c.toArray p q S S w') ∧ (∀ u, Wp w g c.toArray p q S S u → Calls Try.prog 10 #[.pointer (some ⟨p, 0, none⟩)] u fun e w' => e = .returned (.int .i64 (tkX S)) ∧ Wp w g c.toArray p q (ticS S) S w') ∧ (∀ u r, Wp w g c.toArray p q r S u → Calls Try.prog 10 #[.pointer (some ⟨q, 0, none⟩)] u fun e w' => e = .returned (.int .i64 (tkX S)) ∧ Wp w g c.toArray p q r (ticS S) w')) := by
        have e : upd S o yj now = (S, 3, 0) := upd_panic yj now (by rw [KS.out.2, KZ.out.2]; exact HBD.out.2.2)
        refine ⟨fun u r hu => ?_, fun u r hu => ?_, fun u hu => ?_, fun u hu => ?_, fun u r hu => ?_⟩
        · rw [← hA, ← hX, ← hS]
          exact (update_any p s yo yj yn u hu.wl.po HS.out.2.1 hok.o hok.j).mono fun _ _ ⟨h1, h2, h3⟩ => ⟨h1, hu.a h2 h3⟩
        · rw [← hA, ← hX, ← hS]
          exact (update_any q s yo yj yn u hu.qo HS.out.2.1 hok.o hok.j).mono fun _ _ ⟨h1, h2, h3⟩ => ⟨h1, hu.b h2 h3⟩
        · have := update_any q S o yj now u hu.qo KS.out.1 HG.out.2.1 hok.j
          rw [e] at this
          exact this.mono fun _ _ ⟨h1, h2, h3⟩ => ⟨h1, hu.b h2 h3⟩
        · exact (tick_any p S u hu.wl.po KS.out.1).mono fun _ _ ⟨h1, h2, h3⟩ => ⟨h1, hu.a h2 h3⟩
        · exact (tick_any q S u hu.qo KS.out.1).mono fun _ _ ⟨h1, h2, h3⟩ => ⟨h1, hu.b h2 h3⟩
      have KT : Hid (OkL (ticS S) ∧ (ticS S).panics = pa) := ⟨KS.out.1.tic, KS.out.2⟩
      clear hA hX hS hy hok hkx
      obtain ⟨y1, y2, y3⟩ := HY.out wr HS.out.1.wl.be
      refine seq_hid fun R hR => ?_
      go_wp2_with fail
      rw [hR.out]
      clear hR
      go_wp2_with fail
      refine wp_region_lastC 68 (by kernel_rfl) (by kernel_rfl) (by rfl) (by kernel_rfl) ?_
      simp only [idleLast, idle]
      refine QW.out ?_
      repeat (refine qw_step (fun K hK => ?_); go_simp; (refine hK _ ?_; clear hK K))
      refine qw_nil ?_
      intro _ hw' x
      obtain ⟨nq, hw''⟩ := hw'
      subst hw''
      go_simp
      refine wpOp_callL (R := fun w' => Wp w g c.toArray p q S s w') _ (by rfl) rfl 14 #[.pointer (some ⟨p, 0, none⟩), .int .i64 yo, .int .i64 yj, .int .i64 yn] (.tuple #[.int .i64 A, .int .i64 X]) (by go_simp; first | done | exact rfl) (KU.out.1 _ _ (HS.out.1.drewN _)) ?_
      intro u1 h1
      have H1 : Hid (Wp w g c.toArray p q S s u1) := h1
      clear h1 y1 y2 y3
      obtain ⟨y1, y2, y3⟩ := HY.out u1 H1.out.wl.be
      go_simp
      go_wp2_with fail
      refine wp_region_lastC 85 (by kernel_rfl) (by kernel_rfl) (by rfl) (by kernel_rfl) ?_
      simp only [idleLast, idle]
      refine QW.out ?_
      repeat (refine qw_step (fun K hK => ?_); go_simp; (refine hK _ ?_; clear hK K))
      refine qw_nil ?_
      intro _ hw' x2
      obtain ⟨nr, hw''⟩ := hw'
      subst hw''
      go_simp
      refine wpOp_callL (R := fun w' => Wp w g c.toArray p q S S w') _ (by rfl) rfl 14 #[.pointer (some ⟨q, 0, none⟩), .int .i64 yo, .int .i64 yj, .int .i64 yn] (.tuple #[.int .i64 A, .int .i64 X]) (by go_simp; first | done | exact rfl) (KU.out.2.1 _ _ (H1.out.drewN _)) ?_
      intro u2 h2
      have H2 : Hid (Wp w g c.toArray p q S S u2) := h2
      clear h2 y1 y2 y3
      obtain ⟨y1, y2, y3⟩ := HY.out u2 H2.out.wl.be
      go_simp
      go_wp2_with (first
        | (go_at_call 14; refine (KU.out.2.2.1 _ H2.out).mono ?_; rintro e u3 ⟨rfl, h3⟩; have H3 : Hid (Wp w g c.toArray p q S S u3) := h3; clear h3 y1 y2 y3)
        | (go_at_call 10; ((with_reducible refine (KU.out.2.2.2.1 _ H3.out).mono ?_); rintro e u4 ⟨rfl, h4⟩; have H4 : Hid (Wp w g c.toArray p q (ticS S) S u4) := h4; clear h4)) | (go_at_call 10; ((with_reducible refine (KU.out.2.2.2.2 _ _ H4.out).mono ?_); rintro e u5 ⟨rfl, h5⟩; have H5 : Hid (Wp w g c.toArray p q (ticS S) (ticS S) u5) := h5; clear h5))
        | (go_at_call 12; first | (with_reducible refine (freq_any p _ _ H5.out.wl.po).mono ?_; rintro e w4 ⟨rfl, hw⟩; rw [hw]; clear hw) | (with_reducible refine (freq_any q _ _ H5.out.qo).mono ?_; rintro e w4 ⟨rfl, hw⟩; rw [hw]; clear hw))
        | (go_at_call 15; first | (with_reducible refine (state_any p _ _ H5.out.wl.po).mono ?_; rintro e w4 ⟨rfl, hw⟩; rw [hw]; clear hw) | (with_reducible refine (state_any q _ _ H5.out.qo).mono ?_; rintro e w4 ⟨rfl, hw⟩; rw [hw]; clear hw))
        | (go_at_call 16; first | (with_reducible refine (poll_any p _ _ H5.out.wl.po).mono ?_; rintro e w4 ⟨rfl, hw⟩; rw [hw]; clear hw) | (with_reducible refine (poll_any q _ _ H5.out.qo).mono ?_; rintro e w4 ⟨rfl, hw⟩; rw [hw]; clear hw))
        | (go_at_call 11; first | (with_reducible refine (left_any p _ _ H5.out.wl.po).mono ?_; rintro e w4 ⟨rfl, hw⟩; rw [hw]; clear hw) | (with_reducible refine (left_any q _ _ H5.out.qo).mono ?_; rintro e w4 ⟨rfl, hw⟩; rw [hw]; clear hw)))
      go_roundw
      case rel => exact ⟨k + 1, ticS S, by go_num, by omega, ⟨H5.out, KT.out⟩⟩
      case measure => simp [intOf]; omega
    · go_wp2_with fail
      rw [hQ.out]
      go_ret
      exact ⟨rfl, HS.out.1.wl.be⟩
end Go.Proofs.Ytbagfnafkpbanaa
