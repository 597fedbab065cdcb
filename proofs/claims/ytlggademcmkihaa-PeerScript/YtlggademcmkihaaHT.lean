/- Header, verdict of the program. -/
import Derived.Test.YtlggademcmkihaaHR
namespace Go.Proofs.Ytlggademcmkihaa
open Go Go.RowKit Go.Sort
theorem sh1 (d : Int) : Fx.sh d (-1) = d / 2 := by rw [Fx.sh_neg d (-1) (by decide)]; rfl
set_option maxRecDepth 20000 in
set_option maxHeartbeats 1000000 in
theorem header_any (q : Pk) (own : Int) (w : World) (hq : okP q) : Calls Try.prog 22 #[.agg (pkC q).toArray, .int .u32 own] w fun e w' => e = .returned (.int .i64 (hdI q own)) ∧ Below w.heap.size w w' := by
  obtain ⟨V, hV⟩ : ∃ V, V = hdI q own := ⟨_, rfl⟩
  rw [← hV]
  have b1 := hq.del
  have b2 := hq.dis
  go_enter Try.func22, Try.ntmps22
  refine post_hid fun Q hQ => ?_
  refine seq_hid fun R hR => ?_
  go_wp2
  refine world_hid fun W hW => ?_
  have hb : Below w.heap.size w W := by rw [hW.out]; exact (Below.refl _ _).alloc (Nat.le_refl _) _
  have hK : Kb W w.heap.size q := by rw [hW.out]; exact Kb.new _ _
  have HB : Hid (Below w.heap.size w W) := hb
  have k0 := hK.leap
  have k1 := hK.str
  have k2 := hK.del
  have k3 := hK.dis
  have k4 := hK.xmt
  have k5 := hK.ref
  have k6 := hK.rid
  clear hW hb hK
  rw [hR.out]
  clear hR
  obtain ⟨sc, hsc⟩ : ∃ sc, scB q.str = sc := ⟨_, rfl⟩
  obtain ⟨D, hD⟩ : ∃ D, sn q.xmt q.ref = D := ⟨_, rfl⟩
  obtain ⟨F, hF⟩ : ∃ F, farI q = F := ⟨_, rfl⟩
  have H1 : Hid (∀ u, Calls Try.prog 45 #[.int .i64 q.str] u fun e w' => e = .returned (.bool sc) ∧ w' = u) := fun u => by rw [← hsc]; exact sc_any _ u
  have H2 : Hid (∀ u, Calls Try.prog 30 #[.int .u64 q.xmt, .int .u64 q.ref] u fun e w' => e = .returned (.int .i64 D) ∧ w' = u) := fun u => by rw [← hD]; exact since_any _ _ u
  obtain ⟨G, hG⟩ : ∃ G, Fx.sh q.del (-1) = G := ⟨_, rfl⟩
  have H3 : Hid (∀ u, Calls Try.prog 47 #[.int .i64 q.del, .int .i64 (-1)] u fun e w' => e = .returned (.int .i64 G) ∧ w' = u) := fun u => by rw [← hG]; exact shift_any _ _ u (by decide) (by decide)
  have H4 : Hid (∀ u, Calls Try.prog 46 #[.int .i64 G, .int .i64 q.dis] u fun e w' => e = .returned (.int .i64 F) ∧ w' = u) := fun u => by
    have : W64 G := by rw [← hG, sh1]; unfold W64 at *; omega
    rw [← hF]
    unfold farI
    rw [hG]
    exact add_any _ _ u this.1 this.2 b2.1 b2.2
  have HV : Hid (V = if q.leap = 3 ∨ sc = false then 7 else if q.del < 0 ∨ q.dis < 0 ∨ D < 0 then 8 else if 68719476736 < F then 9 else if 1 < q.str ∧ q.rid = own then 10 else 0) := by show V = _; rw [hV, ← hsc, ← hD, ← hF]; rfl
  clear hV hsc hD hF hG b1 b2 hq
  by_cases c1 : q.leap = 3
  · rw [c1] at k0
    go_wp2_with fail
    rw [hQ.out]
    go_ret
    exact ⟨ret_int' (by rw [HV.out]; simp [c1]), HB.out⟩
  · have c1' : (q.leap == 3) = false := by simpa using c1
    cases sc
    · go_wp2_with (go_at_call 45; refine (H1.out _).mono ?_; rintro e w' ⟨rfl, rfl⟩)
      rw [hQ.out]
      go_ret
      exact ⟨ret_int' (by rw [HV.out]; simp [c1]), HB.out⟩
    · by_cases c2 : q.del < 0 ∨ q.dis < 0 ∨ D < 0
      · have HC2 : Hid (q.del < 0 ∨ q.dis < 0 ∨ D < 0) := c2
        clear c2
        go_wp2_with (first | (go_at_call 45; refine (H1.out _).mono ?_; rintro e w' ⟨rfl, rfl⟩) | (go_at_call 30; refine (H2.out _).mono ?_; rintro e w' ⟨rfl, rfl⟩))
        all_goals
          have c2 := HC2.out
          first
          | (exfalso; omega)
          | (rw [hQ.out]
             go_ret
             exact ⟨ret_int' (by rw [HV.out]; simp [c1, c2]), HB.out⟩)
      · have d1 : ¬ q.del < 0 := by omega
        have d2 : ¬ q.dis < 0 := by omega
        have d3 : ¬ D < 0 := by omega
        have HC2 : Hid (¬ (q.del < 0 ∨ q.dis < 0 ∨ D < 0)) := c2
        clear c2
        go_wp2_with (first | (go_at_call 45; refine (H1.out _).mono ?_; rintro e w' ⟨rfl, rfl⟩) | (go_at_call 30; refine (H2.out _).mono ?_; rintro e w' ⟨rfl, rfl⟩))
        go_quiet (first | (go_at_call 47; exact Calls.quiet_of_same (H3.out _)) | (go_at_call 46; exact Calls.quiet_of_same (H4.out _)))
        go_wp2
        all_goals
          have c2 := HC2.out
          rw [hQ.out]
          go_ret
          exact ⟨ret_int' (by rw [HV.out, if_neg (by simp [c1]), if_neg c2]; (repeat' split) <;> first | rfl | omega | (simp_all; done) | (simp_all; omega)), below_dr HB.out _⟩
/-- a packet in the call's first block, and the association -/
structure VA (w W : World) (p : Nat) (q : Pk) (s : Ps) : Prop where
  below : Below w.heap.size w W
  pk : Kb W w.heap.size q
  pm : Pm W p s
  lt : p < w.heap.size
theorem VA.step {w W W' : World} {p : Nat} {q : Pk} {s : Ps} (h : VA w W p q s) (hb : Below W.heap.size W W') : VA w W' p q s :=
  ⟨h.below.trans (hb.mono h.below.size), h.pk.kept (hb.block _ h.pk.lt), h.pm.kept (hb.block _ h.pm.lt), h.lt⟩
theorem VA.drewN {w W : World} {p : Nat} {q : Pk} {s : Ps} (h : VA w W p q s) (n : Nat) : VA w (W.drewN n) p q s := ⟨below_dr h.below n, h.pk, h.pm, h.lt⟩
set_option maxRecDepth 20000 in
set_option maxHeartbeats 2000000 in
theorem verdict_any (p : Nat) (s : Ps) (q : Pk) (a : Bool) (w : World) (h : Pm w p s) (hs : okS s) (hq : okP q) : Calls Try.prog 50 #[.pointer (some ⟨p, 0, none⟩), .agg (pkC q).toArray, .bool a] w fun e w' => e = .returned (.int .i64 (vdI s q a)) ∧ Below w.heap.size w w' := by
  obtain ⟨V, hV⟩ : ∃ V, V = vdI s q a := ⟨_, rfl⟩
  rw [← hV]
  have HP : Hid (Pm w p s) := h
  obtain ⟨an, han⟩ : ∃ an, ansB s.kind q.mode = an := ⟨_, rfl⟩
  obtain ⟨du, hdu⟩ : ∃ du, dupB s q = du := ⟨_, rfl⟩
  obtain ⟨tr, htr⟩ : ∃ tr, trB s a = tr := ⟨_, rfl⟩
  obtain ⟨ki, hki⟩ : ∃ ki, kissB q = ki := ⟨_, rfl⟩
  obtain ⟨hd, hhd⟩ : ∃ hd, hdI q s.own = hd := ⟨_, rfl⟩
  obtain ⟨wt, hwt⟩ : ∃ wt, decide (s.req ≠ 0) = wt := ⟨_, rfl⟩
  have C1 : Hid (∀ u, Calls Try.prog 70 #[.int .i64 s.kind, .int .i64 q.mode] u fun e w' => e = .returned (.bool an) ∧ Below u.heap.size u w') := fun u => by rw [← han]; exact isAnsweredBy_any _ _ u (i64_lit hs.kind) (i64_lit hq.mode)
  have C2 : Hid (∀ u, Pm u p s → Calls Try.prog 71 #[.pointer (some ⟨p, 0, none⟩), .agg (pkC q).toArray] u fun e w' => e = .returned (.bool du) ∧ Below u.heap.size u w') := fun u hu => by rw [← hdu]; exact came_any p s q u hu
  have C3 : Hid (∀ u, Pm u p s → Calls Try.prog 20 #[.pointer (some ⟨p, 0, none⟩)] u fun e w' => e = .returned (.bool wt) ∧ w' = u) := fun u hu => by rw [← hwt]; exact waits_any p s u hu
  have C4 : Hid (∀ u, Pm u p s → Calls Try.prog 72 #[.pointer (some ⟨p, 0, none⟩), .bool a] u fun e w' => e = .returned (.bool tr) ∧ w' = u) := fun u hu => by rw [← htr]; exact trusts_any p s a u hu
  have C5 : Hid (∀ u, Calls Try.prog 73 #[.agg (pkC q).toArray] u fun e w' => e = .returned (.bool ki) ∧ Below u.heap.size u w') := fun u => by rw [← hki]; exact isKiss_any q u
  have C6 : Hid (∀ u, Calls Try.prog 22 #[.agg (pkC q).toArray, .int .u32 s.own] u fun e w' => e = .returned (.int .i64 hd) ∧ Below u.heap.size u w') := fun u => by rw [← hhd]; exact header_any q _ u hq
  have HV : Hid (V = if an = false then 1 else if du = true then 2 else if q.mode ≠ 5 ∧ wt = false then 3 else if q.mode ≠ 5 ∧ q.org ≠ s.req then 4 else if tr = false then 5 else if ki = true then 6 else hd) := by
    show V = _
    rw [hV, ← han, ← hdu, ← htr, ← hki, ← hhd, ← hwt]
    unfold vdI
    simp
  clear hV han hdu htr hki hhd hwt hs hq h
  go_enter Try.func50, Try.ntmps50
  refine post_hid fun Q hQ => ?_
  refine seq_hid fun R hR => ?_
  go_wp2
  refine world_hid fun W hW => ?_
  have hb : Below w.heap.size w W := by rw [hW.out]; exact (Below.refl _ _).alloc (Nat.le_refl _) _
  have hK : Kb W w.heap.size q := by rw [hW.out]; exact Kb.new _ _
  have hP : Pm W p s := HP.out.kept (hb.block p HP.out.lt)
  have HA : Hid (VA w W p q s) := ⟨hb, hK, hP, HP.out.lt⟩
  have k0 := hK.mode
  have k1 := hP.kind
  clear hW hb hK hP HP
  rw [hR.out]
  clear hR
  obtain ⟨md, hmd⟩ : ∃ md, (q.mode != 5) = md := ⟨_, rfl⟩
  have HM : Hid ((q.mode ≠ 5) ↔ md = true) := by show _ ↔ _; rw [← hmd]; simp
  refine seq_hid fun R hR => ?_
  go_wp2
  rw [hR.out]
  clear hR
  refine seq_hid fun R hR => ?_
  go_wp2
  go_region_held3 (fun w' => w'.cell? ⟨w.heap.size, 2, none⟩ = some (.int .i64 q.mode) ∧ w'.cell? ⟨p, 0, none⟩ = some (.int .i64 s.kind)) (first | with_reducible exact ⟨k0, k1⟩ | with_reducible exact ⟨HA.out.pk.mode, HA.out.pm.kind⟩ | go_keep) ((go_at_call 70; refine (C1.out _).mono ?_; rintro e w5 ⟨rfl, hb5⟩; have HA : Hid (VA w w5 p q s) := VA.step HA.out (by first | exact hb5 | exact below_then ((Below.refl _ _).drew) hb5)))
  clear k0 k1 hb5
  cases an
  · go_wp2_with fail
    try rw [hR.out]
    try clear hR
    try go_wp2_with fail
    rw [hQ.out]
    go_ret
    exact ⟨ret_int' (by rw [HV.out]; simp), HA.out.below⟩
  · cases du
    rotate_left
    · skip
      go_wp2_with (first
        | (refine step_ldat 44 _ rfl rfl ⟨w.heap.size, 0, none⟩ (by rfl) (pkC q) _ Try.underlying44 rfl (by kernel_rfl) HA.out.pk.all ?_)
        | (go_at_call 71; refine (C2.out _ HA.out.pm).mono ?_; rintro e w6 ⟨rfl, hb6⟩; have HA : Hid (VA w w6 p q s) := VA.step HA.out hb6; clear hb6)
        | (go_at_call 20; refine (C3.out _ HA.out.pm).mono ?_; rintro e wq ⟨rfl, hwq⟩; rw [hwq]; clear hwq)
        | (go_at_call 72; refine (C4.out _ HA.out.pm).mono ?_; rintro e wq ⟨rfl, hwq⟩; rw [hwq]; clear hwq)
        | (go_at_call 73; refine (C5.out _).mono ?_; rintro e w7 ⟨rfl, hb7⟩; have HA : Hid (VA w w7 p q s) := VA.step HA.out hb7; clear hb7))
      try rw [hR.out]
      try clear hR
      try go_wp2_with fail
      rw [hQ.out]
      go_ret
      exact ⟨ret_int' (by rw [HV.out]; simp), HA.out.below⟩
    · cases md
      · have hm5 : q.mode = 5 := by have := HM.out; simpa using this
        go_wp2_with (first
          | (refine step_ldat 44 _ rfl rfl ⟨w.heap.size, 0, none⟩ (by rfl) (pkC q) _ Try.underlying44 rfl (by kernel_rfl) HA.out.pk.all ?_)
          | (go_at_call 71; refine (C2.out _ HA.out.pm).mono ?_; rintro e w6 ⟨rfl, hb6⟩; have HA : Hid (VA w w6 p q s) := VA.step HA.out hb6; clear hb6)
          | (go_at_call 20; refine (C3.out _ HA.out.pm).mono ?_; rintro e wq ⟨rfl, hwq⟩; rw [hwq]; clear hwq)
          | (go_at_call 72; refine (C4.out _ HA.out.pm).mono ?_; rintro e wq ⟨rfl, hwq⟩; rw [hwq]; clear hwq)
          | (go_at_call 73; refine (C5.out _).mono ?_; rintro e w7 ⟨rfl, hb7⟩; have HA : Hid (VA w w7 p q s) := VA.step HA.out hb7; clear hb7))
        go_quiet (fail)
        have HA : Hid (VA w (w6.drewN nq) p q s) := HA.out.drewN nq
        generalize w6.drewN nq = w9 at HA ⊢
        cases tr
        · skip
          go_wp2_with (first
            | (refine step_ldat 44 _ rfl rfl ⟨w.heap.size, 0, none⟩ (by rfl) (pkC q) _ Try.underlying44 rfl (by kernel_rfl) HA.out.pk.all ?_)
            | (go_at_call 71; refine (C2.out _ HA.out.pm).mono ?_; rintro e w6 ⟨rfl, hb6⟩; have HA : Hid (VA w w6 p q s) := VA.step HA.out hb6; clear hb6)
            | (go_at_call 20; refine (C3.out _ HA.out.pm).mono ?_; rintro e wq ⟨rfl, hwq⟩; rw [hwq]; clear hwq)
            | (go_at_call 72; refine (C4.out _ HA.out.pm).mono ?_; rintro e wq ⟨rfl, hwq⟩; rw [hwq]; clear hwq)
            | (go_at_call 73; refine (C5.out _).mono ?_; rintro e w7 ⟨rfl, hb7⟩; have HA : Hid (VA w w7 p q s) := VA.step HA.out hb7; clear hb7))
          try rw [hR.out]
          try clear hR
          try go_wp2_with fail
          rw [hQ.out]
          go_ret
          exact ⟨ret_int' (by rw [HV.out]; simp [hm5]), HA.out.below⟩
        · cases ki
          rotate_left
          · skip
            go_wp2_with (first
              | (refine step_ldat 44 _ rfl rfl ⟨w.heap.size, 0, none⟩ (by rfl) (pkC q) _ Try.underlying44 rfl (by kernel_rfl) HA.out.pk.all ?_)
              | (go_at_call 71; refine (C2.out _ HA.out.pm).mono ?_; rintro e w6 ⟨rfl, hb6⟩; have HA : Hid (VA w w6 p q s) := VA.step HA.out hb6; clear hb6)
              | (go_at_call 20; refine (C3.out _ HA.out.pm).mono ?_; rintro e wq ⟨rfl, hwq⟩; rw [hwq]; clear hwq)
              | (go_at_call 72; refine (C4.out _ HA.out.pm).mono ?_; rintro e wq ⟨rfl, hwq⟩; rw [hwq]; clear hwq)
              | (go_at_call 73; refine (C5.out _).mono ?_; rintro e w7 ⟨rfl, hb7⟩; have HA : Hid (VA w w7 p q s) := VA.step HA.out hb7; clear hb7))
            try rw [hR.out]
            try clear hR
            try go_wp2_with fail
            rw [hQ.out]
            go_ret
            exact ⟨ret_int' (by rw [HV.out]; simp [hm5]), HA.out.below⟩
          · skip
            go_wp2_with (first
              | (refine step_ldat 44 _ rfl rfl ⟨w.heap.size, 0, none⟩ (by rfl) (pkC q) _ Try.underlying44 rfl (by kernel_rfl) HA.out.pk.all ?_)
              | (go_at_call 71; refine (C2.out _ HA.out.pm).mono ?_; rintro e w6 ⟨rfl, hb6⟩; have HA : Hid (VA w w6 p q s) := VA.step HA.out hb6; clear hb6)
              | (go_at_call 20; refine (C3.out _ HA.out.pm).mono ?_; rintro e wq ⟨rfl, hwq⟩; rw [hwq]; clear hwq)
              | (go_at_call 72; refine (C4.out _ HA.out.pm).mono ?_; rintro e wq ⟨rfl, hwq⟩; rw [hwq]; clear hwq)
              | (go_at_call 73; refine (C5.out _).mono ?_; rintro e w7 ⟨rfl, hb7⟩; have HA : Hid (VA w w7 p q s) := VA.step HA.out hb7; clear hb7))
            try rw [hR.out]
            try clear hR
            go_wp2_with fail
            have HC : Hid (∀ w', (∃ r : Regrown, w' = grow (redrawn w7 r.d) r.os) → ∀ j u, (pkC q)[j]? = some u → w'.cell? ((⟨w.heap.size, 0, none⟩ : Addr).add j) = some u) := by
              rintro _ ⟨r, rfl⟩ j u hu
              exact cell_regrown (HA.out.pk.all j u hu) _ _
            have C6r : Hid (∀ d os, Calls Try.prog 22 #[.agg (pkC q).toArray, .int .u32 s.own] (grow (redrawn w7 d) os) fun e w'' => e = .returned (.int .i64 hd) ∧ ∃ p : Regrown, w'' = grow (redrawn w7 p.d) p.os) := fun d os => Calls.regrown_of (C6.out _)
            have ko : ∀ d os, (grow (redrawn w7 d) os).cell? ⟨p, 2, none⟩ = some (.int .u32 s.own) := fun d os => cell_regrown HA.out.pm.own d os
            refine wp_region_quiet_below (by kernel_rfl) (by kernel_rfl) ?_
            repeat (first | (refine quiet_ld6 (by rfl) 44 _ rfl ⟨w.heap.size, 0, none⟩ (by rfl) (pkC q) _ Try.underlying44 rfl (by kernel_rfl) HC.out ?_) | (quiet_step (exact C6r.out _ _)))
            refine wpQuiet_nil ?_
            intro _ hw'
            obtain ⟨⟨dq, osq⟩, hw''⟩ := hw'
            subst hw''
            try rw [hR.out]
            try clear hR
            try go_wp2_with fail
            rw [hQ.out]
            go_ret
            exact ⟨ret_int' (by rw [HV.out]; simp [hm5]), HA.out.below.trans ((below_regrown w7 dq osq).mono HA.out.below.size)⟩
      · have hm5 : q.mode ≠ 5 := HM.out.2 rfl
        cases wt
        · skip
          go_wp2_with (first
            | (refine step_ldat 44 _ rfl rfl ⟨w.heap.size, 0, none⟩ (by rfl) (pkC q) _ Try.underlying44 rfl (by kernel_rfl) HA.out.pk.all ?_)
            | (go_at_call 71; refine (C2.out _ HA.out.pm).mono ?_; rintro e w6 ⟨rfl, hb6⟩; have HA : Hid (VA w w6 p q s) := VA.step HA.out hb6; clear hb6)
            | (go_at_call 20; refine (C3.out _ HA.out.pm).mono ?_; rintro e wq ⟨rfl, hwq⟩; rw [hwq]; clear hwq)
            | (go_at_call 72; refine (C4.out _ HA.out.pm).mono ?_; rintro e wq ⟨rfl, hwq⟩; rw [hwq]; clear hwq)
            | (go_at_call 73; refine (C5.out _).mono ?_; rintro e w7 ⟨rfl, hb7⟩; have HA : Hid (VA w w7 p q s) := VA.step HA.out hb7; clear hb7))
          try rw [hR.out]
          try clear hR
          try go_wp2_with fail
          rw [hQ.out]
          go_ret
          exact ⟨ret_int' (by rw [HV.out]; simp [hm5]), HA.out.below⟩
        · by_cases ho : q.org = s.req
          · skip
            go_wp2_with (first
              | (refine step_ldat 44 _ rfl rfl ⟨w.heap.size, 0, none⟩ (by rfl) (pkC q) _ Try.underlying44 rfl (by kernel_rfl) HA.out.pk.all ?_)
              | (go_at_call 71; refine (C2.out _ HA.out.pm).mono ?_; rintro e w6 ⟨rfl, hb6⟩; have HA : Hid (VA w w6 p q s) := VA.step HA.out hb6; clear hb6)
              | (go_at_call 20; refine (C3.out _ HA.out.pm).mono ?_; rintro e wq ⟨rfl, hwq⟩; rw [hwq]; clear hwq)
              | (go_at_call 72; refine (C4.out _ HA.out.pm).mono ?_; rintro e wq ⟨rfl, hwq⟩; rw [hwq]; clear hwq)
              | (go_at_call 73; refine (C5.out _).mono ?_; rintro e w7 ⟨rfl, hb7⟩; have HA : Hid (VA w w7 p q s) := VA.step HA.out hb7; clear hb7))
            have k5 := HA.out.pk.org
            have k6 := HA.out.pm.req
            rw [ho] at k5
            go_quiet (fail)
            clear k5 k6
            have HA : Hid (VA w (w6.drewN nq) p q s) := HA.out.drewN nq
            generalize w6.drewN nq = w9 at HA ⊢
            cases tr
            · skip
              go_wp2_with (first
                | (refine step_ldat 44 _ rfl rfl ⟨w.heap.size, 0, none⟩ (by rfl) (pkC q) _ Try.underlying44 rfl (by kernel_rfl) HA.out.pk.all ?_)
                | (go_at_call 71; refine (C2.out _ HA.out.pm).mono ?_; rintro e w6 ⟨rfl, hb6⟩; have HA : Hid (VA w w6 p q s) := VA.step HA.out hb6; clear hb6)
                | (go_at_call 20; refine (C3.out _ HA.out.pm).mono ?_; rintro e wq ⟨rfl, hwq⟩; rw [hwq]; clear hwq)
                | (go_at_call 72; refine (C4.out _ HA.out.pm).mono ?_; rintro e wq ⟨rfl, hwq⟩; rw [hwq]; clear hwq)
                | (go_at_call 73; refine (C5.out _).mono ?_; rintro e w7 ⟨rfl, hb7⟩; have HA : Hid (VA w w7 p q s) := VA.step HA.out hb7; clear hb7))
              try rw [hR.out]
              try clear hR
              try go_wp2_with fail
              rw [hQ.out]
              go_ret
              exact ⟨ret_int' (by rw [HV.out]; simp [hm5, ho]), HA.out.below⟩
            · cases ki
              rotate_left
              · skip
                go_wp2_with (first
                  | (refine step_ldat 44 _ rfl rfl ⟨w.heap.size, 0, none⟩ (by rfl) (pkC q) _ Try.underlying44 rfl (by kernel_rfl) HA.out.pk.all ?_)
                  | (go_at_call 71; refine (C2.out _ HA.out.pm).mono ?_; rintro e w6 ⟨rfl, hb6⟩; have HA : Hid (VA w w6 p q s) := VA.step HA.out hb6; clear hb6)
                  | (go_at_call 20; refine (C3.out _ HA.out.pm).mono ?_; rintro e wq ⟨rfl, hwq⟩; rw [hwq]; clear hwq)
                  | (go_at_call 72; refine (C4.out _ HA.out.pm).mono ?_; rintro e wq ⟨rfl, hwq⟩; rw [hwq]; clear hwq)
                  | (go_at_call 73; refine (C5.out _).mono ?_; rintro e w7 ⟨rfl, hb7⟩; have HA : Hid (VA w w7 p q s) := VA.step HA.out hb7; clear hb7))
                try rw [hR.out]
                try clear hR
                try go_wp2_with fail
                rw [hQ.out]
                go_ret
                exact ⟨ret_int' (by rw [HV.out]; simp [hm5, ho]), HA.out.below⟩
              · skip
                go_wp2_with (first
                  | (refine step_ldat 44 _ rfl rfl ⟨w.heap.size, 0, none⟩ (by rfl) (pkC q) _ Try.underlying44 rfl (by kernel_rfl) HA.out.pk.all ?_)
                  | (go_at_call 71; refine (C2.out _ HA.out.pm).mono ?_; rintro e w6 ⟨rfl, hb6⟩; have HA : Hid (VA w w6 p q s) := VA.step HA.out hb6; clear hb6)
                  | (go_at_call 20; refine (C3.out _ HA.out.pm).mono ?_; rintro e wq ⟨rfl, hwq⟩; rw [hwq]; clear hwq)
                  | (go_at_call 72; refine (C4.out _ HA.out.pm).mono ?_; rintro e wq ⟨rfl, hwq⟩; rw [hwq]; clear hwq)
                  | (go_at_call 73; refine (C5.out _).mono ?_; rintro e w7 ⟨rfl, hb7⟩; have HA : Hid (VA w w7 p q s) := VA.step HA.out hb7; clear hb7))
                try rw [hR.out]
                try clear hR
                go_wp2_with fail
                have HC : Hid (∀ w', (∃ r : Regrown, w' = grow (redrawn w7 r.d) r.os) → ∀ j u, (pkC q)[j]? = some u → w'.cell? ((⟨w.heap.size, 0, none⟩ : Addr).add j) = some u) := by
                  rintro _ ⟨r, rfl⟩ j u hu
                  exact cell_regrown (HA.out.pk.all j u hu) _ _
                have C6r : Hid (∀ d os, Calls Try.prog 22 #[.agg (pkC q).toArray, .int .u32 s.own] (grow (redrawn w7 d) os) fun e w'' => e = .returned (.int .i64 hd) ∧ ∃ p : Regrown, w'' = grow (redrawn w7 p.d) p.os) := fun d os => Calls.regrown_of (C6.out _)
                have ko : ∀ d os, (grow (redrawn w7 d) os).cell? ⟨p, 2, none⟩ = some (.int .u32 s.own) := fun d os => cell_regrown HA.out.pm.own d os
                refine wp_region_quiet_below (by kernel_rfl) (by kernel_rfl) ?_
                repeat (first | (refine quiet_ld6 (by rfl) 44 _ rfl ⟨w.heap.size, 0, none⟩ (by rfl) (pkC q) _ Try.underlying44 rfl (by kernel_rfl) HC.out ?_) | (quiet_step (exact C6r.out _ _)))
                refine wpQuiet_nil ?_
                intro _ hw'
                obtain ⟨⟨dq, osq⟩, hw''⟩ := hw'
                subst hw''
                try rw [hR.out]
                try clear hR
                try go_wp2_with fail
                rw [hQ.out]
                go_ret
                exact ⟨ret_int' (by rw [HV.out]; simp [hm5, ho]), HA.out.below.trans ((below_regrown w7 dq osq).mono HA.out.below.size)⟩
          · have ho' : (q.org != s.req) = true := by simpa using ho
            go_wp2_with (first
              | (refine step_ldat 44 _ rfl rfl ⟨w.heap.size, 0, none⟩ (by rfl) (pkC q) _ Try.underlying44 rfl (by kernel_rfl) HA.out.pk.all ?_)
              | (go_at_call 71; refine (C2.out _ HA.out.pm).mono ?_; rintro e w6 ⟨rfl, hb6⟩; have HA : Hid (VA w w6 p q s) := VA.step HA.out hb6; clear hb6)
              | (go_at_call 20; refine (C3.out _ HA.out.pm).mono ?_; rintro e wq ⟨rfl, hwq⟩; rw [hwq]; clear hwq)
              | (go_at_call 72; refine (C4.out _ HA.out.pm).mono ?_; rintro e wq ⟨rfl, hwq⟩; rw [hwq]; clear hwq)
              | (go_at_call 73; refine (C5.out _).mono ?_; rintro e w7 ⟨rfl, hb7⟩; have HA : Hid (VA w w7 p q s) := VA.step HA.out hb7; clear hb7))
            have k5 := HA.out.pk.org
            have k6 := HA.out.pm.req
            go_quiet (fail)
            clear k5 k6
            have HA : Hid (VA w (w6.drewN nq) p q s) := HA.out.drewN nq
            generalize w6.drewN nq = w9 at HA ⊢
            try rw [hR.out]
            try clear hR
            try go_wp2_with fail
            rw [hQ.out]
            go_ret
            exact ⟨ret_int' (by rw [HV.out]; simp [hm5, ho]), HA.out.below⟩
end Go.Proofs.Ytlggademcmkihaa
