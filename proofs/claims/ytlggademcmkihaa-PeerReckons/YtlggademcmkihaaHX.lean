/- The reference: modes, halves, exchanges, headers. -/
import Derived.Test.YtlggademcmkihaaBigL
import Derived.Test.YtlggademcmkihaaBigK
import Derived.Test.YtlggademcmkihaaHV
namespace Go.Proofs.Ytlggademcmkihaa
open Go Go.RowKit Go.Sort
set_option maxRecDepth 20000 in
set_option maxHeartbeats 1000000 in
theorem rasks_any (k : Int) (w : World) : Calls Try.prog 35 #[.int .i64 k] w fun e w' => e = .returned (.int .i64 (askI k)) ∧ w' = w := by
  unfold askI
  go_enter Try.func35, Try.ntmps35
  go_wp2
  all_goals
    go_ret
    exact ⟨ret_int' (by simp_all), rfl⟩
set_option maxRecDepth 20000 in
set_option maxHeartbeats 1000000 in
theorem ranswers_any (k m : Int) (w : World) : Calls Try.prog 58 #[.int .i64 k, .int .i64 m] w fun e w' => e = .returned (.bool (ansB k m)) ∧ w' = w := by
  unfold ansB
  go_enter Try.func58, Try.ntmps58
  go_wp2
  all_goals
    go_ret
    exact ⟨ret_bool' (by rw [Bool.eq_iff_iff]; simp_all), rfl⟩
set_option maxHeartbeats 400000 in
theorem rclip_any (d : Int) (w : World) : Calls Try.prog 36 #[.int .i64 d] w fun e w' => e = .returned (.int .i64 (ow d)) ∧ w' = w := by
  have e : ow d = max 0 (min d 281474976645120) := by unfold ow; omega
  rw [e]
  have mx := run_mxS
  have mn := run_mnS
  go_enter Try.func36, Try.ntmps36
  go_wp2_with (go_at_call 57; refine (rfromShort_any _ _ (by omega) (by omega)).mono ?_; rintro e w' ⟨rfl, rfl⟩)
  go_ret
  exact ⟨rfl, rfl⟩
set_option maxHeartbeats 400000 in
theorem rafter_any (a b : Int) (w : World) : Calls Try.prog 42 #[.int .u64 a, .int .u64 b] w fun e w' => e = .returned (.int .i64 (max (sn b a) 0)) ∧ w' = w := by
  rw [Int.max_comm]
  have mx := run_mxS
  go_enter Try.func42, Try.ntmps42
  go_wp2_with (go_at_call 40; refine (rsince_any _ _ _).mono ?_; rintro e w' ⟨rfl, rfl⟩)
  go_ret
  exact ⟨rfl, rfl⟩
set_option maxHeartbeats 400000 in
theorem rhalf_any (d : Int) (w : World) (h : W64 d) : Calls Try.prog 48 #[.int .i64 d] w fun e w' => e = .returned (.int .i64 (Fx.sh d (-1))) ∧ Below w.heap.size w w' := by
  have h1 := h.1
  have h2 := h.2
  go_enter Try.func48, Try.ntmps48
  go_wp2_with (go_at_call 68; refine (rshift_any _ _ _ (by omega) (by omega) (by decide) (by decide)).mono ?_; rintro e w1 ⟨rfl, hb1⟩)
  go_ret
  exact ⟨rfl, hb1⟩
set_option maxHeartbeats 400000 in
theorem rexchange_any (org rec xmt dst : Int) (w : World) :
    Calls Try.prog 21 #[.int .u64 org, .int .u64 rec, .int .u64 xmt, .int .u64 dst] w fun e w' => e = .returned (.tuple #[.int .i64 (exO org rec xmt dst), .int .i64 (exD org rec xmt dst)]) ∧ Below w.heap.size w w' := by
  unfold exO exD
  have b1 := sn_bd rec org
  have b2 := sn_bd xmt dst
  have mx := run_mxS
  go_enter Try.func21, Try.ntmps21
  go_wp2_with (first
    | (go_at_call 40; refine (rsince_any _ _ _).mono ?_; rintro e w' ⟨rfl, rfl⟩)
    | (go_at_call 43; refine (rmean_any _ _ _ (by omega) (by omega) (by omega) (by omega)).mono ?_; rintro e w1 ⟨rfl, hb1⟩)
    | (go_at_call 44; refine (rsub_any _ _ _ (by omega) (by omega) (by omega) (by omega)).mono ?_; rintro e w2 ⟨rfl, hb2⟩))
  go_ret2
  exact ⟨rfl, Below.then hb1 hb2⟩
set_option maxRecDepth 20000 in
set_option maxHeartbeats 1000000 in
theorem rheader_any (q : Pk) (own : Int) (w : World) (hq : okP q) : Calls Try.prog 23 #[.agg (pkC q).toArray, .int .u32 own] w fun e w' => e = .returned (.int .i64 (hdI q own)) ∧ Below w.heap.size w w' := by
  obtain ⟨V, hV⟩ : ∃ V, V = hdI q own := ⟨_, rfl⟩
  rw [← hV]
  have b1 := hq.del
  have b2 := hq.dis
  go_enter Try.func23, Try.ntmps23
  refine post_hid fun Q hQ => ?_
  refine seq_hid fun R hR => ?_
  go_wp2
  refine world_hid fun W hW => ?_
  have hb : Below w.heap.size w W := by rw [hW.out]; exact (Below.refl _ _).alloc (Nat.le_refl _) _
  have hK : Kb W w.heap.size q := by rw [hW.out]; exact Kb.new _ _
  have HA : Hid (Below w.heap.size w W ∧ Kb W w.heap.size q) := ⟨hb, hK⟩
  have k0 := hK.leap
  have k1 := hK.str
  have k2 := hK.del
  have k3 := hK.dis
  have k4 := hK.xmt
  have k5 := hK.ref
  clear hW hb hK
  rw [hR.out]
  clear hR
  obtain ⟨D, hD⟩ : ∃ D, sn q.xmt q.ref = D := ⟨_, rfl⟩
  obtain ⟨F, hF⟩ : ∃ F, farI q = F := ⟨_, rfl⟩
  obtain ⟨G, hG⟩ : ∃ G, Fx.sh q.del (-1) = G := ⟨_, rfl⟩
  have H2 : Hid (∀ u, Calls Try.prog 40 #[.int .u64 q.xmt, .int .u64 q.ref] u fun e w' => e = .returned (.int .i64 D) ∧ w' = u) := fun u => by rw [← hD]; exact rsince_any _ _ u
  have H3 : Hid (∀ u, Calls Try.prog 48 #[.int .i64 q.del] u fun e w' => e = .returned (.int .i64 G) ∧ Below u.heap.size u w') := fun u => by rw [← hG]; exact rhalf_any _ u b1
  have H4 : Hid (∀ u, Calls Try.prog 38 #[.int .i64 G, .int .i64 q.dis] u fun e w' => e = .returned (.int .i64 F) ∧ Below u.heap.size u w') := fun u => by
    have : W64 G := by rw [← hG, sh1]; unfold W64 at *; omega
    rw [← hF]
    unfold farI
    rw [hG]
    exact radd_any _ _ u this.1 this.2 b2.1 b2.2
  have HV : Hid (V = if q.leap = 3 ∨ scB q.str = false then 7 else if q.del < 0 ∨ q.dis < 0 ∨ D < 0 then 8 else if 68719476736 < F then 9 else if 1 < q.str ∧ q.rid = own then 10 else 0) := by show V = _; rw [hV, ← hD, ← hF]; rfl
  clear hV hD hF hG b1 b2 hq
  by_cases c1 : q.leap = 3 ∨ scB q.str = false
  · have HC : Hid (V = 7 ∧ (q.leap = 3 ∨ q.str < 1 ∨ 15 < q.str)) := ⟨by rw [HV.out, if_pos c1], by rcases c1 with h | h; exact .inl h; right; unfold scB at h; simp at h; omega⟩
    clear HV c1
    go_wp2
    all_goals
      have hc := HC.out
      first
      | (rw [hQ.out]; go_ret; exact ⟨ret_int' hc.1.symm, HA.out.1⟩)
      | (exfalso; simp_all; omega)
  · have d1 : ¬ q.leap = 3 := fun h => c1 (.inl h)
    have d1' : (q.leap == 3) = false := by simpa using d1
    have d2 : 1 ≤ q.str ∧ q.str ≤ 15 := by have : ¬ scB q.str = false := fun h => c1 (.inr h); unfold scB at this; simp at this; omega
    have d3 : ¬ q.str < 1 := by omega
    have d4 : ¬ 15 < q.str := by omega
    have HV2 : Hid (V = if q.del < 0 ∨ q.dis < 0 ∨ D < 0 then 8 else if 68719476736 < F then 9 else if 1 < q.str ∧ q.rid = own then 10 else 0) := by show V = _; rw [HV.out, if_neg c1]
    clear HV c1 d2
    by_cases c2 : q.del < 0 ∨ q.dis < 0 ∨ D < 0
    · have HC2 : Hid ((q.del < 0 ∨ q.dis < 0 ∨ D < 0) ∧ V = 8) := ⟨c2, by rw [HV2.out, if_pos c2]⟩
      clear c2 HV2
      go_wp2_with (go_at_call 40; refine (H2.out _).mono ?_; rintro e w' ⟨rfl, rfl⟩)
      all_goals
        have c2 := HC2.out
        first
        | (exfalso; omega)
        | (rw [hQ.out]
           go_ret
           exact ⟨ret_int' c2.2.symm, HA.out.1⟩)
    · have e1 : ¬ q.del < 0 := by omega
      have e2 : ¬ q.dis < 0 := by omega
      have e3 : ¬ D < 0 := by omega
      have HV3 : Hid (V = if 68719476736 < F then 9 else if 1 < q.str ∧ q.rid = own then 10 else 0) := by show V = _; rw [HV2.out, if_neg c2]
      clear HV2 c2
      go_wp2_with (go_at_call 40; refine (H2.out _).mono ?_; rintro e wq ⟨rfl, hwq⟩; rw [hwq]; clear hwq)
      go_region_held3 (fun w' => w'.cell? ⟨w.heap.size, 6, none⟩ = some (.int .i64 q.del) ∧ w'.cell? ⟨w.heap.size, 7, none⟩ = some (.int .i64 q.dis)) (first | with_reducible exact ⟨k2, k3⟩ | with_reducible exact ⟨HA.out.2.del, HA.out.2.dis⟩ | go_keep) (first
        | (go_at_call 48; refine (H3.out _).mono ?_; rintro e w5 ⟨rfl, hb5⟩; have HA : Hid (Below w.heap.size w w5 ∧ Kb w5 w.heap.size q) := ⟨HA.out.1.trans ((by first | exact hb5 | exact Below.then ((Below.refl _ _).drew) hb5 : Below W.heap.size W w5).mono HA.out.1.size), HA.out.2.kept (hb5.block _ HA.out.2.lt)⟩)
        | (go_at_call 38; refine (H4.out _).mono ?_; rintro e w6 ⟨rfl, hb6⟩; have HA : Hid (Below w.heap.size w w6 ∧ Kb w6 w.heap.size q) := ⟨HA.out.1.trans ((by first | exact hb6 | exact Below.then ((Below.refl _ _).drew) hb6 : Below w5.heap.size w5 w6).mono HA.out.1.size), HA.out.2.kept (hb6.block _ HA.out.2.lt)⟩))
      clear k0 k1 k2 k3 k4 k5
      have k1 := HA.out.2.str
      have k6 := HA.out.2.rid
      go_wp2
      all_goals
        rw [hQ.out]
        go_ret
        exact ⟨ret_int' (by rw [HV3.out]; (repeat' split) <;> first | rfl | omega | (simp_all; done) | (simp_all; omega)), HA.out.1⟩
end Go.Proofs.Ytlggademcmkihaa
