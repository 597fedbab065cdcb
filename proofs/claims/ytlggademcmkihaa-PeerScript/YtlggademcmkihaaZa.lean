/- The reference: modes, halves, exchanges, headers. -/
import Derived.Test.YtlggademcmkihaaBigL
import Derived.Test.YtlggademcmkihaaBigK
import Derived.Test.YtlggademcmkihaaHV
import Derived.Test.YtlggademcmkihaaGP
import Derived.Test.YtlggademcmkihaaHY
import Derived.Test.YtlggademcmkihaaIF
namespace Go.Proofs.Ytlggademcmkihaa
open Go Go.RowKit Go.Sort
set_option maxRecDepth 20000 in
set_option maxHeartbeats 1000000 in
theorem rasks_any (k : Int) (w : World) : Calls Try.prog 35 #[.int .i64 k] w fun e w' => e = .returned (.int .i64 (askI k)) ∧ w' = w := by
  unfold askI
  go_enter Try.func35, Try.ntmps35
  go_wp2
  all_goals
    go_ret
    exact ⟨ret_int' (by simp_all), rfl⟩
set_option maxRecDepth 20000 in
set_option maxHeartbeats 1000000 in
theorem ranswers_any (k m : Int) (w : World) : Calls Try.prog 58 #[.int .i64 k, .int .i64 m] w fun e w' => e = .returned (.bool (ansB k m)) ∧ w' = w := by
  unfold ansB
  go_enter Try.func58, Try.ntmps58
  go_wp2
  all_goals
    go_ret
    exact ⟨ret_bool' (by rw [Bool.eq_iff_iff]; simp_all), rfl⟩
set_option maxHeartbeats 400000 in
theorem rclip_any (d : Int) (w : World) : Calls Try.prog 36 #[.int .i64 d] w fun e w' => e = .returned (.int .i64 (ow d)) ∧ w' = w := by
  have e : ow d = max 0 (min d 281474976645120) := by unfold ow; omega
  rw [e]
  have mx := run_mxS
  have mn := run_mnS
  go_enter Try.func36, Try.ntmps36
  go_wp2_with (go_at_call 57; refine (rfromShort_any _ _ (by omega) (by omega)).mono ?_; rintro e w' ⟨rfl, rfl⟩)
  go_ret
  exact ⟨rfl, rfl⟩
set_option maxHeartbeats 400000 in
theorem rafter_any (a b : Int) (w : World) : Calls Try.prog 42 #[.int .u64 a, .int .u64 b] w fun e w' => e = .returned (.int .i64 (max (sn b a) 0)) ∧ w' = w := by
  rw [Int.max_comm]
  have mx := run_mxS
  go_enter Try.func42, Try.ntmps42
  go_wp2_with (go_at_call 40; refine (rsince_any _ _ _).mono ?_; rintro e w' ⟨rfl, rfl⟩)
  go_ret
  exact ⟨rfl, rfl⟩
set_option maxHeartbeats 400000 in
theorem rhalf_any (d : Int) (w : World) (h : W64 d) : Calls Try.prog 48 #[.int .i64 d] w fun e w' => e = .returned (.int .i64 (Fx.sh d (-1))) ∧ Below w.heap.size w w' := by
  have h1 := h.1
  have h2 := h.2
  go_enter Try.func48, Try.ntmps48
  go_wp2_with (go_at_call 68; refine (rshift_any _ _ _ (by omega) (by omega) (by decide) (by decide)).mono ?_; rintro e w1 ⟨rfl, hb1⟩)
  go_ret
  exact ⟨rfl, hb1⟩
set_option maxHeartbeats 400000 in
theorem rexchange_any (org rec xmt dst : Int) (w : World) :
    Calls Try.prog 21 #[.int .u64 org, .int .u64 rec, .int .u64 xmt, .int .u64 dst] w fun e w' => e = .returned (.tuple #[.int .i64 (exO org rec xmt dst), .int .i64 (exD org rec xmt dst)]) ∧ Below w.heap.size w w' := by
  unfold exO exD
  have b1 := sn_bd rec org
  have b2 := sn_bd xmt dst
  have mx := run_mxS
  go_enter Try.func21, Try.ntmps21
  go_wp2_with (first
    | (go_at_call 40; refine (rsince_any _ _ _).mono ?_; rintro e w' ⟨rfl, rfl⟩)
    | (go_at_call 43; refine (rmean_any _ _ _ (by omega) (by omega) (by omega) (by omega)).mono ?_; rintro e w1 ⟨rfl, hb1⟩)
    | (go_at_call 44; refine (rsub_any _ _ _ (by omega) (by omega) (by omega) (by omega)).mono ?_; rintro e w2 ⟨rfl, hb2⟩))
  go_ret2
  exact ⟨rfl, Below.then hb1 hb2⟩
set_option maxRecDepth 20000 in
set_option maxHeartbeats 1000000 in
theorem rheader_any (q : Pk) (own : Int) (w : World) (hq : okP q) : Calls Try.prog 23 #[.agg (pkC q).toArray, .int .u32 own] w fun e w' => e = .returned (.int .i64 (hdI q own)) ∧ Below w.heap.size w w' := by
  obtain ⟨V, hV⟩ : ∃ V, V = hdI q own := ⟨_, rfl⟩
  rw [← hV]
  have b1 := hq.del
  have b2 := hq.dis
  go_enter Try.func23, Try.ntmps23
  refine post_hid fun Q hQ => ?_
  refine seq_hid fun R hR => ?_
  go_wp2
  refine world_hid fun W hW => ?_
  have hb : Below w.heap.size w W := by rw [hW.out]; exact (Below.refl _ _).alloc (Nat.le_refl _) _
  have hK : Kb W w.heap.size q := by rw [hW.out]; exact Kb.new _ _
  have HA : Hid (Below w.heap.size w W ∧ Kb W w.heap.size q) := ⟨hb, hK⟩
  have k0 := hK.leap
  have k1 := hK.str
  have k2 := hK.del
  have k3 := hK.dis
  have k4 := hK.xmt
  have k5 := hK.ref
  clear hW hb hK
  rw [hR.out]
  clear hR
  obtain ⟨D, hD⟩ : ∃ D, sn q.xmt q.ref = D := ⟨_, rfl⟩
  obtain ⟨F, hF⟩ : ∃ F, farI q = F := ⟨_, rfl⟩
  obtain ⟨G, hG⟩ : ∃ G, Fx.sh q.del (-1) = G := ⟨_, rfl⟩
  have H2 : Hid (∀ u, Calls Try.prog 40 #[.int .u64 q.xmt, .int .u64 q.ref] u fun e w' => e = .returned (.int .i64 D) ∧ w' = u) := fun u => by rw [← hD]; exact rsince_any _ _ u
  have H3 : Hid (∀ u, Calls Try.prog 48 #[.int .i64 q.del] u fun e w' => e = .returned (.int .i64 G) ∧ Below u.heap.size u w') := fun u => by rw [← hG]; exact rhalf_any _ u b1
  have H4 : Hid (∀ u, Calls Try.prog 38 #[.int .i64 G, .int .i64 q.dis] u fun e w' => e = .returned (.int .i64 F) ∧ Below u.heap.size u w') := fun u => by
    have : W64 G := by rw [← hG, sh1]; unfold W64 at *; omega
    rw [← hF]
    unfold farI
    rw [hG]
    exact radd_any _ _ u this.1 this.2 b2.1 b2.2
  have HV : Hid (V = if q.leap = 3 ∨ scB q.str = false then 7 else if q.del < 0 ∨ q.dis < 0 ∨ D < 0 then 8 else if 68719476736 < F then 9 else if 1 < q.str ∧ q.rid = own then 10 else 0) := by show V = _; rw [hV, ← hD, ← hF]; rfl
  clear hV hD hF hG b1 b2 hq
  by_cases c1 : q.leap = 3 ∨ scB q.str = false
  · have HC : Hid (V = 7 ∧ (q.leap = 3 ∨ q.str < 1 ∨ 15 < q.str)) := ⟨by rw [HV.out, if_pos c1], by rcases c1 with h | h; exact .inl h; right; unfold scB at h; simp at h; omega⟩
    clear HV c1
    go_wp2
    all_goals
      have hc := HC.out
      first
      | (rw [hQ.out]; go_ret; exact ⟨ret_int' hc.1.symm, HA.out.1⟩)
      | (exfalso; simp_all; omega)
  · have d1 : ¬ q.leap = 3 := fun h => c1 (.inl h)
    have d1' : (q.leap == 3) = false := by simpa using d1
    have d2 : 1 ≤ q.str ∧ q.str ≤ 15 := by have : ¬ scB q.str = false := fun h => c1 (.inr h); unfold scB at this; simp at this; omega
    have d3 : ¬ q.str < 1 := by omega
    have d4 : ¬ 15 < q.str := by omega
    have HV2 : Hid (V = if q.del < 0 ∨ q.dis < 0 ∨ D < 0 then 8 else if 68719476736 < F then 9 else if 1 < q.str ∧ q.rid = own then 10 else 0) := by show V = _; rw [HV.out, if_neg c1]
    clear HV c1 d2
    by_cases c2 : q.del < 0 ∨ q.dis < 0 ∨ D < 0
    · have HC2 : Hid ((q.del < 0 ∨ q.dis < 0 ∨ D < 0) ∧ V = 8) := ⟨c2, by rw [HV2.out, if_pos c2]⟩
      clear c2 HV2
      go_wp2_with (go_at_call 40; refine (H2.out _).mono ?_; rintro e w' ⟨rfl, rfl⟩)
      all_goals
        have c2 := HC2.out
        first
        | (exfalso; omega)
        | (rw [hQ.out]
           go_ret
           exact ⟨ret_int' c2.2.symm, HA.out.1⟩)
    · have e1 : ¬ q.del < 0 := by omega
      have e2 : ¬ q.dis < 0 := by omega
      have e3 : ¬ D < 0 := by omega
      have HV3 : Hid (V = if 68719476736 < F then 9 else if 1 < q.str ∧ q.rid = own then 10 else 0) := by show V = _; rw [HV2.out, if_neg c2]
      clear HV2 c2
      go_wp2_with (go_at_call 40; refine (H2.out _).mono ?_; rintro e wq ⟨rfl, hwq⟩; rw [hwq]; clear hwq)
      go_region_held3 (fun w' => w'.cell? ⟨w.heap.size, 6, none⟩ = some (.int .i64 q.del) ∧ w'.cell? ⟨w.heap.size, 7, none⟩ = some (.int .i64 q.dis)) (first | with_reducible exact ⟨k2, k3⟩ | with_reducible exact ⟨HA.out.2.del, HA.out.2.dis⟩ | go_keep) (first
        | (go_at_call 48; refine (H3.out _).mono ?_; rintro e w5 ⟨rfl, hb5⟩; have HA : Hid (Below w.heap.size w w5 ∧ Kb w5 w.heap.size q) := ⟨HA.out.1.trans ((by first | exact hb5 | exact Below.then ((Below.refl _ _).drew) hb5 : Below W.heap.size W w5).mono HA.out.1.size), HA.out.2.kept (hb5.block _ HA.out.2.lt)⟩)
        | (go_at_call 38; refine (H4.out _).mono ?_; rintro e w6 ⟨rfl, hb6⟩; have HA : Hid (Below w.heap.size w w6 ∧ Kb w6 w.heap.size q) := ⟨HA.out.1.trans ((by first | exact hb6 | exact Below.then ((Below.refl _ _).drew) hb6 : Below w5.heap.size w5 w6).mono HA.out.1.size), HA.out.2.kept (hb6.block _ HA.out.2.lt)⟩))
      clear k0 k1 k2 k3 k4 k5
      have k1 := HA.out.2.str
      have k6 := HA.out.2.rid
      go_wp2
      all_goals
        rw [hQ.out]
        go_ret
        exact ⟨ret_int' (by rw [HV3.out]; (repeat' split) <;> first | rfl | omega | (simp_all; done) | (simp_all; omega)), HA.out.1⟩
end Go.Proofs.Ytlggademcmkihaa
/- A region of readers alone, the quiet walk shut. -/
namespace Go.Proofs.Ytlggademcmkihaa
open Go Go.RowKit Go.Sort
theorem wp_region_quietW {P : Program} {id : Nat} {Q : Exit → Act → World → Prop} {a : Act} {w : World} {l : List Oper} (hm : P.follows .mixedOrders = true) (hB : Region.lexB .any l.toArray = true)
    (h : QW P l.toArray (fun w' => ∃ n, w' = w.drewN n) (fun a' => ∀ w', (∃ n, w' = w.drewN n) → Q .normal a' w') l a) : (Code.region id l.toArray true).wp P Q a w :=
  wp_region_quiet_lit hm hB h.out
end Go.Proofs.Ytlggademcmkihaa
/- The reference's peer in memory; verdict. -/
namespace Go.Proofs.Ytlggademcmkihaa
open Go Go.RowKit Go.Sort
/-- the reference's peer, its cells -/
def rmC (a : As) (s : Ps) (rq : Int) : List Value := asL a ++ [.int .u32 s.own, .bool (decide (s.req ≠ 0)), .int .u64 rq, .bool s.taken, .int .u64 s.last, .bool s.heard, .int .u64 s.ex, .int .u64 s.ea] ++ tdL s.t
structure Rm (w : World) (p : Nat) (a : As) (s : Ps) (rq : Int) : Prop where
  bk : Bk p w (rmC a s rq).toArray 63
  kd : s.kind = a.kind
  ky : s.key = a.key
  rq : s.req ≠ 0 → rq = s.req
theorem Rm.kept {w w' : World} {p : Nat} {a : As} {s : Ps} {rq : Int} (h : Rm w p a s rq) (hb : w'.heap[p]? = w.heap[p]?) : Rm w' p a s rq := ⟨h.bk.kept hb, h.kd, h.ky, h.rq⟩
theorem Rm.lt {w : World} {p : Nat} {a : As} {s : Ps} {rq : Int} (h : Rm w p a s rq) : p < w.heap.size := h.bk.lt
theorem sn_self (a : Int) : sn a a = 0 := by unfold sn; rw [Int.sub_self]; decide
theorem vd2 {s : Ps} {q : Pk} {au : Bool} (hA : ansB s.kind q.mode = true) (hd : dupB s q = true) : vdI s q au = 2 := by unfold vdI; rw [hA, hd]; rfl
theorem vd3 {s : Ps} {q : Pk} {au : Bool} (hA : ansB s.kind q.mode = true) (hd : dupB s q = false) (hm : q.mode ≠ 5) (hr : s.req = 0) : vdI s q au = 3 := by unfold vdI; rw [hA, hd]; simp [hm, hr]
theorem vd4 {s : Ps} {q : Pk} {au : Bool} (hA : ansB s.kind q.mode = true) (hd : dupB s q = false) (hm : q.mode ≠ 5) (hr : s.req ≠ 0) (ho : q.org ≠ s.req) : vdI s q au = 4 := by unfold vdI; rw [hA, hd]; simp [hm, hr, ho]
theorem vdT {s : Ps} {q : Pk} {au : Bool} (hA : ansB s.kind q.mode = true) (hd : dupB s q = false) (h : q.mode = 5 ∨ (s.req ≠ 0 ∧ q.org = s.req)) : vdI s q au = if trB s au = false then 5 else if kissB q = true then 6 else hdI q s.own := by
  unfold vdI
  rw [hA, hd]
  rcases h with h | ⟨h1, h2⟩
  · simp [h]
  · simp [h1, h2]
set_option maxRecDepth 20000 in
set_option maxHeartbeats 8000000 in
theorem rverdict_any (p : Nat) (a : As) (s : Ps) (rq : Int) (q : Pk) (au : Bool) (w : World) (h : Rm w p a s rq) (hs : okS s) (hq : okP q) : Calls Try.prog 37 #[.pointer (some ⟨p, 0, none⟩), .agg (pkC q).toArray, .bool au] w fun e w' => e = .returned (.int .i64 (vdI s q au)) ∧ Below w.heap.size w w' := by
  have HP : Hid (Rm w p a s rq ∧ okS s ∧ okP q) := ⟨h, hs, hq⟩
  clear h hs hq
  go_enter Try.func37, Try.ntmps37
  refine post_hid fun Q hQ => ?_
  refine seq_hid fun R hR => ?_
  go_wp2_with fail
  refine world_hid fun W hW => ?_
  have HA : Hid (Rm W p a s rq ∧ Kb W w.heap.size q ∧ Below w.heap.size w W) := by
    rw [hW.out]
    have hb : Below w.heap.size w (w.alloc (.cells (pkC q).toArray 44)) := (Below.refl _ _).alloc (Nat.le_refl _) _
    exact ⟨HP.out.1.kept (hb.block _ HP.out.1.lt), Kb.new _ _, hb⟩
  clear hW
  rw [hR.out]
  clear hR
  obtain ⟨ASK, hASK⟩ : ∃ b, decide (s.req ≠ 0) = b := ⟨_, rfl⟩
  have HAs : Hid (decide (s.req ≠ 0) = ASK) := hASK
  clear hASK
  obtain ⟨A, hA⟩ : ∃ A, ansB s.kind q.mode = A := ⟨_, rfl⟩
  have HAn : Hid (∀ u, Calls Try.prog 58 #[.int .i64 s.kind, .int .i64 q.mode] u fun e w' => e = .returned (.bool A) ∧ w' = u) := fun u => by rw [← hA]; exact ranswers_any _ _ u
  obtain ⟨D, hD⟩ : ∃ D, sn q.xmt s.last = D := ⟨_, rfl⟩
  have HSi : Hid (∀ u, Calls Try.prog 40 #[.int .u64 q.xmt, .int .u64 s.last] u fun e w' => e = .returned (.int .i64 D) ∧ w' = u) := fun u => by rw [← hD]; exact rsince_any _ _ u
  have HV : Hid (ansB s.kind q.mode = A ∧ sn q.xmt s.last = D) := ⟨hA, hD⟩
  clear hA hD
  obtain ⟨Vh, hVh⟩ : ∃ v, hdI q s.own = v := ⟨_, rfl⟩
  have HHd : Hid (∀ u, Calls Try.prog 23 #[.agg (pkC q).toArray, .int .u32 s.own] u fun e w' => e = .returned (.int .i64 Vh) ∧ Below u.heap.size u w') := fun u => by rw [← hVh]; exact rheader_any q s.own u HP.out.2.2
  obtain ⟨Vd, hVd⟩ : ∃ v, vdI s q au = v := ⟨_, rfl⟩
  have HVd : Hid (vdI s q au = Vd ∧ hdI q s.own = Vh) := ⟨hVd, hVh⟩
  rw [hVd] at hQ
  clear hVd hVh
  have p0 : W.cell? ⟨p, 0, none⟩ = some (.int .i64 s.kind) := by rw [HA.out.1.kd]; exact HA.out.1.bk.cell 0
  have p2 : W.cell? ⟨p, 2, none⟩ = some (.int .i64 s.key) := by rw [HA.out.1.ky]; exact HA.out.1.bk.cell 2
  have p12 : W.cell? ⟨p, 12, none⟩ = some (.int .u32 s.own) := HA.out.1.bk.cell 12
  have p13 : W.cell? ⟨p, 13, none⟩ = some (.bool ASK) := by rw [← HAs.out]; exact HA.out.1.bk.cell 13
  have p14 : W.cell? ⟨p, 14, none⟩ = some (.int .u64 rq) := HA.out.1.bk.cell 14
  have p15 : W.cell? ⟨p, 15, none⟩ = some (.bool s.taken) := HA.out.1.bk.cell 15
  have p16 : W.cell? ⟨p, 16, none⟩ = some (.int .u64 s.last) := HA.out.1.bk.cell 16
  have k0 : W.cell? ⟨w.heap.size, 0, none⟩ = some (.int .i64 q.leap) := HA.out.2.1.leap
  have k2 : W.cell? ⟨w.heap.size, 2, none⟩ = some (.int .i64 q.mode) := HA.out.2.1.mode
  have k3 : W.cell? ⟨w.heap.size, 3, none⟩ = some (.int .i64 q.str) := HA.out.2.1.str
  have k8 : W.cell? ⟨w.heap.size, 8, none⟩ = some (.int .u32 q.rid) := HA.out.2.1.rid
  have k10 : W.cell? ⟨w.heap.size, 10, none⟩ = some (.int .u64 q.org) := HA.out.2.1.org
  have k12 : W.cell? ⟨w.heap.size, 12, none⟩ = some (.int .u64 q.xmt) := HA.out.2.1.xmt
  rcases A with _ | _
  · go_wp2_with fail
    refine wp_region_quietW (by kernel_rfl) (by kernel_rfl) ?_
    repeat (refine qw_step (fun K hK => ?_); go_simp; first | (refine hK _ ?_; clear hK K) | (apply Exists.intro; refine ⟨fun _ => ?_, hK _ ?_⟩; (go_at_call 58; exact Calls.quiet_of_same (HAn.out _)); clear hK K))
    refine qw_nil ?_
    intro W1 hw'
    obtain ⟨nq, hw''⟩ := hw'
    have HW1 : Hid (Rm W1 p a s rq ∧ Kb W1 w.heap.size q ∧ Below w.heap.size w W1) := by rw [hw'']; exact ⟨HA.out.1.kept rfl, HA.out.2.1.kept rfl, below_dr HA.out.2.2 nq⟩
    clear hw''
    clear p0 p2 p12 p13 p14 p15 p16 k0 k2 k3 k8 k10 k12
    have p0 : W1.cell? ⟨p, 0, none⟩ = some (.int .i64 s.kind) := by rw [HW1.out.1.kd]; exact HW1.out.1.bk.cell 0
    have p2 : W1.cell? ⟨p, 2, none⟩ = some (.int .i64 s.key) := by rw [HW1.out.1.ky]; exact HW1.out.1.bk.cell 2
    have p12 : W1.cell? ⟨p, 12, none⟩ = some (.int .u32 s.own) := HW1.out.1.bk.cell 12
    have p13 : W1.cell? ⟨p, 13, none⟩ = some (.bool ASK) := by rw [← HAs.out]; exact HW1.out.1.bk.cell 13
    have p14 : W1.cell? ⟨p, 14, none⟩ = some (.int .u64 rq) := HW1.out.1.bk.cell 14
    have p15 : W1.cell? ⟨p, 15, none⟩ = some (.bool s.taken) := HW1.out.1.bk.cell 15
    have p16 : W1.cell? ⟨p, 16, none⟩ = some (.int .u64 s.last) := HW1.out.1.bk.cell 16
    have k0 : W1.cell? ⟨w.heap.size, 0, none⟩ = some (.int .i64 q.leap) := HW1.out.2.1.leap
    have k2 : W1.cell? ⟨w.heap.size, 2, none⟩ = some (.int .i64 q.mode) := HW1.out.2.1.mode
    have k3 : W1.cell? ⟨w.heap.size, 3, none⟩ = some (.int .i64 q.str) := HW1.out.2.1.str
    have k8 : W1.cell? ⟨w.heap.size, 8, none⟩ = some (.int .u32 q.rid) := HW1.out.2.1.rid
    have k10 : W1.cell? ⟨w.heap.size, 10, none⟩ = some (.int .u64 q.org) := HW1.out.2.1.org
    have k12 : W1.cell? ⟨w.heap.size, 12, none⟩ = some (.int .u64 q.xmt) := HW1.out.2.1.xmt
    go_wp2_with fail
    rw [hQ.out]
    go_ret
    exact ⟨ret_int' (by rw [← HVd.out.1]; unfold vdI; rw [HV.out.1]; rfl), HW1.out.2.2⟩
  · go_wp2_with fail
    refine wp_region_quietW (by kernel_rfl) (by kernel_rfl) ?_
    repeat (refine qw_step (fun K hK => ?_); go_simp; first | (refine hK _ ?_; clear hK K) | (apply Exists.intro; refine ⟨fun _ => ?_, hK _ ?_⟩; (go_at_call 58; exact Calls.quiet_of_same (HAn.out _)); clear hK K))
    refine qw_nil ?_
    intro W1 hw'
    obtain ⟨nq, hw''⟩ := hw'
    have HW1 : Hid (Rm W1 p a s rq ∧ Kb W1 w.heap.size q ∧ Below w.heap.size w W1) := by rw [hw'']; exact ⟨HA.out.1.kept rfl, HA.out.2.1.kept rfl, below_dr HA.out.2.2 nq⟩
    clear hw''
    clear p0 p2 p12 p13 p14 p15 p16 k0 k2 k3 k8 k10 k12
    have p0 : W1.cell? ⟨p, 0, none⟩ = some (.int .i64 s.kind) := by rw [HW1.out.1.kd]; exact HW1.out.1.bk.cell 0
    have p2 : W1.cell? ⟨p, 2, none⟩ = some (.int .i64 s.key) := by rw [HW1.out.1.ky]; exact HW1.out.1.bk.cell 2
    have p12 : W1.cell? ⟨p, 12, none⟩ = some (.int .u32 s.own) := HW1.out.1.bk.cell 12
    have p13 : W1.cell? ⟨p, 13, none⟩ = some (.bool ASK) := by rw [← HAs.out]; exact HW1.out.1.bk.cell 13
    have p14 : W1.cell? ⟨p, 14, none⟩ = some (.int .u64 rq) := HW1.out.1.bk.cell 14
    have p15 : W1.cell? ⟨p, 15, none⟩ = some (.bool s.taken) := HW1.out.1.bk.cell 15
    have p16 : W1.cell? ⟨p, 16, none⟩ = some (.int .u64 s.last) := HW1.out.1.bk.cell 16
    have k0 : W1.cell? ⟨w.heap.size, 0, none⟩ = some (.int .i64 q.leap) := HW1.out.2.1.leap
    have k2 : W1.cell? ⟨w.heap.size, 2, none⟩ = some (.int .i64 q.mode) := HW1.out.2.1.mode
    have k3 : W1.cell? ⟨w.heap.size, 3, none⟩ = some (.int .i64 q.str) := HW1.out.2.1.str
    have k8 : W1.cell? ⟨w.heap.size, 8, none⟩ = some (.int .u32 q.rid) := HW1.out.2.1.rid
    have k10 : W1.cell? ⟨w.heap.size, 10, none⟩ = some (.int .u64 q.org) := HW1.out.2.1.org
    have k12 : W1.cell? ⟨w.heap.size, 12, none⟩ = some (.int .u64 q.xmt) := HW1.out.2.1.xmt
    rcases ht : s.taken with _ | _
    · rw [ht] at p15
      by_cases hm : q.mode = 5
      · have hm' : (q.mode == 5) = true := by simpa using hm
        go_wp2_with fail
        refine wp_region_quietW (by kernel_rfl) (by kernel_rfl) ?_
        repeat (refine qw_step (fun K hK => ?_); go_simp; first | (refine hK _ ?_; clear hK K))
        refine qw_nil ?_
        intro W2 hw'
        obtain ⟨nq, hw''⟩ := hw'
        have HW2 : Hid (Rm W2 p a s rq ∧ Kb W2 w.heap.size q ∧ Below w.heap.size w W2) := by rw [hw'']; exact ⟨HW1.out.1.kept rfl, HW1.out.2.1.kept rfl, below_dr HW1.out.2.2 nq⟩
        clear hw''
        clear p0 p2 p12 p13 p14 p15 p16 k0 k2 k3 k8 k10 k12
        have p0 : W2.cell? ⟨p, 0, none⟩ = some (.int .i64 s.kind) := by rw [HW2.out.1.kd]; exact HW2.out.1.bk.cell 0
        have p2 : W2.cell? ⟨p, 2, none⟩ = some (.int .i64 s.key) := by rw [HW2.out.1.ky]; exact HW2.out.1.bk.cell 2
        have p12 : W2.cell? ⟨p, 12, none⟩ = some (.int .u32 s.own) := HW2.out.1.bk.cell 12
        have p13 : W2.cell? ⟨p, 13, none⟩ = some (.bool ASK) := by rw [← HAs.out]; exact HW2.out.1.bk.cell 13
        have p14 : W2.cell? ⟨p, 14, none⟩ = some (.int .u64 rq) := HW2.out.1.bk.cell 14
        have p15 : W2.cell? ⟨p, 15, none⟩ = some (.bool s.taken) := HW2.out.1.bk.cell 15
        have p16 : W2.cell? ⟨p, 16, none⟩ = some (.int .u64 s.last) := HW2.out.1.bk.cell 16
        have k0 : W2.cell? ⟨w.heap.size, 0, none⟩ = some (.int .i64 q.leap) := HW2.out.2.1.leap
        have k2 : W2.cell? ⟨w.heap.size, 2, none⟩ = some (.int .i64 q.mode) := HW2.out.2.1.mode
        have k3 : W2.cell? ⟨w.heap.size, 3, none⟩ = some (.int .i64 q.str) := HW2.out.2.1.str
        have k8 : W2.cell? ⟨w.heap.size, 8, none⟩ = some (.int .u32 q.rid) := HW2.out.2.1.rid
        have k10 : W2.cell? ⟨w.heap.size, 10, none⟩ = some (.int .u64 q.org) := HW2.out.2.1.org
        have k12 : W2.cell? ⟨w.heap.size, 12, none⟩ = some (.int .u64 q.xmt) := HW2.out.2.1.xmt
        have hm2 : (q.mode != 5) = false := by simpa using hm
        go_wp2_with fail
        refine wp_region_quietW (by kernel_rfl) (by kernel_rfl) ?_
        repeat (refine qw_step (fun K hK => ?_); go_simp; first | (refine hK _ ?_; clear hK K))
        refine qw_nil ?_
        intro W3 hw'
        obtain ⟨nq, hw''⟩ := hw'
        have HW3 : Hid (Rm W3 p a s rq ∧ Kb W3 w.heap.size q ∧ Below w.heap.size w W3) := by rw [hw'']; exact ⟨HW2.out.1.kept rfl, HW2.out.2.1.kept rfl, below_dr HW2.out.2.2 nq⟩
        clear hw''
        clear p0 p2 p12 p13 p14 p15 p16 k0 k2 k3 k8 k10 k12
        have p0 : W3.cell? ⟨p, 0, none⟩ = some (.int .i64 s.kind) := by rw [HW3.out.1.kd]; exact HW3.out.1.bk.cell 0
        have p2 : W3.cell? ⟨p, 2, none⟩ = some (.int .i64 s.key) := by rw [HW3.out.1.ky]; exact HW3.out.1.bk.cell 2
        have p12 : W3.cell? ⟨p, 12, none⟩ = some (.int .u32 s.own) := HW3.out.1.bk.cell 12
        have p13 : W3.cell? ⟨p, 13, none⟩ = some (.bool ASK) := by rw [← HAs.out]; exact HW3.out.1.bk.cell 13
        have p14 : W3.cell? ⟨p, 14, none⟩ = some (.int .u64 rq) := HW3.out.1.bk.cell 14
        have p15 : W3.cell? ⟨p, 15, none⟩ = some (.bool s.taken) := HW3.out.1.bk.cell 15
        have p16 : W3.cell? ⟨p, 16, none⟩ = some (.int .u64 s.last) := HW3.out.1.bk.cell 16
        have k0 : W3.cell? ⟨w.heap.size, 0, none⟩ = some (.int .i64 q.leap) := HW3.out.2.1.leap
        have k2 : W3.cell? ⟨w.heap.size, 2, none⟩ = some (.int .i64 q.mode) := HW3.out.2.1.mode
        have k3 : W3.cell? ⟨w.heap.size, 3, none⟩ = some (.int .i64 q.str) := HW3.out.2.1.str
        have k8 : W3.cell? ⟨w.heap.size, 8, none⟩ = some (.int .u32 q.rid) := HW3.out.2.1.rid
        have k10 : W3.cell? ⟨w.heap.size, 10, none⟩ = some (.int .u64 q.org) := HW3.out.2.1.org
        have k12 : W3.cell? ⟨w.heap.size, 12, none⟩ = some (.int .u64 q.xmt) := HW3.out.2.1.xmt
        have hT : Vd = if trB s au = false then 5 else if kissB q = true then 6 else Vh := by rw [← HVd.out.1, ← HVd.out.2]; exact vdT HV.out.1 (by unfold dupB; rw [ht]; rfl) (.inl hm)
        have HT : Hid (Vd = if trB s au = false then 5 else if kissB q = true then 6 else Vh) := hT
        clear hT
        by_cases hky : s.key = 0
        · have hky' : (s.key != 0) = false := by simpa using hky
          have ht5 : trB s au = true := by unfold trB; simp [hky]
          by_cases hs0 : q.str = 0
          · have hs0' : (q.str == 0) = true := by simpa using hs0
            by_cases hl3 : q.leap = 3
            · have hl3' : (q.leap == 3) = true := by simpa using hl3
              by_cases hr0 : q.rid = 0
              · have hr0' : (q.rid != 0) = false := by simpa using hr0
                go_wp2_with fail
                refine wp_region_grown (by kernel_rfl) (by kernel_rfl) ?_
                intro C hC hG
                have al : Hid (∀ u, C u → Kb u w.heap.size q) := fun u hu => HW3.out.2.1.kept ((hC u hu).block _ HW3.out.2.1.lt)
                have q12 : Hid (∀ u, C u → u.cell? ⟨p, 12, none⟩ = some (.int .u32 s.own)) := fun u hu => (HW3.out.1.kept ((hC u hu).block _ HW3.out.1.lt)).bk.cell 12
                have Z1 : Hid (∀ u, C u → Calls Try.prog 23 #[.agg (pkC q).toArray, .int .u32 s.own] u fun e w' => e = .returned (.int .i64 Vh) ∧ C w') := fun u hu => (HHd.out u).mono fun e w' ⟨h1, h2⟩ => ⟨h1, hG u w' hu h2⟩
                refine QW.out ?_
                repeat (first
                  | (refine qa_ldW (by rfl) 44 _ rfl ⟨w.heap.size, 0, none⟩ (by rfl) (pkC q) _ Try.underlying44 rfl (by kernel_rfl) (fun u hu => (al.out u hu).all) ?_; try go_simp)
                  | (refine qa_valW (by rfl) ?_; apply Exists.intro; refine ⟨fun u hu => ?_, ?_⟩; ((have e0 := q12.out u hu); go_simp; exact rfl); try go_simp)
                  | (refine qa_callW (by rfl) 23 _ _ ?_ (fun u hu => Z1.out u hu) ?_; (focus (intro u hu; go_simp; first | done | exact rfl)); try go_simp))
                refine qw_nil ?_
                intro u hu
                have HB9 : Hid (Below w.heap.size w u) := HW3.out.2.2.trans (Below.mono hu HW3.out.2.2.size)
                clear al q12 Z1 hC hG hu
                go_wp2_with fail
                rw [hQ.out]
                go_ret
                exact ⟨ret_int' (by rw [HT.out, ht5]; unfold kissB; simp [hs0, hl3, hr0]), HB9.out⟩
              · have hr0' : (q.rid != 0) = true := by simpa using hr0
                go_wp2_with fail
                rw [hQ.out]
                go_ret
                exact ⟨ret_int' (by rw [HT.out, ht5]; unfold kissB; simp [hs0, hl3, hr0]), HW3.out.2.2⟩
            · have hl3' : (q.leap == 3) = false := by simpa using hl3
              go_wp2_with fail
              refine wp_region_grown (by kernel_rfl) (by kernel_rfl) ?_
              intro C hC hG
              have al : Hid (∀ u, C u → Kb u w.heap.size q) := fun u hu => HW3.out.2.1.kept ((hC u hu).block _ HW3.out.2.1.lt)
              have q12 : Hid (∀ u, C u → u.cell? ⟨p, 12, none⟩ = some (.int .u32 s.own)) := fun u hu => (HW3.out.1.kept ((hC u hu).block _ HW3.out.1.lt)).bk.cell 12
              have Z1 : Hid (∀ u, C u → Calls Try.prog 23 #[.agg (pkC q).toArray, .int .u32 s.own] u fun e w' => e = .returned (.int .i64 Vh) ∧ C w') := fun u hu => (HHd.out u).mono fun e w' ⟨h1, h2⟩ => ⟨h1, hG u w' hu h2⟩
              refine QW.out ?_
              repeat (first
                | (refine qa_ldW (by rfl) 44 _ rfl ⟨w.heap.size, 0, none⟩ (by rfl) (pkC q) _ Try.underlying44 rfl (by kernel_rfl) (fun u hu => (al.out u hu).all) ?_; try go_simp)
                | (refine qa_valW (by rfl) ?_; apply Exists.intro; refine ⟨fun u hu => ?_, ?_⟩; ((have e0 := q12.out u hu); go_simp; exact rfl); try go_simp)
                | (refine qa_callW (by rfl) 23 _ _ ?_ (fun u hu => Z1.out u hu) ?_; (focus (intro u hu; go_simp; first | done | exact rfl)); try go_simp))
              refine qw_nil ?_
              intro u hu
              have HB9 : Hid (Below w.heap.size w u) := HW3.out.2.2.trans (Below.mono hu HW3.out.2.2.size)
              clear al q12 Z1 hC hG hu
              go_wp2_with fail
              rw [hQ.out]
              go_ret
              exact ⟨ret_int' (by rw [HT.out, ht5]; unfold kissB; simp [hs0, hl3]), HB9.out⟩
          · have hs0' : (q.str == 0) = false := by simpa using hs0
            go_wp2_with fail
            refine wp_region_grown (by kernel_rfl) (by kernel_rfl) ?_
            intro C hC hG
            have al : Hid (∀ u, C u → Kb u w.heap.size q) := fun u hu => HW3.out.2.1.kept ((hC u hu).block _ HW3.out.2.1.lt)
            have q12 : Hid (∀ u, C u → u.cell? ⟨p, 12, none⟩ = some (.int .u32 s.own)) := fun u hu => (HW3.out.1.kept ((hC u hu).block _ HW3.out.1.lt)).bk.cell 12
            have Z1 : Hid (∀ u, C u → Calls Try.prog 23 #[.agg (pkC q).toArray, .int .u32 s.own] u fun e w' => e = .returned (.int .i64 Vh) ∧ C w') := fun u hu => (HHd.out u).mono fun e w' ⟨h1, h2⟩ => ⟨h1, hG u w' hu h2⟩
            refine QW.out ?_
            repeat (first
              | (refine qa_ldW (by rfl) 44 _ rfl ⟨w.heap.size, 0, none⟩ (by rfl) (pkC q) _ Try.underlying44 rfl (by kernel_rfl) (fun u hu => (al.out u hu).all) ?_; try go_simp)
              | (refine qa_valW (by rfl) ?_; apply Exists.intro; refine ⟨fun u hu => ?_, ?_⟩; ((have e0 := q12.out u hu); go_simp; exact rfl); try go_simp)
              | (refine qa_callW (by rfl) 23 _ _ ?_ (fun u hu => Z1.out u hu) ?_; (focus (intro u hu; go_simp; first | done | exact rfl)); try go_simp))
            refine qw_nil ?_
            intro u hu
            have HB9 : Hid (Below w.heap.size w u) := HW3.out.2.2.trans (Below.mono hu HW3.out.2.2.size)
            clear al q12 Z1 hC hG hu
            go_wp2_with fail
            rw [hQ.out]
            go_ret
            exact ⟨ret_int' (by rw [HT.out, ht5]; unfold kissB; simp [hs0]), HB9.out⟩
        · have hky' : (s.key != 0) = true := by simpa using hky
          rcases au with _ | _
          · go_wp2_with fail
            rw [hQ.out]
            go_ret
            exact ⟨ret_int' (by rw [HT.out]; unfold trB; simp [hky]), HW3.out.2.2⟩
          · have ht5 : trB s true = true := by unfold trB; simp
            by_cases hs0 : q.str = 0
            · have hs0' : (q.str == 0) = true := by simpa using hs0
              by_cases hl3 : q.leap = 3
              · have hl3' : (q.leap == 3) = true := by simpa using hl3
                by_cases hr0 : q.rid = 0
                · have hr0' : (q.rid != 0) = false := by simpa using hr0
                  go_wp2_with fail
                  refine wp_region_grown (by kernel_rfl) (by kernel_rfl) ?_
                  intro C hC hG
                  have al : Hid (∀ u, C u → Kb u w.heap.size q) := fun u hu => HW3.out.2.1.kept ((hC u hu).block _ HW3.out.2.1.lt)
                  have q12 : Hid (∀ u, C u → u.cell? ⟨p, 12, none⟩ = some (.int .u32 s.own)) := fun u hu => (HW3.out.1.kept ((hC u hu).block _ HW3.out.1.lt)).bk.cell 12
                  have Z1 : Hid (∀ u, C u → Calls Try.prog 23 #[.agg (pkC q).toArray, .int .u32 s.own] u fun e w' => e = .returned (.int .i64 Vh) ∧ C w') := fun u hu => (HHd.out u).mono fun e w' ⟨h1, h2⟩ => ⟨h1, hG u w' hu h2⟩
                  refine QW.out ?_
                  repeat (first
                    | (refine qa_ldW (by rfl) 44 _ rfl ⟨w.heap.size, 0, none⟩ (by rfl) (pkC q) _ Try.underlying44 rfl (by kernel_rfl) (fun u hu => (al.out u hu).all) ?_; try go_simp)
                    | (refine qa_valW (by rfl) ?_; apply Exists.intro; refine ⟨fun u hu => ?_, ?_⟩; ((have e0 := q12.out u hu); go_simp; exact rfl); try go_simp)
                    | (refine qa_callW (by rfl) 23 _ _ ?_ (fun u hu => Z1.out u hu) ?_; (focus (intro u hu; go_simp; first | done | exact rfl)); try go_simp))
                  refine qw_nil ?_
                  intro u hu
                  have HB9 : Hid (Below w.heap.size w u) := HW3.out.2.2.trans (Below.mono hu HW3.out.2.2.size)
                  clear al q12 Z1 hC hG hu
                  go_wp2_with fail
                  rw [hQ.out]
                  go_ret
                  exact ⟨ret_int' (by rw [HT.out, ht5]; unfold kissB; simp [hs0, hl3, hr0]), HB9.out⟩
                · have hr0' : (q.rid != 0) = true := by simpa using hr0
                  go_wp2_with fail
                  rw [hQ.out]
                  go_ret
                  exact ⟨ret_int' (by rw [HT.out, ht5]; unfold kissB; simp [hs0, hl3, hr0]), HW3.out.2.2⟩
              · have hl3' : (q.leap == 3) = false := by simpa using hl3
                go_wp2_with fail
                refine wp_region_grown (by kernel_rfl) (by kernel_rfl) ?_
                intro C hC hG
                have al : Hid (∀ u, C u → Kb u w.heap.size q) := fun u hu => HW3.out.2.1.kept ((hC u hu).block _ HW3.out.2.1.lt)
                have q12 : Hid (∀ u, C u → u.cell? ⟨p, 12, none⟩ = some (.int .u32 s.own)) := fun u hu => (HW3.out.1.kept ((hC u hu).block _ HW3.out.1.lt)).bk.cell 12
                have Z1 : Hid (∀ u, C u → Calls Try.prog 23 #[.agg (pkC q).toArray, .int .u32 s.own] u fun e w' => e = .returned (.int .i64 Vh) ∧ C w') := fun u hu => (HHd.out u).mono fun e w' ⟨h1, h2⟩ => ⟨h1, hG u w' hu h2⟩
                refine QW.out ?_
                repeat (first
                  | (refine qa_ldW (by rfl) 44 _ rfl ⟨w.heap.size, 0, none⟩ (by rfl) (pkC q) _ Try.underlying44 rfl (by kernel_rfl) (fun u hu => (al.out u hu).all) ?_; try go_simp)
                  | (refine qa_valW (by rfl) ?_; apply Exists.intro; refine ⟨fun u hu => ?_, ?_⟩; ((have e0 := q12.out u hu); go_simp; exact rfl); try go_simp)
                  | (refine qa_callW (by rfl) 23 _ _ ?_ (fun u hu => Z1.out u hu) ?_; (focus (intro u hu; go_simp; first | done | exact rfl)); try go_simp))
                refine qw_nil ?_
                intro u hu
                have HB9 : Hid (Below w.heap.size w u) := HW3.out.2.2.trans (Below.mono hu HW3.out.2.2.size)
                clear al q12 Z1 hC hG hu
                go_wp2_with fail
                rw [hQ.out]
                go_ret
                exact ⟨ret_int' (by rw [HT.out, ht5]; unfold kissB; simp [hs0, hl3]), HB9.out⟩
            · have hs0' : (q.str == 0) = false := by simpa using hs0
              go_wp2_with fail
              refine wp_region_grown (by kernel_rfl) (by kernel_rfl) ?_
              intro C hC hG
              have al : Hid (∀ u, C u → Kb u w.heap.size q) := fun u hu => HW3.out.2.1.kept ((hC u hu).block _ HW3.out.2.1.lt)
              have q12 : Hid (∀ u, C u → u.cell? ⟨p, 12, none⟩ = some (.int .u32 s.own)) := fun u hu => (HW3.out.1.kept ((hC u hu).block _ HW3.out.1.lt)).bk.cell 12
              have Z1 : Hid (∀ u, C u → Calls Try.prog 23 #[.agg (pkC q).toArray, .int .u32 s.own] u fun e w' => e = .returned (.int .i64 Vh) ∧ C w') := fun u hu => (HHd.out u).mono fun e w' ⟨h1, h2⟩ => ⟨h1, hG u w' hu h2⟩
              refine QW.out ?_
              repeat (first
                | (refine qa_ldW (by rfl) 44 _ rfl ⟨w.heap.size, 0, none⟩ (by rfl) (pkC q) _ Try.underlying44 rfl (by kernel_rfl) (fun u hu => (al.out u hu).all) ?_; try go_simp)
                | (refine qa_valW (by rfl) ?_; apply Exists.intro; refine ⟨fun u hu => ?_, ?_⟩; ((have e0 := q12.out u hu); go_simp; exact rfl); try go_simp)
                | (refine qa_callW (by rfl) 23 _ _ ?_ (fun u hu => Z1.out u hu) ?_; (focus (intro u hu; go_simp; first | done | exact rfl)); try go_simp))
              refine qw_nil ?_
              intro u hu
              have HB9 : Hid (Below w.heap.size w u) := HW3.out.2.2.trans (Below.mono hu HW3.out.2.2.size)
              clear al q12 Z1 hC hG hu
              go_wp2_with fail
              rw [hQ.out]
              go_ret
              exact ⟨ret_int' (by rw [HT.out, ht5]; unfold kissB; simp [hs0]), HB9.out⟩
      · have hm' : (q.mode == 5) = false := by simpa using hm
        go_wp2_with fail
        refine wp_region_quietW (by kernel_rfl) (by kernel_rfl) ?_
        repeat (refine qw_step (fun K hK => ?_); go_simp; first | (refine hK _ ?_; clear hK K))
        refine qw_nil ?_
        intro W2 hw'
        obtain ⟨nq, hw''⟩ := hw'
        have HW2 : Hid (Rm W2 p a s rq ∧ Kb W2 w.heap.size q ∧ Below w.heap.size w W2) := by rw [hw'']; exact ⟨HW1.out.1.kept rfl, HW1.out.2.1.kept rfl, below_dr HW1.out.2.2 nq⟩
        clear hw''
        clear p0 p2 p12 p13 p14 p15 p16 k0 k2 k3 k8 k10 k12
        have p0 : W2.cell? ⟨p, 0, none⟩ = some (.int .i64 s.kind) := by rw [HW2.out.1.kd]; exact HW2.out.1.bk.cell 0
        have p2 : W2.cell? ⟨p, 2, none⟩ = some (.int .i64 s.key) := by rw [HW2.out.1.ky]; exact HW2.out.1.bk.cell 2
        have p12 : W2.cell? ⟨p, 12, none⟩ = some (.int .u32 s.own) := HW2.out.1.bk.cell 12
        have p13 : W2.cell? ⟨p, 13, none⟩ = some (.bool ASK) := by rw [← HAs.out]; exact HW2.out.1.bk.cell 13
        have p14 : W2.cell? ⟨p, 14, none⟩ = some (.int .u64 rq) := HW2.out.1.bk.cell 14
        have p15 : W2.cell? ⟨p, 15, none⟩ = some (.bool s.taken) := HW2.out.1.bk.cell 15
        have p16 : W2.cell? ⟨p, 16, none⟩ = some (.int .u64 s.last) := HW2.out.1.bk.cell 16
        have k0 : W2.cell? ⟨w.heap.size, 0, none⟩ = some (.int .i64 q.leap) := HW2.out.2.1.leap
        have k2 : W2.cell? ⟨w.heap.size, 2, none⟩ = some (.int .i64 q.mode) := HW2.out.2.1.mode
        have k3 : W2.cell? ⟨w.heap.size, 3, none⟩ = some (.int .i64 q.str) := HW2.out.2.1.str
        have k8 : W2.cell? ⟨w.heap.size, 8, none⟩ = some (.int .u32 q.rid) := HW2.out.2.1.rid
        have k10 : W2.cell? ⟨w.heap.size, 10, none⟩ = some (.int .u64 q.org) := HW2.out.2.1.org
        have k12 : W2.cell? ⟨w.heap.size, 12, none⟩ = some (.int .u64 q.xmt) := HW2.out.2.1.xmt
        have hm2 : (q.mode != 5) = true := by simpa using hm
        rcases ASK with _ | _
        · have hr0 : s.req = 0 := by have := HAs.out; simpa using this
          go_wp2_with fail
          rw [hQ.out]
          go_ret
          exact ⟨ret_int' (by rw [← HVd.out.1, vd3 HV.out.1 (by unfold dupB; rw [ht]; rfl) hm hr0]), HW2.out.2.2⟩
        · have hr0 : s.req ≠ 0 := by have := HAs.out; simpa using this
          have hrq : rq = s.req := HA.out.1.rq hr0
          by_cases ho : q.org = rq
          · have ho' : (q.org != rq) = false := by simpa using ho
            go_wp2_with fail
            refine wp_region_quietW (by kernel_rfl) (by kernel_rfl) ?_
            repeat (refine qw_step (fun K hK => ?_); go_simp; first | (refine hK _ ?_; clear hK K))
            refine qw_nil ?_
            intro W3 hw'
            obtain ⟨nq, hw''⟩ := hw'
            have HW3 : Hid (Rm W3 p a s rq ∧ Kb W3 w.heap.size q ∧ Below w.heap.size w W3) := by rw [hw'']; exact ⟨HW2.out.1.kept rfl, HW2.out.2.1.kept rfl, below_dr HW2.out.2.2 nq⟩
            clear hw''
            clear p0 p2 p12 p13 p14 p15 p16 k0 k2 k3 k8 k10 k12
            have p0 : W3.cell? ⟨p, 0, none⟩ = some (.int .i64 s.kind) := by rw [HW3.out.1.kd]; exact HW3.out.1.bk.cell 0
            have p2 : W3.cell? ⟨p, 2, none⟩ = some (.int .i64 s.key) := by rw [HW3.out.1.ky]; exact HW3.out.1.bk.cell 2
            have p12 : W3.cell? ⟨p, 12, none⟩ = some (.int .u32 s.own) := HW3.out.1.bk.cell 12
            have p13 : W3.cell? ⟨p, 13, none⟩ = some (.bool true) := by rw [← HAs.out]; exact HW3.out.1.bk.cell 13
            have p14 : W3.cell? ⟨p, 14, none⟩ = some (.int .u64 rq) := HW3.out.1.bk.cell 14
            have p15 : W3.cell? ⟨p, 15, none⟩ = some (.bool s.taken) := HW3.out.1.bk.cell 15
            have p16 : W3.cell? ⟨p, 16, none⟩ = some (.int .u64 s.last) := HW3.out.1.bk.cell 16
            have k0 : W3.cell? ⟨w.heap.size, 0, none⟩ = some (.int .i64 q.leap) := HW3.out.2.1.leap
            have k2 : W3.cell? ⟨w.heap.size, 2, none⟩ = some (.int .i64 q.mode) := HW3.out.2.1.mode
            have k3 : W3.cell? ⟨w.heap.size, 3, none⟩ = some (.int .i64 q.str) := HW3.out.2.1.str
            have k8 : W3.cell? ⟨w.heap.size, 8, none⟩ = some (.int .u32 q.rid) := HW3.out.2.1.rid
            have k10 : W3.cell? ⟨w.heap.size, 10, none⟩ = some (.int .u64 q.org) := HW3.out.2.1.org
            have k12 : W3.cell? ⟨w.heap.size, 12, none⟩ = some (.int .u64 q.xmt) := HW3.out.2.1.xmt
            have hT : Vd = if trB s au = false then 5 else if kissB q = true then 6 else Vh := by rw [← HVd.out.1, ← HVd.out.2]; exact vdT HV.out.1 (by unfold dupB; rw [ht]; rfl) (.inr ⟨hr0, by rw [← hrq]; exact ho⟩)
            have HT : Hid (Vd = if trB s au = false then 5 else if kissB q = true then 6 else Vh) := hT
            clear hT
            by_cases hky : s.key = 0
            · have hky' : (s.key != 0) = false := by simpa using hky
              have ht5 : trB s au = true := by unfold trB; simp [hky]
              by_cases hs0 : q.str = 0
              · have hs0' : (q.str == 0) = true := by simpa using hs0
                by_cases hl3 : q.leap = 3
                · have hl3' : (q.leap == 3) = true := by simpa using hl3
                  by_cases hr0 : q.rid = 0
                  · have hr0' : (q.rid != 0) = false := by simpa using hr0
                    go_wp2_with fail
                    refine wp_region_grown (by kernel_rfl) (by kernel_rfl) ?_
                    intro C hC hG
                    have al : Hid (∀ u, C u → Kb u w.heap.size q) := fun u hu => HW3.out.2.1.kept ((hC u hu).block _ HW3.out.2.1.lt)
                    have q12 : Hid (∀ u, C u → u.cell? ⟨p, 12, none⟩ = some (.int .u32 s.own)) := fun u hu => (HW3.out.1.kept ((hC u hu).block _ HW3.out.1.lt)).bk.cell 12
                    have Z1 : Hid (∀ u, C u → Calls Try.prog 23 #[.agg (pkC q).toArray, .int .u32 s.own] u fun e w' => e = .returned (.int .i64 Vh) ∧ C w') := fun u hu => (HHd.out u).mono fun e w' ⟨h1, h2⟩ => ⟨h1, hG u w' hu h2⟩
                    refine QW.out ?_
                    repeat (first
                      | (refine qa_ldW (by rfl) 44 _ rfl ⟨w.heap.size, 0, none⟩ (by rfl) (pkC q) _ Try.underlying44 rfl (by kernel_rfl) (fun u hu => (al.out u hu).all) ?_; try go_simp)
                      | (refine qa_valW (by rfl) ?_; apply Exists.intro; refine ⟨fun u hu => ?_, ?_⟩; ((have e0 := q12.out u hu); go_simp; exact rfl); try go_simp)
                      | (refine qa_callW (by rfl) 23 _ _ ?_ (fun u hu => Z1.out u hu) ?_; (focus (intro u hu; go_simp; first | done | exact rfl)); try go_simp))
                    refine qw_nil ?_
                    intro u hu
                    have HB9 : Hid (Below w.heap.size w u) := HW3.out.2.2.trans (Below.mono hu HW3.out.2.2.size)
                    clear al q12 Z1 hC hG hu
                    go_wp2_with fail
                    rw [hQ.out]
                    go_ret
                    exact ⟨ret_int' (by rw [HT.out, ht5]; unfold kissB; simp [hs0, hl3, hr0]), HB9.out⟩
                  · have hr0' : (q.rid != 0) = true := by simpa using hr0
                    go_wp2_with fail
                    rw [hQ.out]
                    go_ret
                    exact ⟨ret_int' (by rw [HT.out, ht5]; unfold kissB; simp [hs0, hl3, hr0]), HW3.out.2.2⟩
                · have hl3' : (q.leap == 3) = false := by simpa using hl3
                  go_wp2_with fail
                  refine wp_region_grown (by kernel_rfl) (by kernel_rfl) ?_
                  intro C hC hG
                  have al : Hid (∀ u, C u → Kb u w.heap.size q) := fun u hu => HW3.out.2.1.kept ((hC u hu).block _ HW3.out.2.1.lt)
                  have q12 : Hid (∀ u, C u → u.cell? ⟨p, 12, none⟩ = some (.int .u32 s.own)) := fun u hu => (HW3.out.1.kept ((hC u hu).block _ HW3.out.1.lt)).bk.cell 12
                  have Z1 : Hid (∀ u, C u → Calls Try.prog 23 #[.agg (pkC q).toArray, .int .u32 s.own] u fun e w' => e = .returned (.int .i64 Vh) ∧ C w') := fun u hu => (HHd.out u).mono fun e w' ⟨h1, h2⟩ => ⟨h1, hG u w' hu h2⟩
                  refine QW.out ?_
                  repeat (first
                    | (refine qa_ldW (by rfl) 44 _ rfl ⟨w.heap.size, 0, none⟩ (by rfl) (pkC q) _ Try.underlying44 rfl (by kernel_rfl) (fun u hu => (al.out u hu).all) ?_; try go_simp)
                    | (refine qa_valW (by rfl) ?_; apply Exists.intro; refine ⟨fun u hu => ?_, ?_⟩; ((have e0 := q12.out u hu); go_simp; exact rfl); try go_simp)
                    | (refine qa_callW (by rfl) 23 _ _ ?_ (fun u hu => Z1.out u hu) ?_; (focus (intro u hu; go_simp; first | done | exact rfl)); try go_simp))
                  refine qw_nil ?_
                  intro u hu
                  have HB9 : Hid (Below w.heap.size w u) := HW3.out.2.2.trans (Below.mono hu HW3.out.2.2.size)
                  clear al q12 Z1 hC hG hu
                  go_wp2_with fail
                  rw [hQ.out]
                  go_ret
                  exact ⟨ret_int' (by rw [HT.out, ht5]; unfold kissB; simp [hs0, hl3]), HB9.out⟩
              · have hs0' : (q.str == 0) = false := by simpa using hs0
                go_wp2_with fail
                refine wp_region_grown (by kernel_rfl) (by kernel_rfl) ?_
                intro C hC hG
                have al : Hid (∀ u, C u → Kb u w.heap.size q) := fun u hu => HW3.out.2.1.kept ((hC u hu).block _ HW3.out.2.1.lt)
                have q12 : Hid (∀ u, C u → u.cell? ⟨p, 12, none⟩ = some (.int .u32 s.own)) := fun u hu => (HW3.out.1.kept ((hC u hu).block _ HW3.out.1.lt)).bk.cell 12
                have Z1 : Hid (∀ u, C u → Calls Try.prog 23 #[.agg (pkC q).toArray, .int .u32 s.own] u fun e w' => e = .returned (.int .i64 Vh) ∧ C w') := fun u hu => (HHd.out u).mono fun e w' ⟨h1, h2⟩ => ⟨h1, hG u w' hu h2⟩
                refine QW.out ?_
                repeat (first
                  | (refine qa_ldW (by rfl) 44 _ rfl ⟨w.heap.size, 0, none⟩ (by rfl) (pkC q) _ Try.underlying44 rfl (by kernel_rfl) (fun u hu => (al.out u hu).all) ?_; try go_simp)
                  | (refine qa_valW (by rfl) ?_; apply Exists.intro; refine ⟨fun u hu => ?_, ?_⟩; ((have e0 := q12.out u hu); go_simp; exact rfl); try go_simp)
                  | (refine qa_callW (by rfl) 23 _ _ ?_ (fun u hu => Z1.out u hu) ?_; (focus (intro u hu; go_simp; first | done | exact rfl)); try go_simp))
                refine qw_nil ?_
                intro u hu
                have HB9 : Hid (Below w.heap.size w u) := HW3.out.2.2.trans (Below.mono hu HW3.out.2.2.size)
                clear al q12 Z1 hC hG hu
                go_wp2_with fail
                rw [hQ.out]
                go_ret
                exact ⟨ret_int' (by rw [HT.out, ht5]; unfold kissB; simp [hs0]), HB9.out⟩
            · have hky' : (s.key != 0) = true := by simpa using hky
              rcases au with _ | _
              · go_wp2_with fail
                rw [hQ.out]
                go_ret
                exact ⟨ret_int' (by rw [HT.out]; unfold trB; simp [hky]), HW3.out.2.2⟩
              · have ht5 : trB s true = true := by unfold trB; simp
                by_cases hs0 : q.str = 0
                · have hs0' : (q.str == 0) = true := by simpa using hs0
                  by_cases hl3 : q.leap = 3
                  · have hl3' : (q.leap == 3) = true := by simpa using hl3
                    by_cases hr0 : q.rid = 0
                    · have hr0' : (q.rid != 0) = false := by simpa using hr0
                      go_wp2_with fail
                      refine wp_region_grown (by kernel_rfl) (by kernel_rfl) ?_
                      intro C hC hG
                      have al : Hid (∀ u, C u → Kb u w.heap.size q) := fun u hu => HW3.out.2.1.kept ((hC u hu).block _ HW3.out.2.1.lt)
                      have q12 : Hid (∀ u, C u → u.cell? ⟨p, 12, none⟩ = some (.int .u32 s.own)) := fun u hu => (HW3.out.1.kept ((hC u hu).block _ HW3.out.1.lt)).bk.cell 12
                      have Z1 : Hid (∀ u, C u → Calls Try.prog 23 #[.agg (pkC q).toArray, .int .u32 s.own] u fun e w' => e = .returned (.int .i64 Vh) ∧ C w') := fun u hu => (HHd.out u).mono fun e w' ⟨h1, h2⟩ => ⟨h1, hG u w' hu h2⟩
                      refine QW.out ?_
                      repeat (first
                        | (refine qa_ldW (by rfl) 44 _ rfl ⟨w.heap.size, 0, none⟩ (by rfl) (pkC q) _ Try.underlying44 rfl (by kernel_rfl) (fun u hu => (al.out u hu).all) ?_; try go_simp)
                        | (refine qa_valW (by rfl) ?_; apply Exists.intro; refine ⟨fun u hu => ?_, ?_⟩; ((have e0 := q12.out u hu); go_simp; exact rfl); try go_simp)
                        | (refine qa_callW (by rfl) 23 _ _ ?_ (fun u hu => Z1.out u hu) ?_; (focus (intro u hu; go_simp; first | done | exact rfl)); try go_simp))
                      refine qw_nil ?_
                      intro u hu
                      have HB9 : Hid (Below w.heap.size w u) := HW3.out.2.2.trans (Below.mono hu HW3.out.2.2.size)
                      clear al q12 Z1 hC hG hu
                      go_wp2_with fail
                      rw [hQ.out]
                      go_ret
                      exact ⟨ret_int' (by rw [HT.out, ht5]; unfold kissB; simp [hs0, hl3, hr0]), HB9.out⟩
                    · have hr0' : (q.rid != 0) = true := by simpa using hr0
                      go_wp2_with fail
                      rw [hQ.out]
                      go_ret
                      exact ⟨ret_int' (by rw [HT.out, ht5]; unfold kissB; simp [hs0, hl3, hr0]), HW3.out.2.2⟩
                  · have hl3' : (q.leap == 3) = false := by simpa using hl3
                    go_wp2_with fail
                    refine wp_region_grown (by kernel_rfl) (by kernel_rfl) ?_
                    intro C hC hG
                    have al : Hid (∀ u, C u → Kb u w.heap.size q) := fun u hu => HW3.out.2.1.kept ((hC u hu).block _ HW3.out.2.1.lt)
                    have q12 : Hid (∀ u, C u → u.cell? ⟨p, 12, none⟩ = some (.int .u32 s.own)) := fun u hu => (HW3.out.1.kept ((hC u hu).block _ HW3.out.1.lt)).bk.cell 12
                    have Z1 : Hid (∀ u, C u → Calls Try.prog 23 #[.agg (pkC q).toArray, .int .u32 s.own] u fun e w' => e = .returned (.int .i64 Vh) ∧ C w') := fun u hu => (HHd.out u).mono fun e w' ⟨h1, h2⟩ => ⟨h1, hG u w' hu h2⟩
                    refine QW.out ?_
                    repeat (first
                      | (refine qa_ldW (by rfl) 44 _ rfl ⟨w.heap.size, 0, none⟩ (by rfl) (pkC q) _ Try.underlying44 rfl (by kernel_rfl) (fun u hu => (al.out u hu).all) ?_; try go_simp)
                      | (refine qa_valW (by rfl) ?_; apply Exists.intro; refine ⟨fun u hu => ?_, ?_⟩; ((have e0 := q12.out u hu); go_simp; exact rfl); try go_simp)
                      | (refine qa_callW (by rfl) 23 _ _ ?_ (fun u hu => Z1.out u hu) ?_; (focus (intro u hu; go_simp; first | done | exact rfl)); try go_simp))
                    refine qw_nil ?_
                    intro u hu
                    have HB9 : Hid (Below w.heap.size w u) := HW3.out.2.2.trans (Below.mono hu HW3.out.2.2.size)
                    clear al q12 Z1 hC hG hu
                    go_wp2_with fail
                    rw [hQ.out]
                    go_ret
                    exact ⟨ret_int' (by rw [HT.out, ht5]; unfold kissB; simp [hs0, hl3]), HB9.out⟩
                · have hs0' : (q.str == 0) = false := by simpa using hs0
                  go_wp2_with fail
                  refine wp_region_grown (by kernel_rfl) (by kernel_rfl) ?_
                  intro C hC hG
                  have al : Hid (∀ u, C u → Kb u w.heap.size q) := fun u hu => HW3.out.2.1.kept ((hC u hu).block _ HW3.out.2.1.lt)
                  have q12 : Hid (∀ u, C u → u.cell? ⟨p, 12, none⟩ = some (.int .u32 s.own)) := fun u hu => (HW3.out.1.kept ((hC u hu).block _ HW3.out.1.lt)).bk.cell 12
                  have Z1 : Hid (∀ u, C u → Calls Try.prog 23 #[.agg (pkC q).toArray, .int .u32 s.own] u fun e w' => e = .returned (.int .i64 Vh) ∧ C w') := fun u hu => (HHd.out u).mono fun e w' ⟨h1, h2⟩ => ⟨h1, hG u w' hu h2⟩
                  refine QW.out ?_
                  repeat (first
                    | (refine qa_ldW (by rfl) 44 _ rfl ⟨w.heap.size, 0, none⟩ (by rfl) (pkC q) _ Try.underlying44 rfl (by kernel_rfl) (fun u hu => (al.out u hu).all) ?_; try go_simp)
                    | (refine qa_valW (by rfl) ?_; apply Exists.intro; refine ⟨fun u hu => ?_, ?_⟩; ((have e0 := q12.out u hu); go_simp; exact rfl); try go_simp)
                    | (refine qa_callW (by rfl) 23 _ _ ?_ (fun u hu => Z1.out u hu) ?_; (focus (intro u hu; go_simp; first | done | exact rfl)); try go_simp))
                  refine qw_nil ?_
                  intro u hu
                  have HB9 : Hid (Below w.heap.size w u) := HW3.out.2.2.trans (Below.mono hu HW3.out.2.2.size)
                  clear al q12 Z1 hC hG hu
                  go_wp2_with fail
                  rw [hQ.out]
                  go_ret
                  exact ⟨ret_int' (by rw [HT.out, ht5]; unfold kissB; simp [hs0]), HB9.out⟩
          · have ho' : (q.org != rq) = true := by simpa using ho
            go_wp2_with fail
            refine wp_region_quietW (by kernel_rfl) (by kernel_rfl) ?_
            repeat (refine qw_step (fun K hK => ?_); go_simp; first | (refine hK _ ?_; clear hK K))
            refine qw_nil ?_
            intro W3 hw'
            obtain ⟨nq, hw''⟩ := hw'
            have HW3 : Hid (Rm W3 p a s rq ∧ Kb W3 w.heap.size q ∧ Below w.heap.size w W3) := by rw [hw'']; exact ⟨HW2.out.1.kept rfl, HW2.out.2.1.kept rfl, below_dr HW2.out.2.2 nq⟩
            clear hw''
            clear p0 p2 p12 p13 p14 p15 p16 k0 k2 k3 k8 k10 k12
            have p0 : W3.cell? ⟨p, 0, none⟩ = some (.int .i64 s.kind) := by rw [HW3.out.1.kd]; exact HW3.out.1.bk.cell 0
            have p2 : W3.cell? ⟨p, 2, none⟩ = some (.int .i64 s.key) := by rw [HW3.out.1.ky]; exact HW3.out.1.bk.cell 2
            have p12 : W3.cell? ⟨p, 12, none⟩ = some (.int .u32 s.own) := HW3.out.1.bk.cell 12
            have p13 : W3.cell? ⟨p, 13, none⟩ = some (.bool true) := by rw [← HAs.out]; exact HW3.out.1.bk.cell 13
            have p14 : W3.cell? ⟨p, 14, none⟩ = some (.int .u64 rq) := HW3.out.1.bk.cell 14
            have p15 : W3.cell? ⟨p, 15, none⟩ = some (.bool s.taken) := HW3.out.1.bk.cell 15
            have p16 : W3.cell? ⟨p, 16, none⟩ = some (.int .u64 s.last) := HW3.out.1.bk.cell 16
            have k0 : W3.cell? ⟨w.heap.size, 0, none⟩ = some (.int .i64 q.leap) := HW3.out.2.1.leap
            have k2 : W3.cell? ⟨w.heap.size, 2, none⟩ = some (.int .i64 q.mode) := HW3.out.2.1.mode
            have k3 : W3.cell? ⟨w.heap.size, 3, none⟩ = some (.int .i64 q.str) := HW3.out.2.1.str
            have k8 : W3.cell? ⟨w.heap.size, 8, none⟩ = some (.int .u32 q.rid) := HW3.out.2.1.rid
            have k10 : W3.cell? ⟨w.heap.size, 10, none⟩ = some (.int .u64 q.org) := HW3.out.2.1.org
            have k12 : W3.cell? ⟨w.heap.size, 12, none⟩ = some (.int .u64 q.xmt) := HW3.out.2.1.xmt
            go_wp2_with fail
            rw [hQ.out]
            go_ret
            exact ⟨ret_int' (by rw [← HVd.out.1, vd4 HV.out.1 (by unfold dupB; rw [ht]; rfl) hm hr0 (by rw [← hrq]; exact ho)]), HW3.out.2.2⟩
    · rw [ht] at p15
      by_cases hm : q.mode = 5
      · have hm' : (q.mode == 5) = true := by simpa using hm
        by_cases hx : q.xmt = s.last
        · have hx' : (q.xmt == s.last) = true := by simpa using hx
          go_wp2_with fail
          refine wp_region_quietW (by kernel_rfl) (by kernel_rfl) ?_
          repeat (refine qw_step (fun K hK => ?_); go_simp; first | (refine hK _ ?_; clear hK K))
          refine qw_nil ?_
          intro W2 hw'
          obtain ⟨nq, hw''⟩ := hw'
          have HW2 : Hid (Rm W2 p a s rq ∧ Kb W2 w.heap.size q ∧ Below w.heap.size w W2) := by rw [hw'']; exact ⟨HW1.out.1.kept rfl, HW1.out.2.1.kept rfl, below_dr HW1.out.2.2 nq⟩
          clear hw''
          clear p0 p2 p12 p13 p14 p15 p16 k0 k2 k3 k8 k10 k12
          have p0 : W2.cell? ⟨p, 0, none⟩ = some (.int .i64 s.kind) := by rw [HW2.out.1.kd]; exact HW2.out.1.bk.cell 0
          have p2 : W2.cell? ⟨p, 2, none⟩ = some (.int .i64 s.key) := by rw [HW2.out.1.ky]; exact HW2.out.1.bk.cell 2
          have p12 : W2.cell? ⟨p, 12, none⟩ = some (.int .u32 s.own) := HW2.out.1.bk.cell 12
          have p13 : W2.cell? ⟨p, 13, none⟩ = some (.bool ASK) := by rw [← HAs.out]; exact HW2.out.1.bk.cell 13
          have p14 : W2.cell? ⟨p, 14, none⟩ = some (.int .u64 rq) := HW2.out.1.bk.cell 14
          have p15 : W2.cell? ⟨p, 15, none⟩ = some (.bool s.taken) := HW2.out.1.bk.cell 15
          have p16 : W2.cell? ⟨p, 16, none⟩ = some (.int .u64 s.last) := HW2.out.1.bk.cell 16
          have k0 : W2.cell? ⟨w.heap.size, 0, none⟩ = some (.int .i64 q.leap) := HW2.out.2.1.leap
          have k2 : W2.cell? ⟨w.heap.size, 2, none⟩ = some (.int .i64 q.mode) := HW2.out.2.1.mode
          have k3 : W2.cell? ⟨w.heap.size, 3, none⟩ = some (.int .i64 q.str) := HW2.out.2.1.str
          have k8 : W2.cell? ⟨w.heap.size, 8, none⟩ = some (.int .u32 q.rid) := HW2.out.2.1.rid
          have k10 : W2.cell? ⟨w.heap.size, 10, none⟩ = some (.int .u64 q.org) := HW2.out.2.1.org
          have k12 : W2.cell? ⟨w.heap.size, 12, none⟩ = some (.int .u64 q.xmt) := HW2.out.2.1.xmt
          go_wp2_with fail
          rw [hQ.out]
          go_ret
          exact ⟨ret_int' (by rw [← HVd.out.1, vd2 HV.out.1 (by unfold dupB; rw [ht, if_pos hm, hx]; simp [sn_self])]), HW2.out.2.2⟩
        · have hx' : (q.xmt == s.last) = false := by simpa using hx
          by_cases hD : D ≤ 0
          · have hD' : decide (D ≤ 0) = true := decide_eq_true hD
            go_wp2_with fail
            refine wp_region_quietW (by kernel_rfl) (by kernel_rfl) ?_
            repeat (refine qw_step (fun K hK => ?_); go_simp; first | (refine hK _ ?_; clear hK K) | (apply Exists.intro; refine ⟨fun _ => ?_, hK _ ?_⟩; (go_at_call 40; exact Calls.quiet_of_same (HSi.out _)); clear hK K))
            refine qw_nil ?_
            intro W2 hw'
            obtain ⟨nq, hw''⟩ := hw'
            have HW2 : Hid (Rm W2 p a s rq ∧ Kb W2 w.heap.size q ∧ Below w.heap.size w W2) := by rw [hw'']; exact ⟨HW1.out.1.kept rfl, HW1.out.2.1.kept rfl, below_dr HW1.out.2.2 nq⟩
            clear hw''
            clear p0 p2 p12 p13 p14 p15 p16 k0 k2 k3 k8 k10 k12
            have p0 : W2.cell? ⟨p, 0, none⟩ = some (.int .i64 s.kind) := by rw [HW2.out.1.kd]; exact HW2.out.1.bk.cell 0
            have p2 : W2.cell? ⟨p, 2, none⟩ = some (.int .i64 s.key) := by rw [HW2.out.1.ky]; exact HW2.out.1.bk.cell 2
            have p12 : W2.cell? ⟨p, 12, none⟩ = some (.int .u32 s.own) := HW2.out.1.bk.cell 12
            have p13 : W2.cell? ⟨p, 13, none⟩ = some (.bool ASK) := by rw [← HAs.out]; exact HW2.out.1.bk.cell 13
            have p14 : W2.cell? ⟨p, 14, none⟩ = some (.int .u64 rq) := HW2.out.1.bk.cell 14
            have p15 : W2.cell? ⟨p, 15, none⟩ = some (.bool s.taken) := HW2.out.1.bk.cell 15
            have p16 : W2.cell? ⟨p, 16, none⟩ = some (.int .u64 s.last) := HW2.out.1.bk.cell 16
            have k0 : W2.cell? ⟨w.heap.size, 0, none⟩ = some (.int .i64 q.leap) := HW2.out.2.1.leap
            have k2 : W2.cell? ⟨w.heap.size, 2, none⟩ = some (.int .i64 q.mode) := HW2.out.2.1.mode
            have k3 : W2.cell? ⟨w.heap.size, 3, none⟩ = some (.int .i64 q.str) := HW2.out.2.1.str
            have k8 : W2.cell? ⟨w.heap.size, 8, none⟩ = some (.int .u32 q.rid) := HW2.out.2.1.rid
            have k10 : W2.cell? ⟨w.heap.size, 10, none⟩ = some (.int .u64 q.org) := HW2.out.2.1.org
            have k12 : W2.cell? ⟨w.heap.size, 12, none⟩ = some (.int .u64 q.xmt) := HW2.out.2.1.xmt
            go_wp2_with fail
            rw [hQ.out]
            go_ret
            exact ⟨ret_int' (by rw [← HVd.out.1, vd2 HV.out.1 (by unfold dupB; rw [ht, if_pos hm, HV.out.2]; simpa using hD)]), HW2.out.2.2⟩
          · have hD' : decide (D ≤ 0) = false := decide_eq_false hD
            go_wp2_with fail
            refine wp_region_quietW (by kernel_rfl) (by kernel_rfl) ?_
            repeat (refine qw_step (fun K hK => ?_); go_simp; first | (refine hK _ ?_; clear hK K) | (apply Exists.intro; refine ⟨fun _ => ?_, hK _ ?_⟩; (go_at_call 40; exact Calls.quiet_of_same (HSi.out _)); clear hK K))
            refine qw_nil ?_
            intro W2 hw'
            obtain ⟨nq, hw''⟩ := hw'
            have HW2 : Hid (Rm W2 p a s rq ∧ Kb W2 w.heap.size q ∧ Below w.heap.size w W2) := by rw [hw'']; exact ⟨HW1.out.1.kept rfl, HW1.out.2.1.kept rfl, below_dr HW1.out.2.2 nq⟩
            clear hw''
            clear p0 p2 p12 p13 p14 p15 p16 k0 k2 k3 k8 k10 k12
            have p0 : W2.cell? ⟨p, 0, none⟩ = some (.int .i64 s.kind) := by rw [HW2.out.1.kd]; exact HW2.out.1.bk.cell 0
            have p2 : W2.cell? ⟨p, 2, none⟩ = some (.int .i64 s.key) := by rw [HW2.out.1.ky]; exact HW2.out.1.bk.cell 2
            have p12 : W2.cell? ⟨p, 12, none⟩ = some (.int .u32 s.own) := HW2.out.1.bk.cell 12
            have p13 : W2.cell? ⟨p, 13, none⟩ = some (.bool ASK) := by rw [← HAs.out]; exact HW2.out.1.bk.cell 13
            have p14 : W2.cell? ⟨p, 14, none⟩ = some (.int .u64 rq) := HW2.out.1.bk.cell 14
            have p15 : W2.cell? ⟨p, 15, none⟩ = some (.bool s.taken) := HW2.out.1.bk.cell 15
            have p16 : W2.cell? ⟨p, 16, none⟩ = some (.int .u64 s.last) := HW2.out.1.bk.cell 16
            have k0 : W2.cell? ⟨w.heap.size, 0, none⟩ = some (.int .i64 q.leap) := HW2.out.2.1.leap
            have k2 : W2.cell? ⟨w.heap.size, 2, none⟩ = some (.int .i64 q.mode) := HW2.out.2.1.mode
            have k3 : W2.cell? ⟨w.heap.size, 3, none⟩ = some (.int .i64 q.str) := HW2.out.2.1.str
            have k8 : W2.cell? ⟨w.heap.size, 8, none⟩ = some (.int .u32 q.rid) := HW2.out.2.1.rid
            have k10 : W2.cell? ⟨w.heap.size, 10, none⟩ = some (.int .u64 q.org) := HW2.out.2.1.org
            have k12 : W2.cell? ⟨w.heap.size, 12, none⟩ = some (.int .u64 q.xmt) := HW2.out.2.1.xmt
            have hm2 : (q.mode != 5) = false := by simpa using hm
            go_wp2_with fail
            refine wp_region_quietW (by kernel_rfl) (by kernel_rfl) ?_
            repeat (refine qw_step (fun K hK => ?_); go_simp; first | (refine hK _ ?_; clear hK K))
            refine qw_nil ?_
            intro W3 hw'
            obtain ⟨nq, hw''⟩ := hw'
            have HW3 : Hid (Rm W3 p a s rq ∧ Kb W3 w.heap.size q ∧ Below w.heap.size w W3) := by rw [hw'']; exact ⟨HW2.out.1.kept rfl, HW2.out.2.1.kept rfl, below_dr HW2.out.2.2 nq⟩
            clear hw''
            clear p0 p2 p12 p13 p14 p15 p16 k0 k2 k3 k8 k10 k12
            have p0 : W3.cell? ⟨p, 0, none⟩ = some (.int .i64 s.kind) := by rw [HW3.out.1.kd]; exact HW3.out.1.bk.cell 0
            have p2 : W3.cell? ⟨p, 2, none⟩ = some (.int .i64 s.key) := by rw [HW3.out.1.ky]; exact HW3.out.1.bk.cell 2
            have p12 : W3.cell? ⟨p, 12, none⟩ = some (.int .u32 s.own) := HW3.out.1.bk.cell 12
            have p13 : W3.cell? ⟨p, 13, none⟩ = some (.bool ASK) := by rw [← HAs.out]; exact HW3.out.1.bk.cell 13
            have p14 : W3.cell? ⟨p, 14, none⟩ = some (.int .u64 rq) := HW3.out.1.bk.cell 14
            have p15 : W3.cell? ⟨p, 15, none⟩ = some (.bool s.taken) := HW3.out.1.bk.cell 15
            have p16 : W3.cell? ⟨p, 16, none⟩ = some (.int .u64 s.last) := HW3.out.1.bk.cell 16
            have k0 : W3.cell? ⟨w.heap.size, 0, none⟩ = some (.int .i64 q.leap) := HW3.out.2.1.leap
            have k2 : W3.cell? ⟨w.heap.size, 2, none⟩ = some (.int .i64 q.mode) := HW3.out.2.1.mode
            have k3 : W3.cell? ⟨w.heap.size, 3, none⟩ = some (.int .i64 q.str) := HW3.out.2.1.str
            have k8 : W3.cell? ⟨w.heap.size, 8, none⟩ = some (.int .u32 q.rid) := HW3.out.2.1.rid
            have k10 : W3.cell? ⟨w.heap.size, 10, none⟩ = some (.int .u64 q.org) := HW3.out.2.1.org
            have k12 : W3.cell? ⟨w.heap.size, 12, none⟩ = some (.int .u64 q.xmt) := HW3.out.2.1.xmt
            have hT : Vd = if trB s au = false then 5 else if kissB q = true then 6 else Vh := by rw [← HVd.out.1, ← HVd.out.2]; exact vdT HV.out.1 (by unfold dupB; rw [ht, if_pos hm, HV.out.2]; simp; omega) (.inl hm)
            have HT : Hid (Vd = if trB s au = false then 5 else if kissB q = true then 6 else Vh) := hT
            clear hT
            by_cases hky : s.key = 0
            · have hky' : (s.key != 0) = false := by simpa using hky
              have ht5 : trB s au = true := by unfold trB; simp [hky]
              by_cases hs0 : q.str = 0
              · have hs0' : (q.str == 0) = true := by simpa using hs0
                by_cases hl3 : q.leap = 3
                · have hl3' : (q.leap == 3) = true := by simpa using hl3
                  by_cases hr0 : q.rid = 0
                  · have hr0' : (q.rid != 0) = false := by simpa using hr0
                    go_wp2_with fail
                    refine wp_region_grown (by kernel_rfl) (by kernel_rfl) ?_
                    intro C hC hG
                    have al : Hid (∀ u, C u → Kb u w.heap.size q) := fun u hu => HW3.out.2.1.kept ((hC u hu).block _ HW3.out.2.1.lt)
                    have q12 : Hid (∀ u, C u → u.cell? ⟨p, 12, none⟩ = some (.int .u32 s.own)) := fun u hu => (HW3.out.1.kept ((hC u hu).block _ HW3.out.1.lt)).bk.cell 12
                    have Z1 : Hid (∀ u, C u → Calls Try.prog 23 #[.agg (pkC q).toArray, .int .u32 s.own] u fun e w' => e = .returned (.int .i64 Vh) ∧ C w') := fun u hu => (HHd.out u).mono fun e w' ⟨h1, h2⟩ => ⟨h1, hG u w' hu h2⟩
                    refine QW.out ?_
                    repeat (first
                      | (refine qa_ldW (by rfl) 44 _ rfl ⟨w.heap.size, 0, none⟩ (by rfl) (pkC q) _ Try.underlying44 rfl (by kernel_rfl) (fun u hu => (al.out u hu).all) ?_; try go_simp)
                      | (refine qa_valW (by rfl) ?_; apply Exists.intro; refine ⟨fun u hu => ?_, ?_⟩; ((have e0 := q12.out u hu); go_simp; exact rfl); try go_simp)
                      | (refine qa_callW (by rfl) 23 _ _ ?_ (fun u hu => Z1.out u hu) ?_; (focus (intro u hu; go_simp; first | done | exact rfl)); try go_simp))
                    refine qw_nil ?_
                    intro u hu
                    have HB9 : Hid (Below w.heap.size w u) := HW3.out.2.2.trans (Below.mono hu HW3.out.2.2.size)
                    clear al q12 Z1 hC hG hu
                    go_wp2_with fail
                    rw [hQ.out]
                    go_ret
                    exact ⟨ret_int' (by rw [HT.out, ht5]; unfold kissB; simp [hs0, hl3, hr0]), HB9.out⟩
                  · have hr0' : (q.rid != 0) = true := by simpa using hr0
                    go_wp2_with fail
                    rw [hQ.out]
                    go_ret
                    exact ⟨ret_int' (by rw [HT.out, ht5]; unfold kissB; simp [hs0, hl3, hr0]), HW3.out.2.2⟩
                · have hl3' : (q.leap == 3) = false := by simpa using hl3
                  go_wp2_with fail
                  refine wp_region_grown (by kernel_rfl) (by kernel_rfl) ?_
                  intro C hC hG
                  have al : Hid (∀ u, C u → Kb u w.heap.size q) := fun u hu => HW3.out.2.1.kept ((hC u hu).block _ HW3.out.2.1.lt)
                  have q12 : Hid (∀ u, C u → u.cell? ⟨p, 12, none⟩ = some (.int .u32 s.own)) := fun u hu => (HW3.out.1.kept ((hC u hu).block _ HW3.out.1.lt)).bk.cell 12
                  have Z1 : Hid (∀ u, C u → Calls Try.prog 23 #[.agg (pkC q).toArray, .int .u32 s.own] u fun e w' => e = .returned (.int .i64 Vh) ∧ C w') := fun u hu => (HHd.out u).mono fun e w' ⟨h1, h2⟩ => ⟨h1, hG u w' hu h2⟩
                  refine QW.out ?_
                  repeat (first
                    | (refine qa_ldW (by rfl) 44 _ rfl ⟨w.heap.size, 0, none⟩ (by rfl) (pkC q) _ Try.underlying44 rfl (by kernel_rfl) (fun u hu => (al.out u hu).all) ?_; try go_simp)
                    | (refine qa_valW (by rfl) ?_; apply Exists.intro; refine ⟨fun u hu => ?_, ?_⟩; ((have e0 := q12.out u hu); go_simp; exact rfl); try go_simp)
                    | (refine qa_callW (by rfl) 23 _ _ ?_ (fun u hu => Z1.out u hu) ?_; (focus (intro u hu; go_simp; first | done | exact rfl)); try go_simp))
                  refine qw_nil ?_
                  intro u hu
                  have HB9 : Hid (Below w.heap.size w u) := HW3.out.2.2.trans (Below.mono hu HW3.out.2.2.size)
                  clear al q12 Z1 hC hG hu
                  go_wp2_with fail
                  rw [hQ.out]
                  go_ret
                  exact ⟨ret_int' (by rw [HT.out, ht5]; unfold kissB; simp [hs0, hl3]), HB9.out⟩
              · have hs0' : (q.str == 0) = false := by simpa using hs0
                go_wp2_with fail
                refine wp_region_grown (by kernel_rfl) (by kernel_rfl) ?_
                intro C hC hG
                have al : Hid (∀ u, C u → Kb u w.heap.size q) := fun u hu => HW3.out.2.1.kept ((hC u hu).block _ HW3.out.2.1.lt)
                have q12 : Hid (∀ u, C u → u.cell? ⟨p, 12, none⟩ = some (.int .u32 s.own)) := fun u hu => (HW3.out.1.kept ((hC u hu).block _ HW3.out.1.lt)).bk.cell 12
                have Z1 : Hid (∀ u, C u → Calls Try.prog 23 #[.agg (pkC q).toArray, .int .u32 s.own] u fun e w' => e = .returned (.int .i64 Vh) ∧ C w') := fun u hu => (HHd.out u).mono fun e w' ⟨h1, h2⟩ => ⟨h1, hG u w' hu h2⟩
                refine QW.out ?_
                repeat (first
                  | (refine qa_ldW (by rfl) 44 _ rfl ⟨w.heap.size, 0, none⟩ (by rfl) (pkC q) _ Try.underlying44 rfl (by kernel_rfl) (fun u hu => (al.out u hu).all) ?_; try go_simp)
                  | (refine qa_valW (by rfl) ?_; apply Exists.intro; refine ⟨fun u hu => ?_, ?_⟩; ((have e0 := q12.out u hu); go_simp; exact rfl); try go_simp)
                  | (refine qa_callW (by rfl) 23 _ _ ?_ (fun u hu => Z1.out u hu) ?_; (focus (intro u hu; go_simp; first | done | exact rfl)); try go_simp))
                refine qw_nil ?_
                intro u hu
                have HB9 : Hid (Below w.heap.size w u) := HW3.out.2.2.trans (Below.mono hu HW3.out.2.2.size)
                clear al q12 Z1 hC hG hu
                go_wp2_with fail
                rw [hQ.out]
                go_ret
                exact ⟨ret_int' (by rw [HT.out, ht5]; unfold kissB; simp [hs0]), HB9.out⟩
            · have hky' : (s.key != 0) = true := by simpa using hky
              rcases au with _ | _
              · go_wp2_with fail
                rw [hQ.out]
                go_ret
                exact ⟨ret_int' (by rw [HT.out]; unfold trB; simp [hky]), HW3.out.2.2⟩
              · have ht5 : trB s true = true := by unfold trB; simp
                by_cases hs0 : q.str = 0
                · have hs0' : (q.str == 0) = true := by simpa using hs0
                  by_cases hl3 : q.leap = 3
                  · have hl3' : (q.leap == 3) = true := by simpa using hl3
                    by_cases hr0 : q.rid = 0
                    · have hr0' : (q.rid != 0) = false := by simpa using hr0
                      go_wp2_with fail
                      refine wp_region_grown (by kernel_rfl) (by kernel_rfl) ?_
                      intro C hC hG
                      have al : Hid (∀ u, C u → Kb u w.heap.size q) := fun u hu => HW3.out.2.1.kept ((hC u hu).block _ HW3.out.2.1.lt)
                      have q12 : Hid (∀ u, C u → u.cell? ⟨p, 12, none⟩ = some (.int .u32 s.own)) := fun u hu => (HW3.out.1.kept ((hC u hu).block _ HW3.out.1.lt)).bk.cell 12
                      have Z1 : Hid (∀ u, C u → Calls Try.prog 23 #[.agg (pkC q).toArray, .int .u32 s.own] u fun e w' => e = .returned (.int .i64 Vh) ∧ C w') := fun u hu => (HHd.out u).mono fun e w' ⟨h1, h2⟩ => ⟨h1, hG u w' hu h2⟩
                      refine QW.out ?_
                      repeat (first
                        | (refine qa_ldW (by rfl) 44 _ rfl ⟨w.heap.size, 0, none⟩ (by rfl) (pkC q) _ Try.underlying44 rfl (by kernel_rfl) (fun u hu => (al.out u hu).all) ?_; try go_simp)
                        | (refine qa_valW (by rfl) ?_; apply Exists.intro; refine ⟨fun u hu => ?_, ?_⟩; ((have e0 := q12.out u hu); go_simp; exact rfl); try go_simp)
                        | (refine qa_callW (by rfl) 23 _ _ ?_ (fun u hu => Z1.out u hu) ?_; (focus (intro u hu; go_simp; first | done | exact rfl)); try go_simp))
                      refine qw_nil ?_
                      intro u hu
                      have HB9 : Hid (Below w.heap.size w u) := HW3.out.2.2.trans (Below.mono hu HW3.out.2.2.size)
                      clear al q12 Z1 hC hG hu
                      go_wp2_with fail
                      rw [hQ.out]
                      go_ret
                      exact ⟨ret_int' (by rw [HT.out, ht5]; unfold kissB; simp [hs0, hl3, hr0]), HB9.out⟩
                    · have hr0' : (q.rid != 0) = true := by simpa using hr0
                      go_wp2_with fail
                      rw [hQ.out]
                      go_ret
                      exact ⟨ret_int' (by rw [HT.out, ht5]; unfold kissB; simp [hs0, hl3, hr0]), HW3.out.2.2⟩
                  · have hl3' : (q.leap == 3) = false := by simpa using hl3
                    go_wp2_with fail
                    refine wp_region_grown (by kernel_rfl) (by kernel_rfl) ?_
                    intro C hC hG
                    have al : Hid (∀ u, C u → Kb u w.heap.size q) := fun u hu => HW3.out.2.1.kept ((hC u hu).block _ HW3.out.2.1.lt)
                    have q12 : Hid (∀ u, C u → u.cell? ⟨p, 12, none⟩ = some (.int .u32 s.own)) := fun u hu => (HW3.out.1.kept ((hC u hu).block _ HW3.out.1.lt)).bk.cell 12
                    have Z1 : Hid (∀ u, C u → Calls Try.prog 23 #[.agg (pkC q).toArray, .int .u32 s.own] u fun e w' => e = .returned (.int .i64 Vh) ∧ C w') := fun u hu => (HHd.out u).mono fun e w' ⟨h1, h2⟩ => ⟨h1, hG u w' hu h2⟩
                    refine QW.out ?_
                    repeat (first
                      | (refine qa_ldW (by rfl) 44 _ rfl ⟨w.heap.size, 0, none⟩ (by rfl) (pkC q) _ Try.underlying44 rfl (by kernel_rfl) (fun u hu => (al.out u hu).all) ?_; try go_simp)
                      | (refine qa_valW (by rfl) ?_; apply Exists.intro; refine ⟨fun u hu => ?_, ?_⟩; ((have e0 := q12.out u hu); go_simp; exact rfl); try go_simp)
                      | (refine qa_callW (by rfl) 23 _ _ ?_ (fun u hu => Z1.out u hu) ?_; (focus (intro u hu; go_simp; first | done | exact rfl)); try go_simp))
                    refine qw_nil ?_
                    intro u hu
                    have HB9 : Hid (Below w.heap.size w u) := HW3.out.2.2.trans (Below.mono hu HW3.out.2.2.size)
                    clear al q12 Z1 hC hG hu
                    go_wp2_with fail
                    rw [hQ.out]
                    go_ret
                    exact ⟨ret_int' (by rw [HT.out, ht5]; unfold kissB; simp [hs0, hl3]), HB9.out⟩
                · have hs0' : (q.str == 0) = false := by simpa using hs0
                  go_wp2_with fail
                  refine wp_region_grown (by kernel_rfl) (by kernel_rfl) ?_
                  intro C hC hG
                  have al : Hid (∀ u, C u → Kb u w.heap.size q) := fun u hu => HW3.out.2.1.kept ((hC u hu).block _ HW3.out.2.1.lt)
                  have q12 : Hid (∀ u, C u → u.cell? ⟨p, 12, none⟩ = some (.int .u32 s.own)) := fun u hu => (HW3.out.1.kept ((hC u hu).block _ HW3.out.1.lt)).bk.cell 12
                  have Z1 : Hid (∀ u, C u → Calls Try.prog 23 #[.agg (pkC q).toArray, .int .u32 s.own] u fun e w' => e = .returned (.int .i64 Vh) ∧ C w') := fun u hu => (HHd.out u).mono fun e w' ⟨h1, h2⟩ => ⟨h1, hG u w' hu h2⟩
                  refine QW.out ?_
                  repeat (first
                    | (refine qa_ldW (by rfl) 44 _ rfl ⟨w.heap.size, 0, none⟩ (by rfl) (pkC q) _ Try.underlying44 rfl (by kernel_rfl) (fun u hu => (al.out u hu).all) ?_; try go_simp)
                    | (refine qa_valW (by rfl) ?_; apply Exists.intro; refine ⟨fun u hu => ?_, ?_⟩; ((have e0 := q12.out u hu); go_simp; exact rfl); try go_simp)
                    | (refine qa_callW (by rfl) 23 _ _ ?_ (fun u hu => Z1.out u hu) ?_; (focus (intro u hu; go_simp; first | done | exact rfl)); try go_simp))
                  refine qw_nil ?_
                  intro u hu
                  have HB9 : Hid (Below w.heap.size w u) := HW3.out.2.2.trans (Below.mono hu HW3.out.2.2.size)
                  clear al q12 Z1 hC hG hu
                  go_wp2_with fail
                  rw [hQ.out]
                  go_ret
                  exact ⟨ret_int' (by rw [HT.out, ht5]; unfold kissB; simp [hs0]), HB9.out⟩
      · have hm' : (q.mode == 5) = false := by simpa using hm
        by_cases hx : q.xmt = s.last
        · have hx' : (q.xmt == s.last) = true := by simpa using hx
          go_wp2_with fail
          refine wp_region_quietW (by kernel_rfl) (by kernel_rfl) ?_
          repeat (refine qw_step (fun K hK => ?_); go_simp; first | (refine hK _ ?_; clear hK K))
          refine qw_nil ?_
          intro W2 hw'
          obtain ⟨nq, hw''⟩ := hw'
          have HW2 : Hid (Rm W2 p a s rq ∧ Kb W2 w.heap.size q ∧ Below w.heap.size w W2) := by rw [hw'']; exact ⟨HW1.out.1.kept rfl, HW1.out.2.1.kept rfl, below_dr HW1.out.2.2 nq⟩
          clear hw''
          clear p0 p2 p12 p13 p14 p15 p16 k0 k2 k3 k8 k10 k12
          have p0 : W2.cell? ⟨p, 0, none⟩ = some (.int .i64 s.kind) := by rw [HW2.out.1.kd]; exact HW2.out.1.bk.cell 0
          have p2 : W2.cell? ⟨p, 2, none⟩ = some (.int .i64 s.key) := by rw [HW2.out.1.ky]; exact HW2.out.1.bk.cell 2
          have p12 : W2.cell? ⟨p, 12, none⟩ = some (.int .u32 s.own) := HW2.out.1.bk.cell 12
          have p13 : W2.cell? ⟨p, 13, none⟩ = some (.bool ASK) := by rw [← HAs.out]; exact HW2.out.1.bk.cell 13
          have p14 : W2.cell? ⟨p, 14, none⟩ = some (.int .u64 rq) := HW2.out.1.bk.cell 14
          have p15 : W2.cell? ⟨p, 15, none⟩ = some (.bool s.taken) := HW2.out.1.bk.cell 15
          have p16 : W2.cell? ⟨p, 16, none⟩ = some (.int .u64 s.last) := HW2.out.1.bk.cell 16
          have k0 : W2.cell? ⟨w.heap.size, 0, none⟩ = some (.int .i64 q.leap) := HW2.out.2.1.leap
          have k2 : W2.cell? ⟨w.heap.size, 2, none⟩ = some (.int .i64 q.mode) := HW2.out.2.1.mode
          have k3 : W2.cell? ⟨w.heap.size, 3, none⟩ = some (.int .i64 q.str) := HW2.out.2.1.str
          have k8 : W2.cell? ⟨w.heap.size, 8, none⟩ = some (.int .u32 q.rid) := HW2.out.2.1.rid
          have k10 : W2.cell? ⟨w.heap.size, 10, none⟩ = some (.int .u64 q.org) := HW2.out.2.1.org
          have k12 : W2.cell? ⟨w.heap.size, 12, none⟩ = some (.int .u64 q.xmt) := HW2.out.2.1.xmt
          go_wp2_with fail
          rw [hQ.out]
          go_ret
          exact ⟨ret_int' (by rw [← HVd.out.1, vd2 HV.out.1 (by unfold dupB; rw [ht, if_neg hm]; simpa using hx)]), HW2.out.2.2⟩
        · have hx' : (q.xmt == s.last) = false := by simpa using hx
          go_wp2_with fail
          refine wp_region_quietW (by kernel_rfl) (by kernel_rfl) ?_
          repeat (refine qw_step (fun K hK => ?_); go_simp; first | (refine hK _ ?_; clear hK K))
          refine qw_nil ?_
          intro W2 hw'
          obtain ⟨nq, hw''⟩ := hw'
          have HW2 : Hid (Rm W2 p a s rq ∧ Kb W2 w.heap.size q ∧ Below w.heap.size w W2) := by rw [hw'']; exact ⟨HW1.out.1.kept rfl, HW1.out.2.1.kept rfl, below_dr HW1.out.2.2 nq⟩
          clear hw''
          clear p0 p2 p12 p13 p14 p15 p16 k0 k2 k3 k8 k10 k12
          have p0 : W2.cell? ⟨p, 0, none⟩ = some (.int .i64 s.kind) := by rw [HW2.out.1.kd]; exact HW2.out.1.bk.cell 0
          have p2 : W2.cell? ⟨p, 2, none⟩ = some (.int .i64 s.key) := by rw [HW2.out.1.ky]; exact HW2.out.1.bk.cell 2
          have p12 : W2.cell? ⟨p, 12, none⟩ = some (.int .u32 s.own) := HW2.out.1.bk.cell 12
          have p13 : W2.cell? ⟨p, 13, none⟩ = some (.bool ASK) := by rw [← HAs.out]; exact HW2.out.1.bk.cell 13
          have p14 : W2.cell? ⟨p, 14, none⟩ = some (.int .u64 rq) := HW2.out.1.bk.cell 14
          have p15 : W2.cell? ⟨p, 15, none⟩ = some (.bool s.taken) := HW2.out.1.bk.cell 15
          have p16 : W2.cell? ⟨p, 16, none⟩ = some (.int .u64 s.last) := HW2.out.1.bk.cell 16
          have k0 : W2.cell? ⟨w.heap.size, 0, none⟩ = some (.int .i64 q.leap) := HW2.out.2.1.leap
          have k2 : W2.cell? ⟨w.heap.size, 2, none⟩ = some (.int .i64 q.mode) := HW2.out.2.1.mode
          have k3 : W2.cell? ⟨w.heap.size, 3, none⟩ = some (.int .i64 q.str) := HW2.out.2.1.str
          have k8 : W2.cell? ⟨w.heap.size, 8, none⟩ = some (.int .u32 q.rid) := HW2.out.2.1.rid
          have k10 : W2.cell? ⟨w.heap.size, 10, none⟩ = some (.int .u64 q.org) := HW2.out.2.1.org
          have k12 : W2.cell? ⟨w.heap.size, 12, none⟩ = some (.int .u64 q.xmt) := HW2.out.2.1.xmt
          have hm2 : (q.mode != 5) = true := by simpa using hm
          rcases ASK with _ | _
          · have hr0 : s.req = 0 := by have := HAs.out; simpa using this
            go_wp2_with fail
            rw [hQ.out]
            go_ret
            exact ⟨ret_int' (by rw [← HVd.out.1, vd3 HV.out.1 (by unfold dupB; rw [ht, if_neg hm]; simpa using hx) hm hr0]), HW2.out.2.2⟩
          · have hr0 : s.req ≠ 0 := by have := HAs.out; simpa using this
            have hrq : rq = s.req := HA.out.1.rq hr0
            by_cases ho : q.org = rq
            · have ho' : (q.org != rq) = false := by simpa using ho
              go_wp2_with fail
              refine wp_region_quietW (by kernel_rfl) (by kernel_rfl) ?_
              repeat (refine qw_step (fun K hK => ?_); go_simp; first | (refine hK _ ?_; clear hK K))
              refine qw_nil ?_
              intro W3 hw'
              obtain ⟨nq, hw''⟩ := hw'
              have HW3 : Hid (Rm W3 p a s rq ∧ Kb W3 w.heap.size q ∧ Below w.heap.size w W3) := by rw [hw'']; exact ⟨HW2.out.1.kept rfl, HW2.out.2.1.kept rfl, below_dr HW2.out.2.2 nq⟩
              clear hw''
              clear p0 p2 p12 p13 p14 p15 p16 k0 k2 k3 k8 k10 k12
              have p0 : W3.cell? ⟨p, 0, none⟩ = some (.int .i64 s.kind) := by rw [HW3.out.1.kd]; exact HW3.out.1.bk.cell 0
              have p2 : W3.cell? ⟨p, 2, none⟩ = some (.int .i64 s.key) := by rw [HW3.out.1.ky]; exact HW3.out.1.bk.cell 2
              have p12 : W3.cell? ⟨p, 12, none⟩ = some (.int .u32 s.own) := HW3.out.1.bk.cell 12
              have p13 : W3.cell? ⟨p, 13, none⟩ = some (.bool true) := by rw [← HAs.out]; exact HW3.out.1.bk.cell 13
              have p14 : W3.cell? ⟨p, 14, none⟩ = some (.int .u64 rq) := HW3.out.1.bk.cell 14
              have p15 : W3.cell? ⟨p, 15, none⟩ = some (.bool s.taken) := HW3.out.1.bk.cell 15
              have p16 : W3.cell? ⟨p, 16, none⟩ = some (.int .u64 s.last) := HW3.out.1.bk.cell 16
              have k0 : W3.cell? ⟨w.heap.size, 0, none⟩ = some (.int .i64 q.leap) := HW3.out.2.1.leap
              have k2 : W3.cell? ⟨w.heap.size, 2, none⟩ = some (.int .i64 q.mode) := HW3.out.2.1.mode
              have k3 : W3.cell? ⟨w.heap.size, 3, none⟩ = some (.int .i64 q.str) := HW3.out.2.1.str
              have k8 : W3.cell? ⟨w.heap.size, 8, none⟩ = some (.int .u32 q.rid) := HW3.out.2.1.rid
              have k10 : W3.cell? ⟨w.heap.size, 10, none⟩ = some (.int .u64 q.org) := HW3.out.2.1.org
              have k12 : W3.cell? ⟨w.heap.size, 12, none⟩ = some (.int .u64 q.xmt) := HW3.out.2.1.xmt
              have hT : Vd = if trB s au = false then 5 else if kissB q = true then 6 else Vh := by rw [← HVd.out.1, ← HVd.out.2]; exact vdT HV.out.1 (by unfold dupB; rw [ht, if_neg hm]; simpa using hx) (.inr ⟨hr0, by rw [← hrq]; exact ho⟩)
              have HT : Hid (Vd = if trB s au = false then 5 else if kissB q = true then 6 else Vh) := hT
              clear hT
              by_cases hky : s.key = 0
              · have hky' : (s.key != 0) = false := by simpa using hky
                have ht5 : trB s au = true := by unfold trB; simp [hky]
                by_cases hs0 : q.str = 0
                · have hs0' : (q.str == 0) = true := by simpa using hs0
                  by_cases hl3 : q.leap = 3
                  · have hl3' : (q.leap == 3) = true := by simpa using hl3
                    by_cases hr0 : q.rid = 0
                    · have hr0' : (q.rid != 0) = false := by simpa using hr0
                      go_wp2_with fail
                      refine wp_region_grown (by kernel_rfl) (by kernel_rfl) ?_
                      intro C hC hG
                      have al : Hid (∀ u, C u → Kb u w.heap.size q) := fun u hu => HW3.out.2.1.kept ((hC u hu).block _ HW3.out.2.1.lt)
                      have q12 : Hid (∀ u, C u → u.cell? ⟨p, 12, none⟩ = some (.int .u32 s.own)) := fun u hu => (HW3.out.1.kept ((hC u hu).block _ HW3.out.1.lt)).bk.cell 12
                      have Z1 : Hid (∀ u, C u → Calls Try.prog 23 #[.agg (pkC q).toArray, .int .u32 s.own] u fun e w' => e = .returned (.int .i64 Vh) ∧ C w') := fun u hu => (HHd.out u).mono fun e w' ⟨h1, h2⟩ => ⟨h1, hG u w' hu h2⟩
                      refine QW.out ?_
                      repeat (first
                        | (refine qa_ldW (by rfl) 44 _ rfl ⟨w.heap.size, 0, none⟩ (by rfl) (pkC q) _ Try.underlying44 rfl (by kernel_rfl) (fun u hu => (al.out u hu).all) ?_; try go_simp)
                        | (refine qa_valW (by rfl) ?_; apply Exists.intro; refine ⟨fun u hu => ?_, ?_⟩; ((have e0 := q12.out u hu); go_simp; exact rfl); try go_simp)
                        | (refine qa_callW (by rfl) 23 _ _ ?_ (fun u hu => Z1.out u hu) ?_; (focus (intro u hu; go_simp; first | done | exact rfl)); try go_simp))
                      refine qw_nil ?_
                      intro u hu
                      have HB9 : Hid (Below w.heap.size w u) := HW3.out.2.2.trans (Below.mono hu HW3.out.2.2.size)
                      clear al q12 Z1 hC hG hu
                      go_wp2_with fail
                      rw [hQ.out]
                      go_ret
                      exact ⟨ret_int' (by rw [HT.out, ht5]; unfold kissB; simp [hs0, hl3, hr0]), HB9.out⟩
                    · have hr0' : (q.rid != 0) = true := by simpa using hr0
                      go_wp2_with fail
                      rw [hQ.out]
                      go_ret
                      exact ⟨ret_int' (by rw [HT.out, ht5]; unfold kissB; simp [hs0, hl3, hr0]), HW3.out.2.2⟩
                  · have hl3' : (q.leap == 3) = false := by simpa using hl3
                    go_wp2_with fail
                    refine wp_region_grown (by kernel_rfl) (by kernel_rfl) ?_
                    intro C hC hG
                    have al : Hid (∀ u, C u → Kb u w.heap.size q) := fun u hu => HW3.out.2.1.kept ((hC u hu).block _ HW3.out.2.1.lt)
                    have q12 : Hid (∀ u, C u → u.cell? ⟨p, 12, none⟩ = some (.int .u32 s.own)) := fun u hu => (HW3.out.1.kept ((hC u hu).block _ HW3.out.1.lt)).bk.cell 12
                    have Z1 : Hid (∀ u, C u → Calls Try.prog 23 #[.agg (pkC q).toArray, .int .u32 s.own] u fun e w' => e = .returned (.int .i64 Vh) ∧ C w') := fun u hu => (HHd.out u).mono fun e w' ⟨h1, h2⟩ => ⟨h1, hG u w' hu h2⟩
                    refine QW.out ?_
                    repeat (first
                      | (refine qa_ldW (by rfl) 44 _ rfl ⟨w.heap.size, 0, none⟩ (by rfl) (pkC q) _ Try.underlying44 rfl (by kernel_rfl) (fun u hu => (al.out u hu).all) ?_; try go_simp)
                      | (refine qa_valW (by rfl) ?_; apply Exists.intro; refine ⟨fun u hu => ?_, ?_⟩; ((have e0 := q12.out u hu); go_simp; exact rfl); try go_simp)
                      | (refine qa_callW (by rfl) 23 _ _ ?_ (fun u hu => Z1.out u hu) ?_; (focus (intro u hu; go_simp; first | done | exact rfl)); try go_simp))
                    refine qw_nil ?_
                    intro u hu
                    have HB9 : Hid (Below w.heap.size w u) := HW3.out.2.2.trans (Below.mono hu HW3.out.2.2.size)
                    clear al q12 Z1 hC hG hu
                    go_wp2_with fail
                    rw [hQ.out]
                    go_ret
                    exact ⟨ret_int' (by rw [HT.out, ht5]; unfold kissB; simp [hs0, hl3]), HB9.out⟩
                · have hs0' : (q.str == 0) = false := by simpa using hs0
                  go_wp2_with fail
                  refine wp_region_grown (by kernel_rfl) (by kernel_rfl) ?_
                  intro C hC hG
                  have al : Hid (∀ u, C u → Kb u w.heap.size q) := fun u hu => HW3.out.2.1.kept ((hC u hu).block _ HW3.out.2.1.lt)
                  have q12 : Hid (∀ u, C u → u.cell? ⟨p, 12, none⟩ = some (.int .u32 s.own)) := fun u hu => (HW3.out.1.kept ((hC u hu).block _ HW3.out.1.lt)).bk.cell 12
                  have Z1 : Hid (∀ u, C u → Calls Try.prog 23 #[.agg (pkC q).toArray, .int .u32 s.own] u fun e w' => e = .returned (.int .i64 Vh) ∧ C w') := fun u hu => (HHd.out u).mono fun e w' ⟨h1, h2⟩ => ⟨h1, hG u w' hu h2⟩
                  refine QW.out ?_
                  repeat (first
                    | (refine qa_ldW (by rfl) 44 _ rfl ⟨w.heap.size, 0, none⟩ (by rfl) (pkC q) _ Try.underlying44 rfl (by kernel_rfl) (fun u hu => (al.out u hu).all) ?_; try go_simp)
                    | (refine qa_valW (by rfl) ?_; apply Exists.intro; refine ⟨fun u hu => ?_, ?_⟩; ((have e0 := q12.out u hu); go_simp; exact rfl); try go_simp)
                    | (refine qa_callW (by rfl) 23 _ _ ?_ (fun u hu => Z1.out u hu) ?_; (focus (intro u hu; go_simp; first | done | exact rfl)); try go_simp))
                  refine qw_nil ?_
                  intro u hu
                  have HB9 : Hid (Below w.heap.size w u) := HW3.out.2.2.trans (Below.mono hu HW3.out.2.2.size)
                  clear al q12 Z1 hC hG hu
                  go_wp2_with fail
                  rw [hQ.out]
                  go_ret
                  exact ⟨ret_int' (by rw [HT.out, ht5]; unfold kissB; simp [hs0]), HB9.out⟩
              · have hky' : (s.key != 0) = true := by simpa using hky
                rcases au with _ | _
                · go_wp2_with fail
                  rw [hQ.out]
                  go_ret
                  exact ⟨ret_int' (by rw [HT.out]; unfold trB; simp [hky]), HW3.out.2.2⟩
                · have ht5 : trB s true = true := by unfold trB; simp
                  by_cases hs0 : q.str = 0
                  · have hs0' : (q.str == 0) = true := by simpa using hs0
                    by_cases hl3 : q.leap = 3
                    · have hl3' : (q.leap == 3) = true := by simpa using hl3
                      by_cases hr0 : q.rid = 0
                      · have hr0' : (q.rid != 0) = false := by simpa using hr0
                        go_wp2_with fail
                        refine wp_region_grown (by kernel_rfl) (by kernel_rfl) ?_
                        intro C hC hG
                        have al : Hid (∀ u, C u → Kb u w.heap.size q) := fun u hu => HW3.out.2.1.kept ((hC u hu).block _ HW3.out.2.1.lt)
                        have q12 : Hid (∀ u, C u → u.cell? ⟨p, 12, none⟩ = some (.int .u32 s.own)) := fun u hu => (HW3.out.1.kept ((hC u hu).block _ HW3.out.1.lt)).bk.cell 12
                        have Z1 : Hid (∀ u, C u → Calls Try.prog 23 #[.agg (pkC q).toArray, .int .u32 s.own] u fun e w' => e = .returned (.int .i64 Vh) ∧ C w') := fun u hu => (HHd.out u).mono fun e w' ⟨h1, h2⟩ => ⟨h1, hG u w' hu h2⟩
                        refine QW.out ?_
                        repeat (first
                          | (refine qa_ldW (by rfl) 44 _ rfl ⟨w.heap.size, 0, none⟩ (by rfl) (pkC q) _ Try.underlying44 rfl (by kernel_rfl) (fun u hu => (al.out u hu).all) ?_; try go_simp)
                          | (refine qa_valW (by rfl) ?_; apply Exists.intro; refine ⟨fun u hu => ?_, ?_⟩; ((have e0 := q12.out u hu); go_simp; exact rfl); try go_simp)
                          | (refine qa_callW (by rfl) 23 _ _ ?_ (fun u hu => Z1.out u hu) ?_; (focus (intro u hu; go_simp; first | done | exact rfl)); try go_simp))
                        refine qw_nil ?_
                        intro u hu
                        have HB9 : Hid (Below w.heap.size w u) := HW3.out.2.2.trans (Below.mono hu HW3.out.2.2.size)
                        clear al q12 Z1 hC hG hu
                        go_wp2_with fail
                        rw [hQ.out]
                        go_ret
                        exact ⟨ret_int' (by rw [HT.out, ht5]; unfold kissB; simp [hs0, hl3, hr0]), HB9.out⟩
                      · have hr0' : (q.rid != 0) = true := by simpa using hr0
                        go_wp2_with fail
                        rw [hQ.out]
                        go_ret
                        exact ⟨ret_int' (by rw [HT.out, ht5]; unfold kissB; simp [hs0, hl3, hr0]), HW3.out.2.2⟩
                    · have hl3' : (q.leap == 3) = false := by simpa using hl3
                      go_wp2_with fail
                      refine wp_region_grown (by kernel_rfl) (by kernel_rfl) ?_
                      intro C hC hG
                      have al : Hid (∀ u, C u → Kb u w.heap.size q) := fun u hu => HW3.out.2.1.kept ((hC u hu).block _ HW3.out.2.1.lt)
                      have q12 : Hid (∀ u, C u → u.cell? ⟨p, 12, none⟩ = some (.int .u32 s.own)) := fun u hu => (HW3.out.1.kept ((hC u hu).block _ HW3.out.1.lt)).bk.cell 12
                      have Z1 : Hid (∀ u, C u → Calls Try.prog 23 #[.agg (pkC q).toArray, .int .u32 s.own] u fun e w' => e = .returned (.int .i64 Vh) ∧ C w') := fun u hu => (HHd.out u).mono fun e w' ⟨h1, h2⟩ => ⟨h1, hG u w' hu h2⟩
                      refine QW.out ?_
                      repeat (first
                        | (refine qa_ldW (by rfl) 44 _ rfl ⟨w.heap.size, 0, none⟩ (by rfl) (pkC q) _ Try.underlying44 rfl (by kernel_rfl) (fun u hu => (al.out u hu).all) ?_; try go_simp)
                        | (refine qa_valW (by rfl) ?_; apply Exists.intro; refine ⟨fun u hu => ?_, ?_⟩; ((have e0 := q12.out u hu); go_simp; exact rfl); try go_simp)
                        | (refine qa_callW (by rfl) 23 _ _ ?_ (fun u hu => Z1.out u hu) ?_; (focus (intro u hu; go_simp; first | done | exact rfl)); try go_simp))
                      refine qw_nil ?_
                      intro u hu
                      have HB9 : Hid (Below w.heap.size w u) := HW3.out.2.2.trans (Below.mono hu HW3.out.2.2.size)
                      clear al q12 Z1 hC hG hu
                      go_wp2_with fail
                      rw [hQ.out]
                      go_ret
                      exact ⟨ret_int' (by rw [HT.out, ht5]; unfold kissB; simp [hs0, hl3]), HB9.out⟩
                  · have hs0' : (q.str == 0) = false := by simpa using hs0
                    go_wp2_with fail
                    refine wp_region_grown (by kernel_rfl) (by kernel_rfl) ?_
                    intro C hC hG
                    have al : Hid (∀ u, C u → Kb u w.heap.size q) := fun u hu => HW3.out.2.1.kept ((hC u hu).block _ HW3.out.2.1.lt)
                    have q12 : Hid (∀ u, C u → u.cell? ⟨p, 12, none⟩ = some (.int .u32 s.own)) := fun u hu => (HW3.out.1.kept ((hC u hu).block _ HW3.out.1.lt)).bk.cell 12
                    have Z1 : Hid (∀ u, C u → Calls Try.prog 23 #[.agg (pkC q).toArray, .int .u32 s.own] u fun e w' => e = .returned (.int .i64 Vh) ∧ C w') := fun u hu => (HHd.out u).mono fun e w' ⟨h1, h2⟩ => ⟨h1, hG u w' hu h2⟩
                    refine QW.out ?_
                    repeat (first
                      | (refine qa_ldW (by rfl) 44 _ rfl ⟨w.heap.size, 0, none⟩ (by rfl) (pkC q) _ Try.underlying44 rfl (by kernel_rfl) (fun u hu => (al.out u hu).all) ?_; try go_simp)
                      | (refine qa_valW (by rfl) ?_; apply Exists.intro; refine ⟨fun u hu => ?_, ?_⟩; ((have e0 := q12.out u hu); go_simp; exact rfl); try go_simp)
                      | (refine qa_callW (by rfl) 23 _ _ ?_ (fun u hu => Z1.out u hu) ?_; (focus (intro u hu; go_simp; first | done | exact rfl)); try go_simp))
                    refine qw_nil ?_
                    intro u hu
                    have HB9 : Hid (Below w.heap.size w u) := HW3.out.2.2.trans (Below.mono hu HW3.out.2.2.size)
                    clear al q12 Z1 hC hG hu
                    go_wp2_with fail
                    rw [hQ.out]
                    go_ret
                    exact ⟨ret_int' (by rw [HT.out, ht5]; unfold kissB; simp [hs0]), HB9.out⟩
            · have ho' : (q.org != rq) = true := by simpa using ho
              go_wp2_with fail
              refine wp_region_quietW (by kernel_rfl) (by kernel_rfl) ?_
              repeat (refine qw_step (fun K hK => ?_); go_simp; first | (refine hK _ ?_; clear hK K))
              refine qw_nil ?_
              intro W3 hw'
              obtain ⟨nq, hw''⟩ := hw'
              have HW3 : Hid (Rm W3 p a s rq ∧ Kb W3 w.heap.size q ∧ Below w.heap.size w W3) := by rw [hw'']; exact ⟨HW2.out.1.kept rfl, HW2.out.2.1.kept rfl, below_dr HW2.out.2.2 nq⟩
              clear hw''
              clear p0 p2 p12 p13 p14 p15 p16 k0 k2 k3 k8 k10 k12
              have p0 : W3.cell? ⟨p, 0, none⟩ = some (.int .i64 s.kind) := by rw [HW3.out.1.kd]; exact HW3.out.1.bk.cell 0
              have p2 : W3.cell? ⟨p, 2, none⟩ = some (.int .i64 s.key) := by rw [HW3.out.1.ky]; exact HW3.out.1.bk.cell 2
              have p12 : W3.cell? ⟨p, 12, none⟩ = some (.int .u32 s.own) := HW3.out.1.bk.cell 12
              have p13 : W3.cell? ⟨p, 13, none⟩ = some (.bool true) := by rw [← HAs.out]; exact HW3.out.1.bk.cell 13
              have p14 : W3.cell? ⟨p, 14, none⟩ = some (.int .u64 rq) := HW3.out.1.bk.cell 14
              have p15 : W3.cell? ⟨p, 15, none⟩ = some (.bool s.taken) := HW3.out.1.bk.cell 15
              have p16 : W3.cell? ⟨p, 16, none⟩ = some (.int .u64 s.last) := HW3.out.1.bk.cell 16
              have k0 : W3.cell? ⟨w.heap.size, 0, none⟩ = some (.int .i64 q.leap) := HW3.out.2.1.leap
              have k2 : W3.cell? ⟨w.heap.size, 2, none⟩ = some (.int .i64 q.mode) := HW3.out.2.1.mode
              have k3 : W3.cell? ⟨w.heap.size, 3, none⟩ = some (.int .i64 q.str) := HW3.out.2.1.str
              have k8 : W3.cell? ⟨w.heap.size, 8, none⟩ = some (.int .u32 q.rid) := HW3.out.2.1.rid
              have k10 : W3.cell? ⟨w.heap.size, 10, none⟩ = some (.int .u64 q.org) := HW3.out.2.1.org
              have k12 : W3.cell? ⟨w.heap.size, 12, none⟩ = some (.int .u64 q.xmt) := HW3.out.2.1.xmt
              go_wp2_with fail
              rw [hQ.out]
              go_ret
              exact ⟨ret_int' (by rw [← HVd.out.1, vd4 HV.out.1 (by unfold dupB; rw [ht, if_neg hm]; simpa using hx) hm hr0 (by rw [← hrq]; exact ho)]), HW3.out.2.2⟩
end Go.Proofs.Ytlggademcmkihaa
/- The reference's peer: New, Clear, Request. -/
namespace Go.Proofs.Ytlggademcmkihaa
open Go Go.RowKit Go.Sort
/-- a block that came in, and the call's own -/
structure OW (w W : World) (p : Nat) (cs : List Value) (T : TypeId) (L : List (Nat × List Value × TypeId)) : Prop where
  bk : Bk p W cs.toArray T
  lp : p < w.heap.size
  gr : w.grownBy W (some p)
  bl : ∀ b ∈ L, Bk b.1 W b.2.1.toArray b.2.2 ∧ w.heap.size ≤ b.1
theorem OW.new {w : World} {p : Nat} {cs : List Value} {T : TypeId} (h : Bk p w cs.toArray T) : OW w w p cs T [] := ⟨h, h.lt, ⟨rfl, rfl, rfl, Nat.le_refl _, fun _ _ _ => rfl⟩, fun b hb => by cases hb⟩
theorem OW.step {w W W' : World} {p : Nat} {cs : List Value} {T : TypeId} {L : List (Nat × List Value × TypeId)} (h : OW w W p cs T L) (hb : Below W.heap.size W W') : OW w W' p cs T L :=
  ⟨h.bk.kept (hb.block _ h.bk.lt), h.lp, grownBy_trans h.gr (grownBy_below hb _), fun b hb' => ⟨(h.bl b hb').1.kept (hb.block _ (h.bl b hb').1.lt), (h.bl b hb').2⟩⟩
theorem OW.drewN {w W : World} {p : Nat} {cs : List Value} {T : TypeId} {L : List (Nat × List Value × TypeId)} (h : OW w W p cs T L) (n : Nat) : OW w (W.drewN n) p cs T L := ⟨h.bk, h.lp, grownBy_trans h.gr (grownBy_drewN _ _ _), h.bl⟩
theorem OW.drew {w W : World} {p : Nat} {cs : List Value} {T : TypeId} {L : List (Nat × List Value × TypeId)} (h : OW w W p cs T L) : OW w W.drew p cs T L := ⟨h.bk, h.lp, grownBy_trans h.gr (grownBy_drew _ _), h.bl⟩
theorem OW.push {w W : World} {p : Nat} {cs : List Value} {T : TypeId} {L : List (Nat × List Value × TypeId)} (h : OW w W p cs T L) (c : List Value) (U : TypeId) : OW w (W.alloc (.cells c.toArray U)) p cs T ((W.heap.size, c, U) :: L) := by
  have h2 := h.step ((Below.refl W.heap.size W).alloc (Nat.le_refl _) (.cells c.toArray U))
  refine ⟨h2.bk, h2.lp, h2.gr, fun b hb => ?_⟩
  rcases List.mem_cons.1 hb with rfl | hb
  · exact ⟨Bk.new _ _ _, h.gr.size⟩
  · exact h2.bl b hb
theorem OW.own {w W W' : World} {p : Nat} {cs : List Value} {T : TypeId} {L L' : List (Nat × List Value × TypeId)} (h : OW w W p cs T L) (g : Nat) (c c' : List Value) (U : TypeId) (hm : (g, c, U) ∈ L) (hL : ∀ b ∈ L', (b ∈ L ∧ b.1 ≠ g) ∨ b = (g, c', U)) (hg : W.grownBy W' (some g)) (hb : Bk g W' c'.toArray U) : OW w W' p cs T L' := by
  have hgl := (h.bl _ hm).2
  have l1 := h.lp
  have hk : ∀ k, k < W.heap.size → k ≠ g → W'.heap[k]? = W.heap[k]? := fun k hk hne => hg.block k hk (fun e => hne (Option.some.inj e))
  simp only at hgl
  refine ⟨h.bk.kept (hk _ h.bk.lt (by omega)), h.lp, ⟨hg.os.trans h.gr.os, hg.tape.trans h.gr.tape, hg.output.trans h.gr.output, Nat.le_trans h.gr.size hg.size, fun i hi h1 => (hk i (Nat.lt_of_lt_of_le hi h.gr.size) (by omega)).trans (h.gr.block i hi h1)⟩, fun b hb' => ?_⟩
  rcases hL b hb' with ⟨h1, h2⟩ | rfl
  · exact ⟨(h.bl b h1).1.kept (hk _ (h.bl b h1).1.lt h2), (h.bl b h1).2⟩
  · exact ⟨hb, hgl⟩
theorem OW.peer {w W W' : World} {p : Nat} {cs cs' : List Value} {T : TypeId} {L : List (Nat × List Value × TypeId)} (h : OW w W p cs T L) (hg : W.grownBy W' (some p)) (hb : Bk p W' cs'.toArray T) : OW w W' p cs' T L :=
  ⟨hb, h.lp, grownBy_trans h.gr hg, fun b hb' => ⟨(h.bl b hb').1.kept (hg.block _ (h.bl b hb').1.lt (fun e => by have := (h.bl b hb').2; have := h.lp; injection e with e; omega)), (h.bl b hb').2⟩⟩
theorem OW.setP {w W : World} {p : Nat} {cs : List Value} {T : TypeId} {L : List (Nat × List Value × TypeId)} (h : OW w W p cs T L) (j : Nat) (v : Value) : OW w (W.setCell ⟨p, j, none⟩ v) p (cs.set j v) T L := by
  refine h.peer (grownBy_set _ _ _) ?_
  have := Bk.set h.bk (j := j) v
  simpa using this
theorem OW.setB {w W : World} {p : Nat} {cs : List Value} {T : TypeId} {L L' : List (Nat × List Value × TypeId)} (h : OW w W p cs T L) (g : Nat) (c : List Value) (U : TypeId) (hm : (g, c, U) ∈ L) (j : Nat) (v : Value) (hL : ∀ b ∈ L', (b ∈ L ∧ b.1 ≠ g) ∨ b = (g, c.set j v, U)) : OW w (W.setCell ⟨g, j, none⟩ v) p cs T L' := by
  refine h.own g c (c.set j v) U hm hL (grownBy_set _ _ _) ?_
  have := Bk.set (h.bl _ hm).1 (j := j) v
  simpa using this
theorem OW.sub {w W : World} {p : Nat} {cs : List Value} {T : TypeId} {L L' : List (Nat × List Value × TypeId)} (h : OW w W p cs T L) (hL : ∀ b ∈ L', b ∈ L) : OW w W p cs T L' := ⟨h.bk, h.lp, h.gr, fun b hb => h.bl b (hL b hb)⟩
theorem OW.at {w W : World} {p : Nat} {cs : List Value} {T : TypeId} {L : List (Nat × List Value × TypeId)} (h : OW w W p cs T L) (g : Nat) (c : List Value) (U : TypeId) (hm : (g, c, U) ∈ L) : ∀ j u, c[j]? = some u → W.cell? ((⟨g, 0, none⟩ : Addr).add j) = some u := cells_of (h.bl _ hm).1
theorem OW.cell {w W : World} {p : Nat} {cs : List Value} {T : TypeId} {L : List (Nat × List Value × TypeId)} (h : OW w W p cs T L) (g : Nat) (c : List Value) (U : TypeId) (hm : (g, c, U) ∈ L) (j : Nat) : W.cell? ⟨g, j, none⟩ = c[j]? := by
  have := (h.bl _ hm).1.cell j
  simpa using this
theorem OW.pc {w W : World} {p : Nat} {cs : List Value} {T : TypeId} {L : List (Nat × List Value × TypeId)} (h : OW w W p cs T L) (j : Nat) : W.cell? ⟨p, j, none⟩ = cs[j]? := by
  have := h.bk.cell j
  simpa using this
theorem OW.fz {w W : World} {p : Nat} {cs : List Value} {T : TypeId} {L : List (Nat × List Value × TypeId)} (h : OW w W p cs T L) (g : Nat) (c : List Value) (U : TypeId) (hm : (g, c, U) ∈ L) (j : Nat) : W.frozen? ⟨g, j, none⟩ = false := (h.bl _ hm).1.frozen j
set_option maxRecDepth 20000 in
set_option maxHeartbeats 1000000 in
theorem rnew_any (a : As) (own : Int) (w : World) : Calls Try.prog 12 #[.agg (asL a).toArray, .int .u32 own] w fun e w' => ∃ p, e = .returned (.pointer (some ⟨p, 0, none⟩)) ∧ Rm w' p a (ps0 a.kind a.key own) 0 ∧ w.heap.size ≤ p ∧ Below w.heap.size w w' := by
  go_enter Try.func12, Try.ntmps12
  refine post_hid fun Q hQ => ?_
  refine seq_hid fun R hR => ?_
  unfold asL
  go_wp2
  refine world_hid fun W hW => ?_
  have hK : Bk w.heap.size W (asL a).toArray 31 := by rw [hW.out]; exact Bk.new _ _ _
  have c0 : W.cell? ⟨w.heap.size, 0, none⟩ = some (.int .i64 a.kind) := hK.cell 0
  have c1 : W.cell? ⟨w.heap.size, 1, none⟩ = some (.int .u32 a.addr) := hK.cell 1
  have c2 : W.cell? ⟨w.heap.size, 2, none⟩ = some (.int .i64 a.key) := hK.cell 2
  have c3 : W.cell? ⟨w.heap.size, 3, none⟩ = some (.int .i64 a.minp) := hK.cell 3
  have c4 : W.cell? ⟨w.heap.size, 4, none⟩ = some (.int .i64 a.maxp) := hK.cell 4
  have c5 : W.cell? ⟨w.heap.size, 5, none⟩ = some (.bool a.burst) := hK.cell 5
  have c6 : W.cell? ⟨w.heap.size, 6, none⟩ = some (.bool a.ib) := hK.cell 6
  have c7 : W.cell? ⟨w.heap.size, 7, none⟩ = some (.bool a.pref) := hK.cell 7
  have c8 : W.cell? ⟨w.heap.size, 8, none⟩ = some (.int .i64 a.ttl) := hK.cell 8
  have c9 : W.cell? ⟨w.heap.size, 9, none⟩ = some (.bool a.pulse) := hK.cell 9
  have c10 : W.cell? ⟨w.heap.size, 10, none⟩ = some (.int .i64 a.fudge) := hK.cell 10
  have c11 : W.cell? ⟨w.heap.size, 11, none⟩ = some (.int .i64 a.str) := hK.cell 11
  have HB : Hid (Below w.heap.size w W ∧ w.heap.size < W.heap.size) := ⟨by rw [hW.out]; exact (Below.refl _ _).alloc (Nat.le_refl _) _, hK.lt⟩
  clear hW hK
  rw [hR.out]
  clear hR
  go_wp2
  rw [hQ.out]
  go_ret
  exact ⟨_, rfl, ⟨Bk.new W _ _, rfl, rfl, fun h => absurd rfl h⟩, Nat.le_of_lt HB.out.2, HB.out.1.trans (((Below.refl _ _).alloc (Nat.le_refl _) _).mono HB.out.1.size)⟩
theorem rmC_one (a : As) (s : Ps) (rq : Int) : (rmC a s rq).toArray.all (·.oneCell') = true := by kernel_rfl
set_option maxRecDepth 20000 in
set_option maxHeartbeats 1000000 in
theorem rclear_any (p : Nat) (a : As) (s : Ps) (rq : Int) (w : World) (h : Rm w p a s rq) : Calls Try.prog 17 #[.pointer (some ⟨p, 0, none⟩)] w fun e w' => e = .returned (.tuple #[]) ∧ Rm w' p a (clr s) 0 ∧ w.grownBy w' (some p) := by
  have HP : Hid (Rm w p a s rq) := h
  clear h
  go_enter Try.func17, Try.ntmps17
  refine post_hid fun Q hQ => ?_
  have c0 : w.cell? ⟨p, 0, none⟩ = some (.int .i64 a.kind) := HP.out.bk.cell 0
  have c1 : w.cell? ⟨p, 1, none⟩ = some (.int .u32 a.addr) := HP.out.bk.cell 1
  have c2 : w.cell? ⟨p, 2, none⟩ = some (.int .i64 a.key) := HP.out.bk.cell 2
  have c3 : w.cell? ⟨p, 3, none⟩ = some (.int .i64 a.minp) := HP.out.bk.cell 3
  have c4 : w.cell? ⟨p, 4, none⟩ = some (.int .i64 a.maxp) := HP.out.bk.cell 4
  have c5 : w.cell? ⟨p, 5, none⟩ = some (.bool a.burst) := HP.out.bk.cell 5
  have c6 : w.cell? ⟨p, 6, none⟩ = some (.bool a.ib) := HP.out.bk.cell 6
  have c7 : w.cell? ⟨p, 7, none⟩ = some (.bool a.pref) := HP.out.bk.cell 7
  have c8 : w.cell? ⟨p, 8, none⟩ = some (.int .i64 a.ttl) := HP.out.bk.cell 8
  have c9 : w.cell? ⟨p, 9, none⟩ = some (.bool a.pulse) := HP.out.bk.cell 9
  have c10 : w.cell? ⟨p, 10, none⟩ = some (.int .i64 a.fudge) := HP.out.bk.cell 10
  have c11 : w.cell? ⟨p, 11, none⟩ = some (.int .i64 a.str) := HP.out.bk.cell 11
  have c12 : w.cell? ⟨p, 12, none⟩ = some (.int .u32 s.own) := HP.out.bk.cell 12
  have c15 : w.cell? ⟨p, 15, none⟩ = some (.bool s.taken) := HP.out.bk.cell 15
  have c16 : w.cell? ⟨p, 16, none⟩ = some (.int .u64 s.last) := HP.out.bk.cell 16
  go_wp2_with fail
  refine wp_region_lastW (by kernel_rfl) (by kernel_rfl) (by rfl) (by kernel_rfl) ?_
  simp only [idleLast, idle]
  repeat (refine qw_step (fun K hK => ?_); go_simp; (refine hK _ ?_; clear hK K))
  refine qw_nil ?_
  intro _ hw'
  obtain ⟨nq, hw''⟩ := hw'
  subst hw''
  refine wpOp_st (g := p) (T := 63) _ (by rfl) rfl _ _ rfl (rmC a (clr s) 0).toArray (by rfl) (by rfl) (rmC a s rq).toArray HP.out.bk (by kernel_rfl) (by rfl) (rmC_one _ _ _) ?_
  go_wp2_with fail
  rw [hQ.out]
  go_end0
  exact ⟨rfl, ⟨(show Bk p (w.drewN nq) (rmC a s rq).toArray 63 from HP.out.bk).row _, HP.out.kd, HP.out.ky, fun h => absurd rfl h⟩, grownBy_trans (grownBy_drewN w nq _) (grownBy_row _ _ _)⟩
def rrqT (f : Go.Func) : Code := match f.body with | some c => dropSeq 6 c | none => .skip
def rrqM (f : Go.Func) : Code := match f.body with | some c => dropSeq 4 c | none => .skip
set_option maxRecDepth 20000 in
set_option maxHeartbeats 1000000 in
theorem rrq_tail5 (p : Nat) (a : As) (s : Ps) (rq : Int) (q : Pk) (X : Int) (w W : World) (g : Nat) (ho : q.org = 0 ∧ q.rc = 0) (hg : w.heap.size + 1 < g) (hs : okS s) (hr : Rm W p a s rq) (h : OW w W p (rmC a s rq) 63 [(g, pkC q, 44), (w.heap.size + 1, pkC pk0, 44)]) (v1 v2 v4 v5 v6 v7 v9 v12 v13 v14 v15 v16 v17 v18 v19 v20 v21 v22 v23 v24 v25 v26 v27 v28 v29 v30 v31 v32 v33 v34 v35 v36 v37 v38 v39 v40 v41 v42 v43 v44 v45 v46 v47 v48 v49 v50 v51 v52 v53 v54 v55 v56 v57 v58 v59 v60 v61 v62 v63 v64 v65 v66 v67 v68 v69 v70 v71 v72 v73 v74 v75 v76 v77 v78 v79 v80 v81 v82 v83 v84 : Value) :
    Code.wp Try.prog (rrqT Try.f14) (bodyPost Try.prog Try.f14 fun e w' => e = .returned (.tuple #[.agg (pkC q).toArray, .bool true]) ∧ (∃ rq', Rm w' p a s rq') ∧ w.grownBy w' (some p)) { tmps := #[.pointer (some ⟨p, 0, none⟩), v1, v2, .int .u64 X, v4, v5, v6, v7, .pointer (some ⟨w.heap.size + 1, 0, none⟩), v9, .int .i64 5, .pointer (some ⟨g, 0, none⟩), v12, v13, v14, v15, v16, v17, v18, v19, v20, v21, v22, v23, v24, v25, v26, v27, v28, v29, v30, v31, v32, v33, v34, v35, v36, v37, v38, v39, v40, v41, v42, v43, v44, v45, v46, v47, v48, v49, v50, v51, v52, v53, v54, v55, v56, v57, v58, v59, v60, v61, v62, v63, v64, v65, v66, v67, v68, v69, v70, v71, v72, v73, v74, v75, v76, v77, v78, v79, v80, v81, v82, v83, v84], defers := [] } W := by
  have HO : Hid (okS s ∧ Rm W p a s rq ∧ w.heap.size + 1 < g ∧ q.org = 0 ∧ q.rc = 0) := ⟨hs, hr, hg, ho⟩
  have HW : Hid (OW w W p (rmC a s rq) 63 [(g, pkC q, 44), (w.heap.size + 1, pkC pk0, 44)]) := h
  clear hs hr hg ho h
  unfold rrqT Try.f14
  simp only [dropSeq]
  refine post_hid fun Q hQ => ?_
  go_wp2_with (first
    | (refine step_ldat 44 _ rfl rfl ⟨g, 0, none⟩ (by rfl) (pkC q) _ Try.underlying44 rfl (by kernel_rfl) (HW.out.at g (pkC q) 44 (by simp)) ?_)
    | (refine step_stR (by rfl) _ _ rfl (w.heap.size + 1) (pkC q).toArray (by rfl) (by rfl) pkZ (by kernel_rfl) (by kernel_rfl) (pkC_one _) (HW.out.bl (w.heap.size + 1, pkC pk0, 44) (by simp)).1 ?_))
  rw [hQ.out]
  have hz := HW.out.own (L' := []) (w.heap.size + 1) (pkC pk0) (pkC q) 44 (by simp) (fun b hb => by cases hb) (grownBy_row _ _ _) ((HW.out.bl (w.heap.size + 1, pkC pk0, 44) (by simp)).1.row _)
  exact bodyPost_ret (v := .tuple #[.agg (pkC q).toArray, .bool true]) (results_ct Try.results14 _ _ (w.heap.size + 1) _ _ _ _ (by rfl) (by rfl) (setRow_heap _ _ _ _ _ _ (HW.out.bl (w.heap.size + 1, pkC pk0, 44) (by simp)).1) Try.underlying44 rfl (by kernel_rfl)) rfl ⟨rfl, ⟨_, ⟨hz.bk, HO.out.2.1.kd, HO.out.2.1.ky, HO.out.2.1.rq⟩⟩, hz.gr⟩
set_option maxRecDepth 20000 in
set_option maxHeartbeats 1000000 in
theorem rrq_tail (p : Nat) (a : As) (s : Ps) (rq : Int) (q : Pk) (X K : Int) (w W : World) (g : Nat) (hK5 : ¬ K = 5) (hX : X ≠ 0) (ho : q.org = 0 ∧ q.rc = 0) (hg : w.heap.size + 1 < g) (hs : okS s) (hr : Rm W p a s rq) (h : OW w W p (rmC a s rq) 63 [(g, pkC q, 44), (w.heap.size + 1, pkC pk0, 44)]) (v1 v2 v4 v5 v6 v7 v9 v12 v13 v14 v15 v16 v17 v18 v19 v20 v21 v22 v23 v24 v25 v26 v27 v28 v29 v30 v31 v32 v33 v34 v35 v36 v37 v38 v39 v40 v41 v42 v43 v44 v45 v46 v47 v48 v49 v50 v51 v52 v53 v54 v55 v56 v57 v58 v59 v60 v61 v62 v63 v64 v65 v66 v67 v68 v69 v70 v71 v72 v73 v74 v75 v76 v77 v78 v79 v80 v81 v82 v83 v84 : Value) :
    Code.wp Try.prog (rrqT Try.f14) (bodyPost Try.prog Try.f14 fun e w' => e = .returned (.tuple #[.agg (pkC { q with org := s.ex, rc := s.ea }).toArray, .bool true]) ∧ (∃ rq', Rm w' p a { s with req := X } rq') ∧ w.grownBy w' (some p)) { tmps := #[.pointer (some ⟨p, 0, none⟩), v1, v2, .int .u64 X, v4, v5, v6, v7, .pointer (some ⟨w.heap.size + 1, 0, none⟩), v9, .int .i64 K, .pointer (some ⟨g, 0, none⟩), v12, v13, v14, v15, v16, v17, v18, v19, v20, v21, v22, v23, v24, v25, v26, v27, v28, v29, v30, v31, v32, v33, v34, v35, v36, v37, v38, v39, v40, v41, v42, v43, v44, v45, v46, v47, v48, v49, v50, v51, v52, v53, v54, v55, v56, v57, v58, v59, v60, v61, v62, v63, v64, v65, v66, v67, v68, v69, v70, v71, v72, v73, v74, v75, v76, v77, v78, v79, v80, v81, v82, v83, v84], defers := [] } W := by
  have HO : Hid (okS s ∧ Rm W p a s rq ∧ w.heap.size + 1 < g ∧ q.org = 0 ∧ q.rc = 0) := ⟨hs, hr, hg, ho⟩
  have HW : Hid (OW w W p (rmC a s rq) 63 [(g, pkC q, 44), (w.heap.size + 1, pkC pk0, 44)]) := h
  clear hs hr hg ho h
  unfold rrqT Try.f14
  simp only [dropSeq]
  refine post_hid fun Q hQ => ?_
  have n5 : (K != 5) = true := by simpa using hK5
  have p17 : W.cell? ⟨p, 17, none⟩ = some (.bool s.heard) := HW.out.pc 17
  have p18 : W.cell? ⟨p, 18, none⟩ = some (.int .u64 s.ex) := HW.out.pc 18
  have p19 : W.cell? ⟨p, 19, none⟩ = some (.int .u64 s.ea) := HW.out.pc 19
  have hXd : (X != 0) = true := by simpa using hX
  rcases hh : s.heard with _ | _
  · rw [hh] at p17
    have hq0 : ({ q with org := s.ex, rc := s.ea } : Pk) = q := by
      have h1 := HO.out.1.echo hh
      have h2 := HO.out.2.2.2
      rw [h1.1, h1.2]
      cases q
      simp only at h2
      simp [h2.1, h2.2]
    have HQ0 : Hid (({ q with org := s.ex, rc := s.ea } : Pk) = q) := hq0
    clear hq0
    obtain ⟨W8, hW8⟩ : ∃ W8, W = W8 := ⟨_, rfl⟩
    rw [hW8] at HW p17 ⊢
    clear p18 p19 hW8
    have pf : ∀ j, W8.frozen? ⟨p, j, none⟩ = false := HW.out.bk.frozen
    have p13 : W8.cell? ⟨p, 13, none⟩ = some (.bool (decide (s.req ≠ 0))) := HW.out.pc 13
    have p14 : W8.cell? ⟨p, 14, none⟩ = some (.int .u64 rq) := HW.out.pc 14
    refine seq_hid fun R hR => ?_
    go_wp2_with fail
    rw [hR.out]
    clear hR
    have HW : Hid (OW w ((W8.setCell ⟨p, 13, none⟩ (.bool true)).setCell ⟨p, 14, none⟩ (.int .u64 X)) p (rmC a { s with req := X } X) 63 [(g, pkC q, 44), (w.heap.size + 1, pkC pk0, 44)]) := by
      have h := (HW.out.setP 13 (.bool true)).setP 14 (.int .u64 X)
      have e : ((rmC a s rq).set 13 (.bool true)).set 14 (.int .u64 X) = rmC a { s with req := X } X := by simp [rmC, asL, hX]
      rw [e] at h
      exact h
    generalize (W8.setCell ⟨p, 13, none⟩ (.bool true)).setCell ⟨p, 14, none⟩ (.int .u64 X) = W9 at HW ⊢
    clear pf p13 p14
    go_wp2_with (first
      | (refine step_ldat 44 _ rfl rfl ⟨g, 0, none⟩ (by rfl) (pkC q) _ Try.underlying44 rfl (by kernel_rfl) (HW.out.at g (pkC q) 44 (by simp)) ?_)
      | (refine step_stR (by rfl) _ _ rfl (w.heap.size + 1) (pkC q).toArray (by rfl) (by rfl) pkZ (by kernel_rfl) (by kernel_rfl) (pkC_one _) (HW.out.bl (w.heap.size + 1, pkC pk0, 44) (by simp)).1 ?_))
    rw [hQ.out]
    have hz := HW.out.own (L' := []) (w.heap.size + 1) (pkC pk0) (pkC q) 44 (by simp) (fun b hb => by cases hb) (grownBy_row _ _ _) ((HW.out.bl (w.heap.size + 1, pkC pk0, 44) (by simp)).1.row _)
    exact bodyPost_ret (v := .tuple #[.agg (pkC q).toArray, .bool true]) (results_ct Try.results14 _ _ (w.heap.size + 1) _ _ _ _ (by rfl) (by rfl) (setRow_heap _ _ _ _ _ _ (HW.out.bl (w.heap.size + 1, pkC pk0, 44) (by simp)).1) Try.underlying44 rfl (by kernel_rfl)) rfl ⟨(by rw [HQ0.out]), ⟨_, ⟨hz.bk, HO.out.2.1.kd, HO.out.2.1.ky, fun _ => rfl⟩⟩, hz.gr⟩
  · rw [hh] at p17
    have k3 : W.cell? ⟨g, 10, none⟩ = some (.int .u64 q.org) := HW.out.cell g (pkC q) 44 (by simp) 10
    have k4 : W.cell? ⟨g, 11, none⟩ = some (.int .u64 q.rc) := HW.out.cell g (pkC q) 44 (by simp) 11
    have kf : ∀ j, W.frozen? ⟨g, j, none⟩ = false := HW.out.fz g (pkC q) 44 (by simp)
    refine seq_hid fun R hR => ?_
    go_wp2
    go_region
    have HW : Hid (OW w ((W.setCell ⟨g, 10, none⟩ (.int .u64 s.ex)).setCell ⟨g, 11, none⟩ (.int .u64 s.ea)).drew p (rmC a s rq) 63 [(g, pkC { q with org := s.ex, rc := s.ea }, 44), (w.heap.size + 1, pkC pk0, 44)]) := by
      have hng : w.heap.size + 1 ≠ g := by have := HO.out.2.2.1; omega
      have h1 := HW.out.setB (L' := [(g, pkC { q with org := s.ex }, 44), (w.heap.size + 1, pkC pk0, 44)]) g (pkC q) 44 (by simp) 10 (.int .u64 s.ex) (fun b hb => by
        simp only [List.mem_cons, List.not_mem_nil, or_false] at hb
        rcases hb with rfl | rfl
        · exact .inr rfl
        · exact .inl ⟨by simp, hng⟩)
      have h2 := h1.setB (L' := [(g, pkC { q with org := s.ex, rc := s.ea }, 44), (w.heap.size + 1, pkC pk0, 44)]) g (pkC { q with org := s.ex }) 44 (by simp) 11 (.int .u64 s.ea) (fun b hb => by
        simp only [List.mem_cons, List.not_mem_nil, or_false] at hb
        rcases hb with rfl | rfl
        · exact .inr rfl
        · exact .inl ⟨by simp, hng⟩)
      exact h2.drew
    generalize ((W.setCell ⟨g, 10, none⟩ (.int .u64 s.ex)).setCell ⟨g, 11, none⟩ (.int .u64 s.ea)).drew = W8 at HW ⊢
    clear p17 p18 p19 k3 k4 kf
    have pf : ∀ j, W8.frozen? ⟨p, j, none⟩ = false := HW.out.bk.frozen
    have p13 : W8.cell? ⟨p, 13, none⟩ = some (.bool (decide (s.req ≠ 0))) := HW.out.pc 13
    have p14 : W8.cell? ⟨p, 14, none⟩ = some (.int .u64 rq) := HW.out.pc 14
    go_wp2_with fail
    rw [hR.out]
    clear hR
    have HW : Hid (OW w ((W8.setCell ⟨p, 13, none⟩ (.bool true)).setCell ⟨p, 14, none⟩ (.int .u64 X)) p (rmC a { s with req := X } X) 63 [(g, pkC { q with org := s.ex, rc := s.ea }, 44), (w.heap.size + 1, pkC pk0, 44)]) := by
      have h := (HW.out.setP 13 (.bool true)).setP 14 (.int .u64 X)
      have e : ((rmC a s rq).set 13 (.bool true)).set 14 (.int .u64 X) = rmC a { s with req := X } X := by simp [rmC, asL, hX]
      rw [e] at h
      exact h
    generalize (W8.setCell ⟨p, 13, none⟩ (.bool true)).setCell ⟨p, 14, none⟩ (.int .u64 X) = W9 at HW ⊢
    clear pf p13 p14
    go_wp2_with (first
      | (refine step_ldat 44 _ rfl rfl ⟨g, 0, none⟩ (by rfl) (pkC { q with org := s.ex, rc := s.ea }) _ Try.underlying44 rfl (by kernel_rfl) (HW.out.at g (pkC { q with org := s.ex, rc := s.ea }) 44 (by simp)) ?_)
      | (refine step_stR (by rfl) _ _ rfl (w.heap.size + 1) (pkC { q with org := s.ex, rc := s.ea }).toArray (by rfl) (by rfl) pkZ (by kernel_rfl) (by kernel_rfl) (pkC_one _) (HW.out.bl (w.heap.size + 1, pkC pk0, 44) (by simp)).1 ?_))
    rw [hQ.out]
    have hz := HW.out.own (L' := []) (w.heap.size + 1) (pkC pk0) (pkC { q with org := s.ex, rc := s.ea }) 44 (by simp) (fun b hb => by cases hb) (grownBy_row _ _ _) ((HW.out.bl (w.heap.size + 1, pkC pk0, 44) (by simp)).1.row _)
    exact bodyPost_ret (v := .tuple #[.agg (pkC { q with org := s.ex, rc := s.ea }).toArray, .bool true]) (results_ct Try.results14 _ _ (w.heap.size + 1) _ _ _ _ (by rfl) (by rfl) (setRow_heap _ _ _ _ _ _ (HW.out.bl (w.heap.size + 1, pkC pk0, 44) (by simp)).1) Try.underlying44 rfl (by kernel_rfl)) rfl ⟨rfl, ⟨_, ⟨hz.bk, HO.out.2.1.kd, HO.out.2.1.ky, fun _ => rfl⟩⟩, hz.gr⟩
set_option maxRecDepth 20000 in
set_option maxHeartbeats 1000000 in
theorem rrq_mid (p : Nat) (a : As) (s : Ps) (rq : Int) (y : Sy) (poll X K : Int) (w w5 : World) (Qr : Pk) (Sr : Ps) (hQr : Qr = (⟨y.leap, 4, K, (if scB y.str = true then y.str else 0), min (max poll (-128)) 127, -20, ow y.del, ow y.dis, y.rid, y.ref, (if K = 5 then 0 else s.ex), (if K = 5 then 0 else s.ea), X, none, 0, 0, 0, false, none, 0, 0⟩ : Pk)) (hSr : Sr = if K = 5 then s else { s with req := X }) (hX : X ≠ 0) (hs : okS s) (hr : Rm w p a s rq) (h : OW w w5 p (rmC a s rq) 63 [(w.heap.size + 1, pkC pk0, 44), (w.heap.size, syL y, 40)]) (v1 v4 v6 v7 v9 v11 v12 v13 v14 v15 v16 v17 v18 v19 v20 v21 v22 v23 v24 v25 v26 v27 v28 v29 v30 v31 v32 v33 v34 v35 v36 v37 v38 v39 v40 v41 v42 v43 v44 v45 v46 v47 v48 v49 v50 v51 v52 v53 v54 v55 v56 v57 v58 v59 v60 v61 v62 v63 v64 v65 v66 v67 v68 v69 v70 v71 v72 v73 v74 v75 v76 v77 v78 v79 v80 v81 v82 v83 v84 : Value) :
    Code.wp Try.prog (rrqM Try.f14) (bodyPost Try.prog Try.f14 fun e w' => e = .returned (.tuple #[.agg (pkC Qr).toArray, .bool true]) ∧ (∃ rq', Rm w' p a Sr rq') ∧ w.grownBy w' (some p)) { tmps := #[.pointer (some ⟨p, 0, none⟩), v1, .int .i64 poll, .int .u64 X, v4, .pointer (some ⟨w.heap.size, 0, none⟩), v6, v7, .pointer (some ⟨w.heap.size + 1, 0, none⟩), v9, .int .i64 K, v11, v12, v13, v14, v15, v16, v17, v18, v19, v20, v21, v22, v23, v24, v25, v26, v27, v28, v29, v30, v31, v32, v33, v34, v35, v36, v37, v38, v39, v40, v41, v42, v43, v44, v45, v46, v47, v48, v49, v50, v51, v52, v53, v54, v55, v56, v57, v58, v59, v60, v61, v62, v63, v64, v65, v66, v67, v68, v69, v70, v71, v72, v73, v74, v75, v76, v77, v78, v79, v80, v81, v82, v83, v84], defers := [] } w5 := by
  subst hQr hSr
  have HO : Hid (okS s ∧ Rm w p a s rq ∧ X ≠ 0) := ⟨hs, hr, hX⟩
  have HA : Hid (OW w w5 p (rmC a s rq) 63 [(w.heap.size + 1, pkC pk0, 44), (w.heap.size, syL y, 40)]) := h
  clear hs hr h hX
  obtain ⟨σ, hσ⟩ : ∃ σ, (if scB y.str = true then y.str else 0) = σ := ⟨_, rfl⟩
  rw [hσ]
  have HSg : Hid ((if scB y.str = true then y.str else 0) = σ) := hσ
  clear hσ
  unfold rrqM Try.f14
  simp only [dropSeq]
  refine post_hid fun Q hQ => ?_
  have k0 : w5.cell? ⟨w.heap.size, 0, none⟩ = some (.int .i64 y.leap) := HA.out.cell w.heap.size (syL y) 40 (by simp) 0
  have k1 : w5.cell? ⟨w.heap.size, 1, none⟩ = some (.int .i64 y.str) := HA.out.cell w.heap.size (syL y) 40 (by simp) 1
  have k2 : w5.cell? ⟨w.heap.size, 3, none⟩ = some (.int .i64 y.del) := HA.out.cell w.heap.size (syL y) 40 (by simp) 3
  have k3 : w5.cell? ⟨w.heap.size, 4, none⟩ = some (.int .i64 y.dis) := HA.out.cell w.heap.size (syL y) 40 (by simp) 4
  have k4 : w5.cell? ⟨w.heap.size, 5, none⟩ = some (.int .u32 y.rid) := HA.out.cell w.heap.size (syL y) 40 (by simp) 5
  have k5 : w5.cell? ⟨w.heap.size, 6, none⟩ = some (.int .u64 y.ref) := HA.out.cell w.heap.size (syL y) 40 (by simp) 6
  have m1 := run_mxI
  have m2 := run_mnI
  have hmm : max (-128) (min poll 127) = min (max poll (-128)) 127 := by omega
  refine seq_hid fun R hR => ?_
  go_wp2_with fail
  refine wp_region_alloc 20 _ _ (.cells pkZ 44) (by rfl) rfl (by decide) (by rfl) (by intro a u; go_simp; rfl) (by kernel_rfl) (by kernel_rfl) (by kernel_rfl) ?_
  intro C hC hD
  simp only [idleLast, idle, List.set]
  have hlt : w.heap.size < w5.heap.size := (HA.out.bl (w.heap.size, syL y, 40) (by simp)).1.lt
  have al : ∀ (j : Nat) (v : Value), w5.cell? ⟨w.heap.size, j, none⟩ = some v → Hid (∀ u, C u → u.cell? ⟨w.heap.size, j, none⟩ = some v) := fun j v h u hu => by
    rcases hC u hu with ⟨n, rfl⟩ | ⟨n, rfl⟩
    · exact h
    · exact (((Below.refl w5.heap.size w5).alloc (Nat.le_refl _) _).cell (p := ⟨w.heap.size, j, none⟩) hlt).trans h
  have a0 := al _ _ k0
  have a1 := al _ _ k1
  have a2 := al _ _ k2
  have a3 := al _ _ k3
  have a4 := al _ _ k4
  have a5 := al _ _ k5
  clear al hlt
  have co : Hid (∀ d u, C u → Calls Try.prog 36 #[.int .i64 d] u fun e w' => e = .returned (.int .i64 (ow d)) ∧ C w') := fun d u hu => (rclip_any d u).mono fun e w' ⟨h1, h2⟩ => ⟨h1, h2 ▸ hu⟩
  refine QW.out ?_
  repeat (first
    | (refine qa_valW (by rfl) ?_; apply Exists.intro; refine ⟨fun u hu => ?_, ?_⟩; ((have e0 := a0.out u hu; have e1 := a1.out u hu; have e2 := a2.out u hu; have e3 := a3.out u hu; have e4 := a4.out u hu; have e5 := a5.out u hu); go_simp; exact rfl); try go_simp)
    | (refine qa_callW (by rfl) 36 _ _ (fun u hu => by go_simp; exact rfl) (fun u hu => co.out _ u hu) ?_; try go_simp))
  refine qw_nil ?_
  intro nq
  refine wpOp_st (g := w5.heap.size) (T := 44) _ (by rfl) rfl _ _ rfl (pkC (⟨y.leap, 4, K, y.str, min (max poll (-128)) 127, -20, ow y.del, ow y.dis, y.rid, y.ref, 0, 0, X, none, 0, 0, 0, false, none, 0, 0⟩ : Pk)).toArray (by rfl) (by first | rfl | (simp only [hmm]; rfl) | (rw [← hmm]; rfl)) pkZ (alloc_at w5 _) (by kernel_rfl) (by rfl) (pkC_one _) ?_
  obtain ⟨W6, hW6⟩ : ∃ W6, ((w5.alloc (.cells pkZ 44)).drewN nq).setRow w5.heap.size (pkC (⟨y.leap, 4, K, y.str, min (max poll (-128)) 127, -20, ow y.del, ow y.dis, y.rid, y.ref, 0, 0, X, none, 0, 0, 0, false, none, 0, 0⟩ : Pk)).toArray = W6 := ⟨_, rfl⟩
  have HF : Hid (OW w W6 p (rmC a s rq) 63 [(w5.heap.size, pkC (⟨y.leap, 4, K, y.str, min (max poll (-128)) 127, -20, ow y.del, ow y.dis, y.rid, y.ref, 0, 0, X, none, 0, 0, 0, false, none, 0, 0⟩ : Pk), 44), (w.heap.size + 1, pkC pk0, 44), (w.heap.size, syL y, 40)]) := by
    have h2 := (HA.out.push (pkC pk0) 44).drewN nq
    have l1 := (HA.out.bl (w.heap.size, syL y, 40) (by simp)).1.lt
    have l2 := (HA.out.bl (w.heap.size + 1, pkC pk0, 44) (by simp)).1.lt
    simp only at l1 l2
    show OW _ _ _ _ _ _
    rw [← hW6]
    refine h2.own w5.heap.size (pkC pk0) (pkC (⟨y.leap, 4, K, y.str, min (max poll (-128)) 127, -20, ow y.del, ow y.dis, y.rid, y.ref, 0, 0, X, none, 0, 0, 0, false, none, 0, 0⟩ : Pk)) 44 (by simp) (fun b hb => ?_) (grownBy_row _ _ _) (setRow_heap _ _ _ _ _ _ (alloc_at w5 _))
    simp only [List.mem_cons, List.not_mem_nil, or_false] at hb
    rcases hb with rfl | rfl | rfl
    · exact .inr rfl
    · exact .inl ⟨by simp, by show _ ≠ _; omega⟩
    · exact .inl ⟨by simp, by show _ ≠ _; omega⟩
  rw [hW6]
  have HG : Hid (w.heap.size + 1 < w5.heap.size) := by have := (HA.out.bl (w.heap.size + 1, pkC pk0, 44) (by simp)).1.lt; exact this
  clear hW6
  generalize w5.heap.size = g at HF HG ⊢
  clear a0 a1 a2 a3 a4 a5 co hC hD k0 k1 k2 k3 k4 k5 m1 m2
  have k1 : W6.cell? ⟨w.heap.size, 1, none⟩ = some (.int .i64 y.str) := HF.out.cell w.heap.size (syL y) 40 (by simp) 1
  have k3 : W6.cell? ⟨g, 3, none⟩ = some (.int .i64 y.str) := HF.out.cell g (pkC (⟨y.leap, 4, K, y.str, min (max poll (-128)) 127, -20, ow y.del, ow y.dis, y.rid, y.ref, 0, 0, X, none, 0, 0, 0, false, none, 0, 0⟩ : Pk)) 44 (by simp) 3
  have kf : ∀ j, W6.frozen? ⟨g, j, none⟩ = false := HF.out.fz g (pkC (⟨y.leap, 4, K, y.str, min (max poll (-128)) 127, -20, ow y.del, ow y.dis, y.rid, y.ref, 0, 0, X, none, 0, 0, 0, false, none, 0, 0⟩ : Pk)) 44 (by simp)
  go_wp2_with fail
  rw [hR.out]
  clear hR
  by_cases hK : K = 5
  · by_cases hl1 : y.str < 1
    · have hl1' : decide (y.str < 1) = true := decide_eq_true hl1
      refine seq_hid fun R hR => ?_
      go_wp2_with fail
      have eR : R = (rrqT Try.f14) := by rw [hR.out]; unfold rrqT Try.f14; simp only [dropSeq]
      rw [eR]
      clear hR eR
      have hsg : σ = 0 := by rw [← HSg.out, if_neg]; unfold scB; simp; omega
      have hw := HF.out.setB (L' := [(g, pkC (⟨y.leap, 4, K, 0, min (max poll (-128)) 127, -20, ow y.del, ow y.dis, y.rid, y.ref, 0, 0, X, none, 0, 0, 0, false, none, 0, 0⟩ : Pk), 44), (w.heap.size + 1, pkC pk0, 44)]) g (pkC (⟨y.leap, 4, K, y.str, min (max poll (-128)) 127, -20, ow y.del, ow y.dis, y.rid, y.ref, 0, 0, X, none, 0, 0, 0, false, none, 0, 0⟩ : Pk)) 44 (by simp) 3 (.int .i64 0) (fun b hb => by
        simp only [List.mem_cons, List.not_mem_nil, or_false] at hb
        rcases hb with rfl | rfl
        · exact .inr rfl
        · exact .inl ⟨by simp, by have := HG.out; show _ ≠ _; omega⟩)
      rw [hsg] at hQ
      rw [hQ.out]
      subst hK
      exact rrq_tail5 p a s rq (⟨y.leap, 4, 5, 0, min (max poll (-128)) 127, -20, ow y.del, ow y.dis, y.rid, y.ref, 0, 0, X, none, 0, 0, 0, false, none, 0, 0⟩ : Pk) X w _ g ⟨rfl, rfl⟩ HG.out HO.out.1 ⟨hw.bk, HO.out.2.1.kd, HO.out.2.1.ky, HO.out.2.1.rq⟩ hw _ _ _ _ _ _ _ _ _ _ _ _ _ _ _ _ _ _ _ _ _ _ _ _ _ _ _ _ _ _ _ _ _ _ _ _ _ _ _ _ _ _ _ _ _ _ _ _ _ _ _ _ _ _ _ _ _ _ _ _ _ _ _ _ _ _ _ _ _ _ _ _ _ _ _ _ _ _ _ _
    · have hl1' : decide (y.str < 1) = false := decide_eq_false hl1
      by_cases hl2 : 15 < y.str
      · have hl2' : decide (15 < y.str) = true := decide_eq_true hl2
        refine seq_hid fun R hR => ?_
        go_wp2_with fail
        have eR : R = (rrqT Try.f14) := by rw [hR.out]; unfold rrqT Try.f14; simp only [dropSeq]
        rw [eR]
        clear hR eR
        have hsg : σ = 0 := by rw [← HSg.out, if_neg]; unfold scB; simp; omega
        have hw := HF.out.setB (L' := [(g, pkC (⟨y.leap, 4, K, 0, min (max poll (-128)) 127, -20, ow y.del, ow y.dis, y.rid, y.ref, 0, 0, X, none, 0, 0, 0, false, none, 0, 0⟩ : Pk), 44), (w.heap.size + 1, pkC pk0, 44)]) g (pkC (⟨y.leap, 4, K, y.str, min (max poll (-128)) 127, -20, ow y.del, ow y.dis, y.rid, y.ref, 0, 0, X, none, 0, 0, 0, false, none, 0, 0⟩ : Pk)) 44 (by simp) 3 (.int .i64 0) (fun b hb => by
          simp only [List.mem_cons, List.not_mem_nil, or_false] at hb
          rcases hb with rfl | rfl
          · exact .inr rfl
          · exact .inl ⟨by simp, by have := HG.out; show _ ≠ _; omega⟩)
        rw [hsg] at hQ
        rw [hQ.out]
        subst hK
        exact rrq_tail5 p a s rq (⟨y.leap, 4, 5, 0, min (max poll (-128)) 127, -20, ow y.del, ow y.dis, y.rid, y.ref, 0, 0, X, none, 0, 0, 0, false, none, 0, 0⟩ : Pk) X w _ g ⟨rfl, rfl⟩ HG.out HO.out.1 ⟨hw.bk, HO.out.2.1.kd, HO.out.2.1.ky, HO.out.2.1.rq⟩ hw _ _ _ _ _ _ _ _ _ _ _ _ _ _ _ _ _ _ _ _ _ _ _ _ _ _ _ _ _ _ _ _ _ _ _ _ _ _ _ _ _ _ _ _ _ _ _ _ _ _ _ _ _ _ _ _ _ _ _ _ _ _ _ _ _ _ _ _ _ _ _ _ _ _ _ _ _ _ _ _
      · have hl2' : decide (15 < y.str) = false := decide_eq_false hl2
        refine seq_hid fun R hR => ?_
        go_wp2_with fail
        have eR : R = (rrqT Try.f14) := by rw [hR.out]; unfold rrqT Try.f14; simp only [dropSeq]
        rw [eR]
        clear hR eR
        have hsg : σ = y.str := by rw [← HSg.out, if_pos]; unfold scB; simp; omega
        have hw := HF.out.sub (L' := [(g, pkC (⟨y.leap, 4, K, y.str, min (max poll (-128)) 127, -20, ow y.del, ow y.dis, y.rid, y.ref, 0, 0, X, none, 0, 0, 0, false, none, 0, 0⟩ : Pk), 44), (w.heap.size + 1, pkC pk0, 44)]) (fun b hb => by simp at hb ⊢; rcases hb with h | h <;> simp [h])
        rw [hsg] at hQ
        rw [hQ.out]
        subst hK
        exact rrq_tail5 p a s rq (⟨y.leap, 4, 5, y.str, min (max poll (-128)) 127, -20, ow y.del, ow y.dis, y.rid, y.ref, 0, 0, X, none, 0, 0, 0, false, none, 0, 0⟩ : Pk) X w _ g ⟨rfl, rfl⟩ HG.out HO.out.1 ⟨hw.bk, HO.out.2.1.kd, HO.out.2.1.ky, HO.out.2.1.rq⟩ hw _ _ _ _ _ _ _ _ _ _ _ _ _ _ _ _ _ _ _ _ _ _ _ _ _ _ _ _ _ _ _ _ _ _ _ _ _ _ _ _ _ _ _ _ _ _ _ _ _ _ _ _ _ _ _ _ _ _ _ _ _ _ _ _ _ _ _ _ _ _ _ _ _ _ _ _ _ _ _ _
  · by_cases hl1 : y.str < 1
    · have hl1' : decide (y.str < 1) = true := decide_eq_true hl1
      refine seq_hid fun R hR => ?_
      go_wp2_with fail
      have eR : R = (rrqT Try.f14) := by rw [hR.out]; unfold rrqT Try.f14; simp only [dropSeq]
      rw [eR]
      clear hR eR
      have hsg : σ = 0 := by rw [← HSg.out, if_neg]; unfold scB; simp; omega
      have hw := HF.out.setB (L' := [(g, pkC (⟨y.leap, 4, K, 0, min (max poll (-128)) 127, -20, ow y.del, ow y.dis, y.rid, y.ref, 0, 0, X, none, 0, 0, 0, false, none, 0, 0⟩ : Pk), 44), (w.heap.size + 1, pkC pk0, 44)]) g (pkC (⟨y.leap, 4, K, y.str, min (max poll (-128)) 127, -20, ow y.del, ow y.dis, y.rid, y.ref, 0, 0, X, none, 0, 0, 0, false, none, 0, 0⟩ : Pk)) 44 (by simp) 3 (.int .i64 0) (fun b hb => by
        simp only [List.mem_cons, List.not_mem_nil, or_false] at hb
        rcases hb with rfl | rfl
        · exact .inr rfl
        · exact .inl ⟨by simp, by have := HG.out; show _ ≠ _; omega⟩)
      rw [hsg] at hQ
      rw [hQ.out]
      simp only [if_neg hK]
      exact rrq_tail p a s rq (⟨y.leap, 4, K, 0, min (max poll (-128)) 127, -20, ow y.del, ow y.dis, y.rid, y.ref, 0, 0, X, none, 0, 0, 0, false, none, 0, 0⟩ : Pk) X K w _ g hK HO.out.2.2 ⟨rfl, rfl⟩ HG.out HO.out.1 ⟨hw.bk, HO.out.2.1.kd, HO.out.2.1.ky, HO.out.2.1.rq⟩ hw _ _ _ _ _ _ _ _ _ _ _ _ _ _ _ _ _ _ _ _ _ _ _ _ _ _ _ _ _ _ _ _ _ _ _ _ _ _ _ _ _ _ _ _ _ _ _ _ _ _ _ _ _ _ _ _ _ _ _ _ _ _ _ _ _ _ _ _ _ _ _ _ _ _ _ _ _ _ _ _
    · have hl1' : decide (y.str < 1) = false := decide_eq_false hl1
      by_cases hl2 : 15 < y.str
      · have hl2' : decide (15 < y.str) = true := decide_eq_true hl2
        refine seq_hid fun R hR => ?_
        go_wp2_with fail
        have eR : R = (rrqT Try.f14) := by rw [hR.out]; unfold rrqT Try.f14; simp only [dropSeq]
        rw [eR]
        clear hR eR
        have hsg : σ = 0 := by rw [← HSg.out, if_neg]; unfold scB; simp; omega
        have hw := HF.out.setB (L' := [(g, pkC (⟨y.leap, 4, K, 0, min (max poll (-128)) 127, -20, ow y.del, ow y.dis, y.rid, y.ref, 0, 0, X, none, 0, 0, 0, false, none, 0, 0⟩ : Pk), 44), (w.heap.size + 1, pkC pk0, 44)]) g (pkC (⟨y.leap, 4, K, y.str, min (max poll (-128)) 127, -20, ow y.del, ow y.dis, y.rid, y.ref, 0, 0, X, none, 0, 0, 0, false, none, 0, 0⟩ : Pk)) 44 (by simp) 3 (.int .i64 0) (fun b hb => by
          simp only [List.mem_cons, List.not_mem_nil, or_false] at hb
          rcases hb with rfl | rfl
          · exact .inr rfl
          · exact .inl ⟨by simp, by have := HG.out; show _ ≠ _; omega⟩)
        rw [hsg] at hQ
        rw [hQ.out]
        simp only [if_neg hK]
        exact rrq_tail p a s rq (⟨y.leap, 4, K, 0, min (max poll (-128)) 127, -20, ow y.del, ow y.dis, y.rid, y.ref, 0, 0, X, none, 0, 0, 0, false, none, 0, 0⟩ : Pk) X K w _ g hK HO.out.2.2 ⟨rfl, rfl⟩ HG.out HO.out.1 ⟨hw.bk, HO.out.2.1.kd, HO.out.2.1.ky, HO.out.2.1.rq⟩ hw _ _ _ _ _ _ _ _ _ _ _ _ _ _ _ _ _ _ _ _ _ _ _ _ _ _ _ _ _ _ _ _ _ _ _ _ _ _ _ _ _ _ _ _ _ _ _ _ _ _ _ _ _ _ _ _ _ _ _ _ _ _ _ _ _ _ _ _ _ _ _ _ _ _ _ _ _ _ _ _
      · have hl2' : decide (15 < y.str) = false := decide_eq_false hl2
        refine seq_hid fun R hR => ?_
        go_wp2_with fail
        have eR : R = (rrqT Try.f14) := by rw [hR.out]; unfold rrqT Try.f14; simp only [dropSeq]
        rw [eR]
        clear hR eR
        have hsg : σ = y.str := by rw [← HSg.out, if_pos]; unfold scB; simp; omega
        have hw := HF.out.sub (L' := [(g, pkC (⟨y.leap, 4, K, y.str, min (max poll (-128)) 127, -20, ow y.del, ow y.dis, y.rid, y.ref, 0, 0, X, none, 0, 0, 0, false, none, 0, 0⟩ : Pk), 44), (w.heap.size + 1, pkC pk0, 44)]) (fun b hb => by simp at hb ⊢; rcases hb with h | h <;> simp [h])
        rw [hsg] at hQ
        rw [hQ.out]
        simp only [if_neg hK]
        exact rrq_tail p a s rq (⟨y.leap, 4, K, y.str, min (max poll (-128)) 127, -20, ow y.del, ow y.dis, y.rid, y.ref, 0, 0, X, none, 0, 0, 0, false, none, 0, 0⟩ : Pk) X K w _ g hK HO.out.2.2 ⟨rfl, rfl⟩ HG.out HO.out.1 ⟨hw.bk, HO.out.2.1.kd, HO.out.2.1.ky, HO.out.2.1.rq⟩ hw _ _ _ _ _ _ _ _ _ _ _ _ _ _ _ _ _ _ _ _ _ _ _ _ _ _ _ _ _ _ _ _ _ _ _ _ _ _ _ _ _ _ _ _ _ _ _ _ _ _ _ _ _ _ _ _ _ _ _ _ _ _ _ _ _ _ _ _ _ _ _ _ _ _ _ _ _ _ _ _
set_option maxRecDepth 20000 in
set_option maxHeartbeats 1000000 in
theorem rrequest_any (p : Nat) (a : As) (s : Ps) (rq : Int) (y : Sy) (poll xmt : Int) (w : World) (h : Rm w p a s rq) (hs : okS s) (hx : 0 ≤ xmt) : Calls Try.prog 14 #[.pointer (some ⟨p, 0, none⟩), .agg (syL y).toArray, .int .i64 poll, .int .u64 xmt] w fun e w' => e = .returned (.tuple #[.agg (pkC (rqP s y poll xmt)).toArray, .bool (rqB s y)]) ∧ (∃ rq', Rm w' p a (rqS s y xmt) rq') ∧ w.grownBy w' (some p) := by
  obtain ⟨K, hK⟩ : ∃ K, askI s.kind = K := ⟨_, rfl⟩
  have C1 : Hid (∀ u, Calls Try.prog 35 #[.int .i64 s.kind] u fun e w' => e = .returned (.int .i64 K) ∧ w' = u) := fun u => by rw [← hK]; exact rasks_any _ u
  unfold rqP rqS rqB
  rw [hK]
  have HP : Hid (Rm w p a s rq ∧ okS s ∧ 0 ≤ xmt) := ⟨h, hs, hx⟩
  clear h hs hK hx
  go_enter Try.func14, Try.ntmps14
  refine post_hid fun Q hQ => ?_
  refine seq_hid fun R hR => ?_
  go_wp2
  refine world_hid fun W hW => ?_
  have HA : Hid (OW w W p (rmC a s rq) 63 [(w.heap.size + 1, pkC pk0, 44), (w.heap.size, syL y, 40)]) := by
    show OW _ _ _ _ _ _
    have h := ((OW.new HP.out.1.bk).push (syL y) 40).push (pkC pk0) 44
    rw [size_alloc1] at h
    rw [hW.out]
    exact h
  clear hW
  rw [hR.out]
  clear hR
  refine seq_hid fun R hR => ?_
  have p0 : W.cell? ⟨p, 0, none⟩ = some (.int .i64 s.kind) := by rw [HP.out.1.kd]; exact HA.out.pc 0
  have k0 : W.cell? ⟨w.heap.size, 0, none⟩ = some (.int .i64 y.leap) := HA.out.cell w.heap.size (syL y) 40 (by simp) 0
  go_wp2_with (go_at_call 35; refine (C1.out _).mono ?_; rintro e wq ⟨rfl, hwq⟩; rw [hwq]; clear hwq)
  rw [hR.out]
  clear hR p0 C1
  by_cases c0 : (K = 0 ∨ K = 5 ∧ y.leap = 3)
  · have e0 : (!(decide (K = 0) || (decide (K = 5) && decide (y.leap = 3)))) = false := by simp; omega
    rw [e0] at hQ
    simp only [Bool.false_eq_true, if_false, false_and] at hQ
    clear e0
    rcases c0 with rfl | ⟨rfl, hl⟩
    · skip
      go_wp2_with (refine step_stR (by rfl) _ _ rfl (w.heap.size + 1) (pkC pk0).toArray (by rfl) (by rfl) pkZ (by kernel_rfl) (by kernel_rfl) (pkC_one _) (HA.out.bl (w.heap.size + 1, pkC pk0, 44) (by simp)).1 ?_)
      rw [hQ.out]
      have hz := HA.out.own (L' := []) (w.heap.size + 1) (pkC pk0) (pkC pk0) 44 (by simp) (fun b hb => by cases hb) (grownBy_row _ _ _) ((HA.out.bl (w.heap.size + 1, pkC pk0, 44) (by simp)).1.row _)
      exact bodyPost_ret (v := .tuple #[.agg (pkC pk0).toArray, .bool false]) (results_ct Try.results14 _ _ (w.heap.size + 1) _ _ _ _ (by rfl) (by rfl) (setRow_heap _ _ _ _ _ _ (HA.out.bl (w.heap.size + 1, pkC pk0, 44) (by simp)).1) Try.underlying44 rfl (by kernel_rfl)) rfl ⟨rfl, ⟨_, ⟨hz.bk, HP.out.1.kd, HP.out.1.ky, HP.out.1.rq⟩⟩, hz.gr⟩
    · rw [hl] at k0
      go_wp2_with (refine step_stR (by rfl) _ _ rfl (w.heap.size + 1) (pkC pk0).toArray (by rfl) (by rfl) pkZ (by kernel_rfl) (by kernel_rfl) (pkC_one _) (HA.out.bl (w.heap.size + 1, pkC pk0, 44) (by simp)).1 ?_)
      rw [hQ.out]
      have hz := HA.out.own (L' := []) (w.heap.size + 1) (pkC pk0) (pkC pk0) 44 (by simp) (fun b hb => by cases hb) (grownBy_row _ _ _) ((HA.out.bl (w.heap.size + 1, pkC pk0, 44) (by simp)).1.row _)
      exact bodyPost_ret (v := .tuple #[.agg (pkC pk0).toArray, .bool false]) (results_ct Try.results14 _ _ (w.heap.size + 1) _ _ _ _ (by rfl) (by rfl) (setRow_heap _ _ _ _ _ _ (HA.out.bl (w.heap.size + 1, pkC pk0, 44) (by simp)).1) Try.underlying44 rfl (by kernel_rfl)) rfl ⟨rfl, ⟨_, ⟨hz.bk, HP.out.1.kd, HP.out.1.ky, HP.out.1.rq⟩⟩, hz.gr⟩
  · have e0 : (!(decide (K = 0) || (decide (K = 5) && decide (y.leap = 3)))) = true := by simp; omega
    rw [e0] at hQ
    simp only [if_true, true_and] at hQ
    have n0 : (K == 0) = false := by simp; omega
    clear e0
    by_cases h5 : K = 5
    · subst h5
      have hbl : (y.leap == 3) = false := by simp; omega
      refine seq_hid fun R hR => ?_
      go_wp2_with fail
      rw [hR.out]
      clear hR
      by_cases hx0 : xmt = 0
      · have hx0' : (xmt == 0) = true := by simpa using hx0
        have hmx : max xmt 1 = 1 := by omega
        refine seq_hid fun R hR => ?_
        go_wp2_with fail
        have eR : R = (rrqM Try.f14) := by rw [hR.out]; unfold rrqM Try.f14; simp only [dropSeq]
        rw [eR]
        clear hR eR
        rw [hQ.out]
        exact rrq_mid p a s rq y poll 1 5 w W _ _ (by rw [hmx]; simp) (by rw [hmx]; simp) (by decide) HP.out.2.1 HP.out.1 HA.out _ _ _ _ _ _ _ _ _ _ _ _ _ _ _ _ _ _ _ _ _ _ _ _ _ _ _ _ _ _ _ _ _ _ _ _ _ _ _ _ _ _ _ _ _ _ _ _ _ _ _ _ _ _ _ _ _ _ _ _ _ _ _ _ _ _ _ _ _ _ _ _ _ _ _ _ _ _ _
      · have hx0' : (xmt == 0) = false := by simpa using hx0
        have hmx : max xmt 1 = xmt := by have := HP.out.2.2; omega
        refine seq_hid fun R hR => ?_
        go_wp2_with fail
        have eR : R = (rrqM Try.f14) := by rw [hR.out]; unfold rrqM Try.f14; simp only [dropSeq]
        rw [eR]
        clear hR eR
        rw [hQ.out]
        exact rrq_mid p a s rq y poll xmt 5 w W _ _ (by rw [hmx]; simp) (by rw [hmx]; simp) hx0 HP.out.2.1 HP.out.1 HA.out _ _ _ _ _ _ _ _ _ _ _ _ _ _ _ _ _ _ _ _ _ _ _ _ _ _ _ _ _ _ _ _ _ _ _ _ _ _ _ _ _ _ _ _ _ _ _ _ _ _ _ _ _ _ _ _ _ _ _ _ _ _ _ _ _ _ _ _ _ _ _ _ _ _ _ _ _ _ _
    · have h5' : (K == 5) = false := by simpa using h5
      refine seq_hid fun R hR => ?_
      go_wp2_with fail
      rw [hR.out]
      clear hR
      by_cases hx0 : xmt = 0
      · have hx0' : (xmt == 0) = true := by simpa using hx0
        have hmx : max xmt 1 = 1 := by omega
        refine seq_hid fun R hR => ?_
        go_wp2_with fail
        have eR : R = (rrqM Try.f14) := by rw [hR.out]; unfold rrqM Try.f14; simp only [dropSeq]
        rw [eR]
        clear hR eR
        rw [hQ.out]
        exact rrq_mid p a s rq y poll 1 K w W _ _ (by rw [hmx]) (by rw [hmx]; simp [h5]) (by decide) HP.out.2.1 HP.out.1 HA.out _ _ _ _ _ _ _ _ _ _ _ _ _ _ _ _ _ _ _ _ _ _ _ _ _ _ _ _ _ _ _ _ _ _ _ _ _ _ _ _ _ _ _ _ _ _ _ _ _ _ _ _ _ _ _ _ _ _ _ _ _ _ _ _ _ _ _ _ _ _ _ _ _ _ _ _ _ _ _
      · have hx0' : (xmt == 0) = false := by simpa using hx0
        have hmx : max xmt 1 = xmt := by have := HP.out.2.2; omega
        refine seq_hid fun R hR => ?_
        go_wp2_with fail
        have eR : R = (rrqM Try.f14) := by rw [hR.out]; unfold rrqM Try.f14; simp only [dropSeq]
        rw [eR]
        clear hR eR
        rw [hQ.out]
        exact rrq_mid p a s rq y poll xmt K w W _ _ (by rw [hmx]) (by rw [hmx]; simp [h5]) hx0 HP.out.2.1 HP.out.1 HA.out _ _ _ _ _ _ _ _ _ _ _ _ _ _ _ _ _ _ _ _ _ _ _ _ _ _ _ _ _ _ _ _ _ _ _ _ _ _ _ _ _ _ _ _ _ _ _ _ _ _ _ _ _ _ _ _ _ _ _ _ _ _ _ _ _ _ _ _ _ _ _ _ _ _ _ _ _ _ _
end Go.Proofs.Ytlggademcmkihaa
/- The reference's Hear. -/
namespace Go.Proofs.Ytlggademcmkihaa
open Go Go.RowKit Go.Sort
/-- a drawn region whose last operation stores; the others read, or call what makes blocks of its own; the class a letter -/
theorem wp_region_lastG {id : Nat} {Q : Exit → Act → World → Prop} {a : Act} {w : World} {l : List Oper} (hm : Try.prog.follows .mixedOrders = true) (hL : lastT l = true) (hn : l.isEmpty = false) (hB : Region.lexB .any (idleLast l).toArray = true)
    (h : ∀ C : World → Prop, (∀ u, C u → Gr w u) → (∀ u u', C u → Gr u u' → C u') → wpQuiet Try.prog (idleLast l).toArray C (fun a => ∀ w', Gr w w' → wpOp Try.prog l.toArray Q (l.length - 1) (fun a' w'' => Q .normal a' w'') a w') (idleLast l) a) : (Code.region id l.toArray true).wp Try.prog Q a w := by
  have hne : l ≠ [] := by intro e; rw [e] at hn; cases hn
  simp only [Region.lexB, Bool.and_eq_true] at hB
  refine wp_region_any hm (wpAny_lastT (C := Gr w) hL hne _ _ _ _ ((Below.refl _ _).drew) (by simp) ?_ (cls_none _ _) ?_)
  · have hp : 0 < l.length := List.length_pos_iff.2 hne
    have hp2 : l.length - 1 < l.length := by omega
    simp [hp2]
  · have := wpAnyQ_lex (C := Gr w) (md := .any) hB.1 (idleLast l) 0 (Array.replicate (idleLast l).toArray.size false) a (by simp) (by simpa using hB.2) (h (Gr w) (fun u h => h) (fun u u' h k => Below.trans h (Below.mono k (Below.size h))))
    simpa [idle_len] using this
/-- a block just made is stored -/
theorem step_onew {ops : Array Oper} {rest : List Oper} {ob : Oper} {a : Act} {W : World} {Q : Exit → Act → World → Prop} {T : TypeId} (hw : Region.wanted ob (yielded ops a.tmps) = true) (x y : Operand) (hop : ob.op = .store T x y)
    (cs cs' : List Value) (hx : a.eval x = .pointer (some ⟨W.heap.size, 0, none⟩)) (hy : a.eval y = .agg cs'.toArray) {w : World} {p : Nat} {c0 : List Value} {T0 : TypeId} {L : List (Nat × List Value × TypeId)} (h : OW w W p c0 T0 L)
    (hs : (Try.prog.info? T).map (·.size) = some cs'.toArray.size) (hold : cs.length = cs'.length) (h1 : cs'.toArray.all (·.oneCell') = true)
    (hK : ∀ W', OW w W' p c0 T0 ((W.heap.size, cs', T) :: L) → wpList Try.prog ops Q rest (a.put ob.dst undef) W') : wpList Try.prog ops Q (ob :: rest) a (W.alloc (.cells cs.toArray T)) := by
  refine step_stR hw x y hop W.heap.size cs'.toArray hx hy cs.toArray hs (by simpa using hold) h1 (Bk.new _ _ _) (hK _ ?_)
  refine (h.push cs T).own W.heap.size cs cs' T (by simp) (fun b hb => ?_) (grownBy_row _ _ _) ((Bk.new _ _ _).row _)
  rcases List.mem_cons.1 hb with rfl | hb
  · exact .inr rfl
  · exact .inl ⟨List.mem_cons_of_mem _ hb, by have := (h.bl b hb).1.lt; omega⟩
/-- cells of the block that came in, stored at once -/
theorem step_opeer {ops : Array Oper} {rest : List Oper} {o : Oper} {a : Act} {W : World} {Q : Exit → Act → World → Prop} (hgd : o.guard = none) (e : TypeId) (x y : Operand) (ho : o.op = .store e x y)
    {w : World} {p : Nat} {cs : List Value} {T : TypeId} {L : List (Nat × List Value × TypeId)} (h : OW w W p cs T L) (i : Nat) (r cs' : List Value) (hx : a.eval x = .pointer (some ⟨p, i, none⟩)) (hy : a.eval y = .agg r.toArray) (hi : (Try.prog.info? e).map (·.size) = some r.length) (hle : i + r.length ≤ cs.length) (h1 : ∀ u ∈ r, u.oneCell' = true)
    (he : cs.take i ++ r ++ cs.drop (i + r.length) = cs')
    (hK : ∀ W', OW w W' p cs' T L → wpList Try.prog ops Q rest (a.put o.dst undef) W') : wpList Try.prog ops Q (o :: rest) a W := by
  refine wpList_stin hgd e x y ho h.bk i r hx hy hi hle h1 (hK _ ?_)
  rw [he]
  exact h.peer (grownBy_row _ _ _) (h.bk.row _)
theorem vd_rng (s : Ps) (q : Pk) (au : Bool) : 0 ≤ vdI s q au ∧ vdI s q au ≤ 10 := by
  unfold vdI hdI
  (repeat' split) <;> omega
def rhT (f : Go.Func) : Code := match f.body with | some c => dropSeq 4 c | none => .skip
def rhU (f : Go.Func) : Code := match f.body with | some c => dropSeq 8 c | none => .skip
set_option maxRecDepth 20000 in
set_option maxHeartbeats 2000000 in
theorem rh_end (p : Nat) (a : As) (s : Ps) (rq : Int) (q : Pk) (rec : Int) (V : Int) (w W : World) (M : Smp) (S : Ps) (hV : V ≠ 0 ∧ V ≠ 6) (hM : M = sm0) (hS : S = s) (hkd : s.kind = a.kind ∧ s.key = a.key ∧ (s.req ≠ 0 → rq = s.req)) (hq : okP q) (h : OW w W p (rmC a s rq) 63 [(w.heap.size + 1, smL sm0, 48), (w.heap.size, pkC q, 44)]) (v1 v3 v4 v6 v7 v8 v11 v12 v13 v14 v15 v16 v17 v18 v19 v20 v21 v22 v23 v24 v25 v26 v27 v28 v29 v30 v31 v32 v33 v34 v35 v36 v37 v38 v39 v40 v41 v42 v43 v44 v45 v46 v47 v48 v49 v50 v51 v52 v53 v54 v55 v56 v57 v58 v59 v60 v61 v62 v63 v64 v65 v66 v67 v68 v69 v70 v71 v72 v73 v74 v75 v76 v77 v78 v79 v80 v81 v82 v83 v84 v85 v86 v87 v88 v89 v90 v91 v92 v93 v94 v95 v96 v97 v98 v99 v100 v101 v102 v103 v104 v105 v106 v107 v108 v109 v110 v111 v112 v113 v114 v115 v116 v117 v118 v119 v120 v121 v122 v123 v124 v125 v126 v127 v128 v129 v130 v131 v132 v133 v134 v135 v136 v137 v138 v139 v140 v141 v142 v143 v144 v145 v146 v147 v148 v149 v150 v151 v152 v153 v154 v155 v156 v157 v158 v159 v160 v161 v162 v163 v164 v165 v166 : Value) :
    Code.wp Try.prog (rhT Try.f16) (bodyPost Try.prog Try.f16 fun e w' => e = .returned (.tuple #[.int .i64 V, .agg (smL M).toArray]) ∧ (∃ rq', Rm w' p a S rq') ∧ w.grownBy w' (some p)) { tmps := #[.pointer (some ⟨p, 0, none⟩), v1, .int .u64 rec, v3, v4, .pointer (some ⟨w.heap.size, 0, none⟩), v6, v7, v8, .pointer (some ⟨w.heap.size + 1, 0, none⟩), .int .i64 V, v11, v12, v13, v14, v15, v16, v17, v18, v19, v20, v21, v22, v23, v24, v25, v26, v27, v28, v29, v30, v31, v32, v33, v34, v35, v36, v37, v38, v39, v40, v41, v42, v43, v44, v45, v46, v47, v48, v49, v50, v51, v52, v53, v54, v55, v56, v57, v58, v59, v60, v61, v62, v63, v64, v65, v66, v67, v68, v69, v70, v71, v72, v73, v74, v75, v76, v77, v78, v79, v80, v81, v82, v83, v84, v85, v86, v87, v88, v89, v90, v91, v92, v93, v94, v95, v96, v97, v98, v99, v100, v101, v102, v103, v104, v105, v106, v107, v108, v109, v110, v111, v112, v113, v114, v115, v116, v117, v118, v119, v120, v121, v122, v123, v124, v125, v126, v127, v128, v129, v130, v131, v132, v133, v134, v135, v136, v137, v138, v139, v140, v141, v142, v143, v144, v145, v146, v147, v148, v149, v150, v151, v152, v153, v154, v155, v156, v157, v158, v159, v160, v161, v162, v163, v164, v165, v166], defers := [] } W := by
  rw [hM, hS]
  clear hM hS
  have HO : Hid (okP q ∧ True ∧ s.kind = a.kind ∧ s.key = a.key ∧ (s.req ≠ 0 → rq = s.req)) := ⟨hq, trivial, hkd⟩
  have HW : Hid (OW w W p (rmC a s rq) 63 [(w.heap.size + 1, smL sm0, 48), (w.heap.size, pkC q, 44)]) := h
  clear hkd hq h
  unfold rhT Try.f16
  simp only [dropSeq]
  refine post_hid fun Q hQ => ?_
  have v0 : (V != 0) = true := by simpa using hV.1
  have v0' : (V == 0) = false := by simpa using hV.1
  have v6 : (V == 6) = false := by simpa using hV.2
  go_wp2_with (refine step_stR (by rfl) _ _ rfl (w.heap.size + 1) (smL sm0).toArray (by rfl) (by rfl) smZ (by kernel_rfl) (by kernel_rfl) (smL_one _) (HW.out.bl (w.heap.size + 1, smL sm0, 48) (by simp)).1 ?_)
  rw [hQ.out]
  have hz := HW.out.own (L' := []) (w.heap.size + 1) (smL sm0) (smL sm0) 48 (by simp) (fun b hb => by cases hb) (grownBy_row _ _ _) ((HW.out.bl (w.heap.size + 1, smL sm0, 48) (by simp)).1.row _)
  exact bodyPost_ret (v := .tuple #[.int .i64 V, .agg (smL sm0).toArray]) (results_tc Try.results16 _ _ (w.heap.size + 1) _ _ _ _ (by rfl) (by rfl) (setRow_heap _ _ _ _ _ _ (HW.out.bl (w.heap.size + 1, smL sm0, 48) (by simp)).1) Try.underlying48 rfl (by kernel_rfl)) rfl ⟨rfl, ⟨_, ⟨hz.bk, HO.out.2.2.1, HO.out.2.2.2.1, HO.out.2.2.2.2⟩⟩, hz.gr⟩
set_option maxRecDepth 20000 in
set_option maxHeartbeats 2000000 in
theorem rh_six (p : Nat) (a : As) (s : Ps) (rq : Int) (q : Pk) (rec : Int) (w W : World) (M : Smp) (S : Ps) (hM : M = sm0) (hS : S = { s with taken := true, last := q.xmt }) (hkd : s.kind = a.kind ∧ s.key = a.key ∧ (s.req ≠ 0 → rq = s.req)) (hq : okP q) (h : OW w W p (rmC a s rq) 63 [(w.heap.size + 1, smL sm0, 48), (w.heap.size, pkC q, 44)]) (v1 v3 v4 v6 v7 v8 v11 v12 v13 v14 v15 v16 v17 v18 v19 v20 v21 v22 v23 v24 v25 v26 v27 v28 v29 v30 v31 v32 v33 v34 v35 v36 v37 v38 v39 v40 v41 v42 v43 v44 v45 v46 v47 v48 v49 v50 v51 v52 v53 v54 v55 v56 v57 v58 v59 v60 v61 v62 v63 v64 v65 v66 v67 v68 v69 v70 v71 v72 v73 v74 v75 v76 v77 v78 v79 v80 v81 v82 v83 v84 v85 v86 v87 v88 v89 v90 v91 v92 v93 v94 v95 v96 v97 v98 v99 v100 v101 v102 v103 v104 v105 v106 v107 v108 v109 v110 v111 v112 v113 v114 v115 v116 v117 v118 v119 v120 v121 v122 v123 v124 v125 v126 v127 v128 v129 v130 v131 v132 v133 v134 v135 v136 v137 v138 v139 v140 v141 v142 v143 v144 v145 v146 v147 v148 v149 v150 v151 v152 v153 v154 v155 v156 v157 v158 v159 v160 v161 v162 v163 v164 v165 v166 : Value) :
    Code.wp Try.prog (rhT Try.f16) (bodyPost Try.prog Try.f16 fun e w' => e = .returned (.tuple #[.int .i64 6, .agg (smL M).toArray]) ∧ (∃ rq', Rm w' p a S rq') ∧ w.grownBy w' (some p)) { tmps := #[.pointer (some ⟨p, 0, none⟩), v1, .int .u64 rec, v3, v4, .pointer (some ⟨w.heap.size, 0, none⟩), v6, v7, v8, .pointer (some ⟨w.heap.size + 1, 0, none⟩), .int .i64 6, v11, v12, v13, v14, v15, v16, v17, v18, v19, v20, v21, v22, v23, v24, v25, v26, v27, v28, v29, v30, v31, v32, v33, v34, v35, v36, v37, v38, v39, v40, v41, v42, v43, v44, v45, v46, v47, v48, v49, v50, v51, v52, v53, v54, v55, v56, v57, v58, v59, v60, v61, v62, v63, v64, v65, v66, v67, v68, v69, v70, v71, v72, v73, v74, v75, v76, v77, v78, v79, v80, v81, v82, v83, v84, v85, v86, v87, v88, v89, v90, v91, v92, v93, v94, v95, v96, v97, v98, v99, v100, v101, v102, v103, v104, v105, v106, v107, v108, v109, v110, v111, v112, v113, v114, v115, v116, v117, v118, v119, v120, v121, v122, v123, v124, v125, v126, v127, v128, v129, v130, v131, v132, v133, v134, v135, v136, v137, v138, v139, v140, v141, v142, v143, v144, v145, v146, v147, v148, v149, v150, v151, v152, v153, v154, v155, v156, v157, v158, v159, v160, v161, v162, v163, v164, v165, v166], defers := [] } W := by
  rw [hM, hS]
  clear hM hS
  have HO : Hid (okP q ∧ True ∧ s.kind = a.kind ∧ s.key = a.key ∧ (s.req ≠ 0 → rq = s.req)) := ⟨hq, trivial, hkd⟩
  have HW : Hid (OW w W p (rmC a s rq) 63 [(w.heap.size + 1, smL sm0, 48), (w.heap.size, pkC q, 44)]) := h
  clear hkd hq h
  unfold rhT Try.f16
  simp only [dropSeq]
  refine post_hid fun Q hQ => ?_
  have k12 : W.cell? ⟨w.heap.size, 12, none⟩ = some (.int .u64 q.xmt) := HW.out.cell w.heap.size (pkC q) 44 (by simp) 12
  have p15 : W.cell? ⟨p, 15, none⟩ = some (.bool s.taken) := HW.out.pc 15
  have p16 : W.cell? ⟨p, 16, none⟩ = some (.int .u64 s.last) := HW.out.pc 16
  have pf : ∀ j, W.frozen? ⟨p, j, none⟩ = false := HW.out.bk.frozen
  refine seq_hid fun R hR => ?_
  go_wp2
  have hpn : p ≠ w.heap.size := by have := HW.out.lp; omega
  have hpn' : w.heap.size ≠ p := Ne.symm hpn
  go_region_held3 (fun w' => w'.cell? ⟨w.heap.size, 12, none⟩ = some (.int .u64 q.xmt)) (first | with_reducible exact k12 | go_keep) (fail)
  have HW : Hid (OW w ((W.setCell ⟨p, 15, none⟩ (.bool true)).setCell ⟨p, 16, none⟩ (.int .u64 q.xmt)).drew p (rmC a { s with taken := true, last := q.xmt } rq) 63 [(w.heap.size + 1, smL sm0, 48), (w.heap.size, pkC q, 44)]) := ((HW.out.setP 15 (.bool true)).setP 16 (.int .u64 q.xmt)).drew
  generalize ((W.setCell ⟨p, 15, none⟩ (.bool true)).setCell ⟨p, 16, none⟩ (.int .u64 q.xmt)).drew = W8 at HW ⊢
  clear k12 p15 p16 pf hpn hpn'
  go_wp2_with fail
  rw [hR.out]
  clear hR
  go_wp2_with (refine step_stR (by rfl) _ _ rfl (w.heap.size + 1) (smL sm0).toArray (by rfl) (by rfl) smZ (by kernel_rfl) (by kernel_rfl) (smL_one _) (HW.out.bl (w.heap.size + 1, smL sm0, 48) (by simp)).1 ?_)
  rw [hQ.out]
  have hz := HW.out.own (L' := []) (w.heap.size + 1) (smL sm0) (smL sm0) 48 (by simp) (fun b hb => by cases hb) (grownBy_row _ _ _) ((HW.out.bl (w.heap.size + 1, smL sm0, 48) (by simp)).1.row _)
  exact bodyPost_ret (v := .tuple #[.int .i64 6, .agg (smL sm0).toArray]) (results_tc Try.results16 _ _ (w.heap.size + 1) _ _ _ _ (by rfl) (by rfl) (setRow_heap _ _ _ _ _ _ (HW.out.bl (w.heap.size + 1, smL sm0, 48) (by simp)).1) Try.underlying48 rfl (by kernel_rfl)) rfl ⟨rfl, ⟨_, ⟨hz.bk, HO.out.2.2.1, HO.out.2.2.2.1, HO.out.2.2.2.2⟩⟩, hz.gr⟩
end Go.Proofs.Ytlggademcmkihaa
namespace Go.Proofs.Ytlggademcmkihaa
open Go Go.RowKit Go.Sort
set_option maxRecDepth 20000 in
set_option maxHeartbeats 2000000 in
theorem rh_five (p : Nat) (a : As) (s : Ps) (rq : Int) (q : Pk) (rec : Int) (w W : World) (M : Smp) (S : Ps) (hm : q.mode = 5) (hM : M = smO q rec) (hS : S = s) (hkd : s.kind = a.kind ∧ s.key = a.key ∧ (s.req ≠ 0 → rq = s.req)) (hq : okP q) (h : OW w W p (rmC a s rq) 63 [(w.heap.size + 1, smL sm0, 48), (w.heap.size, pkC q, 44)]) (v1 v3 v4 v6 v7 v8 v11 v12 v13 v14 v15 v16 v17 v18 v19 v20 v21 v22 v23 v24 v25 v26 v27 v28 v29 v30 v31 v32 v33 v34 v35 v36 v37 v38 v39 v40 v41 v42 v43 v44 v45 v46 v47 v48 v49 v50 v51 v52 v53 v54 v55 v56 v57 v58 v59 v60 v61 v62 v63 v64 v65 v66 v67 v68 v69 v70 v71 v72 v73 v74 v75 v76 v77 v78 v79 v80 v81 v82 v83 v84 v85 v86 v87 v88 v89 v90 v91 v92 v93 v94 v95 v96 v97 v98 v99 v100 v101 v102 v103 v104 v105 v106 v107 v108 v109 v110 v111 v112 v113 v114 v115 v116 v117 v118 v119 v120 v121 v122 v123 v124 v125 v126 v127 v128 v129 v130 v131 v132 v133 v134 v135 v136 v137 v138 v139 v140 v141 v142 v143 v144 v145 v146 v147 v148 v149 v150 v151 v152 v153 v154 v155 v156 v157 v158 v159 v160 v161 v162 v163 v164 v165 v166 : Value) :
    Code.wp Try.prog (rhU Try.f16) (bodyPost Try.prog Try.f16 fun e w' => e = .returned (.tuple #[.int .i64 0, .agg (smL M).toArray]) ∧ (∃ rq', Rm w' p a S rq') ∧ w.grownBy w' (some p)) { tmps := #[.pointer (some ⟨p, 0, none⟩), v1, .int .u64 rec, v3, v4, .pointer (some ⟨w.heap.size, 0, none⟩), v6, v7, v8, .pointer (some ⟨w.heap.size + 1, 0, none⟩), .int .i64 0, v11, v12, v13, v14, v15, v16, v17, v18, v19, v20, v21, v22, v23, v24, v25, v26, v27, v28, v29, v30, v31, v32, v33, v34, v35, v36, v37, v38, v39, v40, v41, v42, v43, v44, v45, v46, v47, v48, v49, v50, v51, v52, v53, v54, v55, v56, v57, v58, v59, v60, v61, v62, v63, v64, v65, v66, v67, v68, v69, v70, v71, v72, v73, v74, v75, v76, v77, v78, v79, v80, v81, v82, v83, v84, v85, v86, v87, v88, v89, v90, v91, v92, v93, v94, v95, v96, v97, v98, v99, v100, v101, v102, v103, v104, v105, v106, v107, v108, v109, v110, v111, v112, v113, v114, v115, v116, v117, v118, v119, v120, v121, v122, v123, v124, v125, v126, v127, v128, v129, v130, v131, v132, v133, v134, v135, v136, v137, v138, v139, v140, v141, v142, v143, v144, v145, v146, v147, v148, v149, v150, v151, v152, v153, v154, v155, v156, v157, v158, v159, v160, v161, v162, v163, v164, v165, v166], defers := [] } W := by
  rw [hM, hS]
  clear hM hS
  have HO : Hid (okP q ∧ True ∧ s.kind = a.kind ∧ s.key = a.key ∧ (s.req ≠ 0 → rq = s.req)) := ⟨hq, trivial, hkd⟩
  have HW : Hid (OW w W p (rmC a s rq) 63 [(w.heap.size + 1, smL sm0, 48), (w.heap.size, pkC q, 44)]) := h
  clear hkd hq h
  unfold rhU Try.f16
  simp only [dropSeq]
  refine post_hid fun Q hQ => ?_
  refine seq_hid fun R hR => ?_
  obtain ⟨P1, hP1⟩ : ∃ P1, Fx.sh 4294967296 q.prec = P1 := ⟨_, rfl⟩
  obtain ⟨P2, hP2⟩ : ∃ P2, Fx.sh 4294967296 (-20) = P2 := ⟨_, rfl⟩
  obtain ⟨P, hP⟩ : ∃ P, prI q = P := ⟨_, rfl⟩
  have b1 := pow_bd q.prec
  have b2 := pow_bd (-20)
  rw [hP1] at b1
  rw [hP2] at b2
  have bP : -4611686018427387904 ≤ P ∧ P ≤ 4611686018427387904 := by rw [← hP]; exact cl62 _
  have H1 : Hid (∀ u, Calls Try.prog 39 #[.int .i64 q.prec] u fun e w' => e = .returned (.int .i64 P1) ∧ Below u.heap.size u w') := fun u => by rw [← hP1]; exact rpower_any _ u HO.out.1.prec.1 HO.out.1.prec.2
  have H2 : Hid (∀ u, Calls Try.prog 39 #[.int .i64 (-20)] u fun e w' => e = .returned (.int .i64 P2) ∧ Below u.heap.size u w') := fun u => by rw [← hP2]; exact rpower_any _ u (by decide) (by decide)
  have H3 : Hid (∀ u, Calls Try.prog 38 #[.int .i64 P1, .int .i64 P2] u fun e w' => e = .returned (.int .i64 P) ∧ Below u.heap.size u w') := fun u => by rw [← hP]; unfold prI; rw [hP1, hP2]; exact radd_any _ _ u b1.1 b1.2 b2.1 b2.2
  have HPp : Hid (prI q = P ∧ -4611686018427387904 ≤ P ∧ P ≤ 4611686018427387904) := ⟨hP, bP⟩
  clear hP hP1 hP2 b1 b2 bP
  have k5 : W.cell? ⟨w.heap.size, 5, none⟩ = some (.int .i64 q.prec) := HW.out.cell w.heap.size (pkC q) 44 (by simp) 5
  go_wp2_with fail
  refine (H1.out _).mono ?_
  rintro e w11 ⟨rfl, hb11⟩
  have HW : Hid (OW w w11 p (rmC a s rq) 63 [(w.heap.size + 1, smL sm0, 48), (w.heap.size, pkC q, 44)]) := HW.out.step hb11
  clear hb11
  go_wp2_with fail
  refine (H2.out _).mono ?_
  rintro e w12 ⟨rfl, hb12⟩
  have HW : Hid (OW w w12 p (rmC a s rq) 63 [(w.heap.size + 1, smL sm0, 48), (w.heap.size, pkC q, 44)]) := HW.out.step hb12
  clear hb12
  go_wp2_with fail
  refine (H3.out _).mono ?_
  rintro e w13 ⟨rfl, hb13⟩
  have HW : Hid (OW w w13 p (rmC a s rq) 63 [(w.heap.size + 1, smL sm0, 48), (w.heap.size, pkC q, 44)]) := HW.out.step hb13
  clear hb13
  go_wp2_with (refine step_onew (by rfl) _ _ rfl (smL sm0) (smL ⟨0, 0, P, rec⟩) (by rfl) (by rfl) HW.out (by kernel_rfl) rfl (smL_one _) ?_; intro W14 hw14; have HX : Hid _ := hw14; clear hw14)
  rw [hR.out]
  clear hR k5 H1 H2 H3
  obtain ⟨g, hg⟩ : ∃ g, w13.heap.size = g := ⟨_, rfl⟩
  rw [hg] at HX ⊢
  have HG : Hid (w.heap.size + 1 < g) := by
    have := (HW.out.bl (w.heap.size + 1, smL sm0, 48) (by simp)).1.lt
    simp only at this
    show _ < _
    omega
  clear hg HW
  have HW : Hid (OW w W14 p (rmC a s rq) 63 [(g, smL ⟨0, 0, P, rec⟩, 48), (w.heap.size + 1, smL sm0, 48), (w.heap.size, pkC q, 44)]) := HX.out
  clear HX
  obtain ⟨D, hD⟩ : ∃ D, sn q.xmt rec = D := ⟨_, rfl⟩
  obtain ⟨O, hO⟩ : ∃ O, Fx.cl 4611686018427387904 (D + 8388608) = O := ⟨_, rfl⟩
  have eS : smO q rec = ⟨O, 16777216, P, rec⟩ := by unfold smO; rw [if_pos hm, HPp.out.1, hD, hO]
  have bs := sn_bd q.xmt rec
  rw [hD] at bs
  have C1 : Hid (∀ u, Calls Try.prog 40 #[.int .u64 q.xmt, .int .u64 rec] u fun e w' => e = .returned (.int .i64 D) ∧ w' = u) := fun u => by rw [← hD]; exact rsince_any _ _ u
  have C2 : Hid (∀ u, Calls Try.prog 38 #[.int .i64 D, .int .i64 8388608] u fun e w' => e = .returned (.int .i64 O) ∧ Below u.heap.size u w') := fun u => by rw [← hO]; exact radd_any _ _ u (by omega) (by omega) (by decide) (by decide)
  rw [eS] at hQ
  clear eS hD hO bs
  have hm' : (q.mode == 5) = true := by simpa using hm
  have k2 : W14.cell? ⟨w.heap.size, 2, none⟩ = some (.int .i64 q.mode) := HW.out.cell w.heap.size (pkC q) 44 (by simp) 2
  have kg : ∀ j, W14.frozen? ⟨g, j, none⟩ = false := HW.out.fz g (smL ⟨0, 0, P, rec⟩) 48 (by simp)
  have g1 : W14.cell? ⟨g, 1, none⟩ = some (.int .i64 0) := HW.out.cell g (smL ⟨0, 0, P, rec⟩) 48 (by simp) 1
  have hgn : g ≠ w.heap.size := by have := HG.out; omega
  have hgn' : w.heap.size ≠ g := Ne.symm hgn
  refine seq_hid fun R hR => ?_
  clear hR
  have HX : Hid (OW w (W14.setCell ⟨g, 1, none⟩ (.int .i64 16777216)) p (rmC a s rq) 63 [(g, smL ⟨0, 16777216, P, rec⟩, 48), (w.heap.size + 1, smL sm0, 48), (w.heap.size, pkC q, 44)]) := HW.out.setB (L' := [(g, smL ⟨0, 16777216, P, rec⟩, 48), (w.heap.size + 1, smL sm0, 48), (w.heap.size, pkC q, 44)]) g (smL ⟨0, 0, P, rec⟩) 48 (by simp) 1 (.int .i64 16777216) (fun b hb => by
      simp only [List.mem_cons, List.not_mem_nil, or_false] at hb
      have hg := HG.out
      rcases hb with rfl | rfl | rfl
      · exact .inr rfl
      · exact .inl ⟨by simp, by show _ ≠ _; omega⟩
      · exact .inl ⟨by simp, by show _ ≠ _; omega⟩)
  have k12 : W14.cell? ⟨w.heap.size, 12, none⟩ = some (.int .u64 q.xmt) := HW.out.cell w.heap.size (pkC q) 44 (by simp) 12
  go_wp2_with (first
    | (go_at_call 40; refine (C1.out _).mono ?_; rintro e wq ⟨rfl, hwq⟩; rw [hwq]; clear hwq)
    | (go_at_call 38; refine (C2.out _).mono ?_; rintro e w16 ⟨rfl, hb16⟩; have HX : Hid _ := HX.out.step hb16; clear hb16; have kg : ∀ j, w16.frozen? ⟨g, j, none⟩ = false := HX.out.fz g (smL ⟨0, 16777216, P, rec⟩) 48 (by simp); have g0 : w16.cell? ⟨g, 0, none⟩ = some (.int .i64 0) := HX.out.cell g (smL ⟨0, 16777216, P, rec⟩) 48 (by simp) 0))
  have HZ := HX.out.setB (L' := [(g, smL ⟨O, 16777216, P, rec⟩, 48), (w.heap.size + 1, smL sm0, 48), (w.heap.size, pkC q, 44)]) g (smL ⟨0, 16777216, P, rec⟩) 48 (by simp) 0 (.int .i64 O) (fun b hb => by
      simp only [List.mem_cons, List.not_mem_nil, or_false] at hb
      have hg := HG.out
      rcases hb with rfl | rfl | rfl
      · exact .inr rfl
      · exact .inl ⟨by simp, by show _ ≠ _; omega⟩
      · exact .inl ⟨by simp, by show _ ≠ _; omega⟩)
  generalize w16.setCell ⟨g, 0, none⟩ (.int .i64 O) = W16 at HZ ⊢
  clear HW HX kg g0 g1 k2 k12 C1 C2 hgn hgn'
  have HW : Hid _ := HZ
  clear HZ
  refine wp_region_lastW (by kernel_rfl) (by kernel_rfl) (by rfl) (by kernel_rfl) ?_
  simp only [idleLast, idle]
  repeat (first
    | (refine qw_ld (by rfl) 48 _ rfl ⟨g, 0, none⟩ (by rfl) (smL ⟨O, 16777216, P, rec⟩) _ Try.underlying48 rfl (by kernel_rfl) (fun u hu => ?_) ?_; (obtain ⟨nu, rfl⟩ := hu; exact HW.out.at g (smL ⟨O, 16777216, P, rec⟩) 48 (by simp)))
    | (refine qw_step (fun K hK => ?_); go_simp; refine hK _ ?_; clear hK K))
  refine qw_nil ?_
  intro W17 hw'
  obtain ⟨nq, hw''⟩ := hw'
  have HY : Hid (OW w W17 p (rmC a s rq) 63 [(g, smL ⟨O, 16777216, P, rec⟩, 48), (w.heap.size + 1, smL sm0, 48), (w.heap.size, pkC q, 44)]) := by rw [hw'']; exact HW.out.drewN nq
  clear hw'' HW
  refine wpOp_st (g := w.heap.size + 1) (T := 48) _ (by rfl) rfl _ _ rfl (smL ⟨O, 16777216, P, rec⟩).toArray (by rfl) (by rfl) smZ (HY.out.bl (w.heap.size + 1, smL sm0, 48) (by simp)).1 (by kernel_rfl) (by rfl) (smL_one _) ?_
  go_wp2_with fail
  rw [hQ.out]
  have hz := HY.out.own (L' := []) (w.heap.size + 1) (smL sm0) (smL ⟨O, 16777216, P, rec⟩) 48 (by simp) (fun b hb => by cases hb) (grownBy_row _ _ _) ((HY.out.bl (w.heap.size + 1, smL sm0, 48) (by simp)).1.row _)
  exact bodyPost_ret (v := .tuple #[.int .i64 0, .agg (smL ⟨O, 16777216, P, rec⟩).toArray]) (results_tc Try.results16 _ _ (w.heap.size + 1) _ _ _ _ (by rfl) (by rfl) (setRow_heap _ _ _ _ _ _ (HY.out.bl (w.heap.size + 1, smL sm0, 48) (by simp)).1) Try.underlying48 rfl (by kernel_rfl)) rfl ⟨rfl, ⟨_, ⟨hz.bk, HO.out.2.2.1, HO.out.2.2.2.1, HO.out.2.2.2.2⟩⟩, hz.gr⟩
end Go.Proofs.Ytlggademcmkihaa
namespace Go.Proofs.Ytlggademcmkihaa
open Go Go.RowKit Go.Sort
set_option maxRecDepth 20000 in
set_option maxHeartbeats 2000000 in
theorem rh_oth (p : Nat) (a : As) (s : Ps) (rq : Int) (q : Pk) (rec : Int) (w W : World) (M : Smp) (S : Ps) (hm : ¬ q.mode = 5) (hM : M = smO q rec) (hS : S = s) (hkd : s.kind = a.kind ∧ s.key = a.key ∧ (s.req ≠ 0 → rq = s.req)) (hq : okP q) (h : OW w W p (rmC a s rq) 63 [(w.heap.size + 1, smL sm0, 48), (w.heap.size, pkC q, 44)]) (v1 v3 v4 v6 v7 v8 v11 v12 v13 v14 v15 v16 v17 v18 v19 v20 v21 v22 v23 v24 v25 v26 v27 v28 v29 v30 v31 v32 v33 v34 v35 v36 v37 v38 v39 v40 v41 v42 v43 v44 v45 v46 v47 v48 v49 v50 v51 v52 v53 v54 v55 v56 v57 v58 v59 v60 v61 v62 v63 v64 v65 v66 v67 v68 v69 v70 v71 v72 v73 v74 v75 v76 v77 v78 v79 v80 v81 v82 v83 v84 v85 v86 v87 v88 v89 v90 v91 v92 v93 v94 v95 v96 v97 v98 v99 v100 v101 v102 v103 v104 v105 v106 v107 v108 v109 v110 v111 v112 v113 v114 v115 v116 v117 v118 v119 v120 v121 v122 v123 v124 v125 v126 v127 v128 v129 v130 v131 v132 v133 v134 v135 v136 v137 v138 v139 v140 v141 v142 v143 v144 v145 v146 v147 v148 v149 v150 v151 v152 v153 v154 v155 v156 v157 v158 v159 v160 v161 v162 v163 v164 v165 v166 : Value) :
    Code.wp Try.prog (rhU Try.f16) (bodyPost Try.prog Try.f16 fun e w' => e = .returned (.tuple #[.int .i64 0, .agg (smL M).toArray]) ∧ (∃ rq', Rm w' p a S rq') ∧ w.grownBy w' (some p)) { tmps := #[.pointer (some ⟨p, 0, none⟩), v1, .int .u64 rec, v3, v4, .pointer (some ⟨w.heap.size, 0, none⟩), v6, v7, v8, .pointer (some ⟨w.heap.size + 1, 0, none⟩), .int .i64 0, v11, v12, v13, v14, v15, v16, v17, v18, v19, v20, v21, v22, v23, v24, v25, v26, v27, v28, v29, v30, v31, v32, v33, v34, v35, v36, v37, v38, v39, v40, v41, v42, v43, v44, v45, v46, v47, v48, v49, v50, v51, v52, v53, v54, v55, v56, v57, v58, v59, v60, v61, v62, v63, v64, v65, v66, v67, v68, v69, v70, v71, v72, v73, v74, v75, v76, v77, v78, v79, v80, v81, v82, v83, v84, v85, v86, v87, v88, v89, v90, v91, v92, v93, v94, v95, v96, v97, v98, v99, v100, v101, v102, v103, v104, v105, v106, v107, v108, v109, v110, v111, v112, v113, v114, v115, v116, v117, v118, v119, v120, v121, v122, v123, v124, v125, v126, v127, v128, v129, v130, v131, v132, v133, v134, v135, v136, v137, v138, v139, v140, v141, v142, v143, v144, v145, v146, v147, v148, v149, v150, v151, v152, v153, v154, v155, v156, v157, v158, v159, v160, v161, v162, v163, v164, v165, v166], defers := [] } W := by
  rw [hM, hS]
  clear hM hS
  have HO : Hid (okP q ∧ True ∧ s.kind = a.kind ∧ s.key = a.key ∧ (s.req ≠ 0 → rq = s.req)) := ⟨hq, trivial, hkd⟩
  have HW : Hid (OW w W p (rmC a s rq) 63 [(w.heap.size + 1, smL sm0, 48), (w.heap.size, pkC q, 44)]) := h
  clear hkd hq h
  unfold rhU Try.f16
  simp only [dropSeq]
  refine post_hid fun Q hQ => ?_
  refine seq_hid fun R hR => ?_
  obtain ⟨P1, hP1⟩ : ∃ P1, Fx.sh 4294967296 q.prec = P1 := ⟨_, rfl⟩
  obtain ⟨P2, hP2⟩ : ∃ P2, Fx.sh 4294967296 (-20) = P2 := ⟨_, rfl⟩
  obtain ⟨P, hP⟩ : ∃ P, prI q = P := ⟨_, rfl⟩
  have b1 := pow_bd q.prec
  have b2 := pow_bd (-20)
  rw [hP1] at b1
  rw [hP2] at b2
  have bP : -4611686018427387904 ≤ P ∧ P ≤ 4611686018427387904 := by rw [← hP]; exact cl62 _
  have H1 : Hid (∀ u, Calls Try.prog 39 #[.int .i64 q.prec] u fun e w' => e = .returned (.int .i64 P1) ∧ Below u.heap.size u w') := fun u => by rw [← hP1]; exact rpower_any _ u HO.out.1.prec.1 HO.out.1.prec.2
  have H2 : Hid (∀ u, Calls Try.prog 39 #[.int .i64 (-20)] u fun e w' => e = .returned (.int .i64 P2) ∧ Below u.heap.size u w') := fun u => by rw [← hP2]; exact rpower_any _ u (by decide) (by decide)
  have H3 : Hid (∀ u, Calls Try.prog 38 #[.int .i64 P1, .int .i64 P2] u fun e w' => e = .returned (.int .i64 P) ∧ Below u.heap.size u w') := fun u => by rw [← hP]; unfold prI; rw [hP1, hP2]; exact radd_any _ _ u b1.1 b1.2 b2.1 b2.2
  have HPp : Hid (prI q = P ∧ -4611686018427387904 ≤ P ∧ P ≤ 4611686018427387904) := ⟨hP, bP⟩
  clear hP hP1 hP2 b1 b2 bP
  have k5 : W.cell? ⟨w.heap.size, 5, none⟩ = some (.int .i64 q.prec) := HW.out.cell w.heap.size (pkC q) 44 (by simp) 5
  go_wp2_with fail
  refine (H1.out _).mono ?_
  rintro e w11 ⟨rfl, hb11⟩
  have HW : Hid (OW w w11 p (rmC a s rq) 63 [(w.heap.size + 1, smL sm0, 48), (w.heap.size, pkC q, 44)]) := HW.out.step hb11
  clear hb11
  go_wp2_with fail
  refine (H2.out _).mono ?_
  rintro e w12 ⟨rfl, hb12⟩
  have HW : Hid (OW w w12 p (rmC a s rq) 63 [(w.heap.size + 1, smL sm0, 48), (w.heap.size, pkC q, 44)]) := HW.out.step hb12
  clear hb12
  go_wp2_with fail
  refine (H3.out _).mono ?_
  rintro e w13 ⟨rfl, hb13⟩
  have HW : Hid (OW w w13 p (rmC a s rq) 63 [(w.heap.size + 1, smL sm0, 48), (w.heap.size, pkC q, 44)]) := HW.out.step hb13
  clear hb13
  go_wp2_with (refine step_onew (by rfl) _ _ rfl (smL sm0) (smL ⟨0, 0, P, rec⟩) (by rfl) (by rfl) HW.out (by kernel_rfl) rfl (smL_one _) ?_; intro W14 hw14; have HX : Hid _ := hw14; clear hw14)
  rw [hR.out]
  clear hR k5 H1 H2 H3
  obtain ⟨g, hg⟩ : ∃ g, w13.heap.size = g := ⟨_, rfl⟩
  rw [hg] at HX ⊢
  have HG : Hid (w.heap.size + 1 < g) := by
    have := (HW.out.bl (w.heap.size + 1, smL sm0, 48) (by simp)).1.lt
    simp only at this
    show _ < _
    omega
  clear hg HW
  have HW : Hid (OW w W14 p (rmC a s rq) 63 [(g, smL ⟨0, 0, P, rec⟩, 48), (w.heap.size + 1, smL sm0, 48), (w.heap.size, pkC q, 44)]) := HX.out
  clear HX
  obtain ⟨O, hO⟩ : ∃ O, exO q.org q.rc q.xmt rec = O := ⟨_, rfl⟩
  obtain ⟨D, hD⟩ : ∃ D, exD q.org q.rc q.xmt rec = D := ⟨_, rfl⟩
  obtain ⟨A, hA⟩ : ∃ A, max (sn rec q.org) 0 = A := ⟨_, rfl⟩
  obtain ⟨E, hE⟩ : ∃ E, dr A = E := ⟨_, rfl⟩
  obtain ⟨F, hF⟩ : ∃ F, Fx.cl 4611686018427387904 (P + E) = F := ⟨_, rfl⟩
  have eS : smO q rec = ⟨O, D, F, rec⟩ := by unfold smO wr; rw [if_neg hm, HPp.out.1, hO, hD, hA, hE, hF]
  have bs := sn_bd rec q.org
  have bE : -4611686018427387904 ≤ E ∧ E ≤ 4611686018427387904 := by rw [← hE]; exact dr_bd _
  have bP := HPp.out.2
  have C1 : Hid (∀ u, Calls Try.prog 21 #[.int .u64 q.org, .int .u64 q.rc, .int .u64 q.xmt, .int .u64 rec] u fun e w' => e = .returned (.tuple #[.int .i64 O, .int .i64 D]) ∧ Below u.heap.size u w') := fun u => by rw [← hO, ← hD]; exact rexchange_any _ _ _ _ u
  have C2 : Hid (∀ u, Calls Try.prog 42 #[.int .u64 q.org, .int .u64 rec] u fun e w' => e = .returned (.int .i64 A) ∧ w' = u) := fun u => by rw [← hA]; exact rafter_any _ _ u
  have C3 : Hid (∀ u, Calls Try.prog 41 #[.int .i64 4222124650, .int .i64 A] u fun e w' => e = .returned (.int .i64 E) ∧ Below u.heap.size u w') := fun u => by rw [← hE]; unfold dr; exact rdrift_any _ _ u (by decide) (by decide) (by omega) (by omega)
  have C4 : Hid (∀ u, Calls Try.prog 38 #[.int .i64 P, .int .i64 E] u fun e w' => e = .returned (.int .i64 F) ∧ Below u.heap.size u w') := fun u => by rw [← hF]; exact radd_any _ _ u (by omega) (by omega) (by omega) (by omega)
  rw [eS] at hQ
  clear eS hO hD hA hE hF bs bE bP
  have hm' : (q.mode == 5) = false := by simpa using hm
  have k2 : W14.cell? ⟨w.heap.size, 2, none⟩ = some (.int .i64 q.mode) := HW.out.cell w.heap.size (pkC q) 44 (by simp) 2
  have k10 : W14.cell? ⟨w.heap.size, 10, none⟩ = some (.int .u64 q.org) := HW.out.cell w.heap.size (pkC q) 44 (by simp) 10
  have k11 : W14.cell? ⟨w.heap.size, 11, none⟩ = some (.int .u64 q.rc) := HW.out.cell w.heap.size (pkC q) 44 (by simp) 11
  have k12 : W14.cell? ⟨w.heap.size, 12, none⟩ = some (.int .u64 q.xmt) := HW.out.cell w.heap.size (pkC q) 44 (by simp) 12
  refine seq_hid fun R hR => ?_
  go_wp2_with fail
  rw [hR.out]
  clear hR
  refine seq_hid fun R hR => ?_
  go_wp2_with (go_at_call 21; refine (C1.out _).mono ?_; rintro e w15 ⟨rfl, hb15⟩; have HX : Hid _ := HW.out.step hb15; clear hb15; have kg : ∀ j, w15.frozen? ⟨g, j, none⟩ = false := HX.out.fz g (smL ⟨0, 0, P, rec⟩) 48 (by simp); have g0 : w15.cell? ⟨g, 0, none⟩ = some (.int .i64 0) := HX.out.cell g (smL ⟨0, 0, P, rec⟩) 48 (by simp) 0; have g1 : w15.cell? ⟨g, 1, none⟩ = some (.int .i64 0) := HX.out.cell g (smL ⟨0, 0, P, rec⟩) 48 (by simp) 1)
  have HZ1 := HX.out.setB (L' := [(g, smL ⟨O, 0, P, rec⟩, 48), (w.heap.size + 1, smL sm0, 48), (w.heap.size, pkC q, 44)]) g (smL ⟨0, 0, P, rec⟩) 48 (by simp) 0 (.int .i64 O) (fun b hb => by
      simp only [List.mem_cons, List.not_mem_nil, or_false] at hb
      have hg := HG.out
      rcases hb with rfl | rfl | rfl
      · exact .inr rfl
      · exact .inl ⟨by simp, by show _ ≠ _; omega⟩
      · exact .inl ⟨by simp, by show _ ≠ _; omega⟩)
  have HZ := HZ1.setB (L' := [(g, smL ⟨O, D, P, rec⟩, 48), (w.heap.size + 1, smL sm0, 48), (w.heap.size, pkC q, 44)]) g (smL ⟨O, 0, P, rec⟩) 48 (by simp) 1 (.int .i64 D) (fun b hb => by
      simp only [List.mem_cons, List.not_mem_nil, or_false] at hb
      have hg := HG.out
      rcases hb with rfl | rfl | rfl
      · exact .inr rfl
      · exact .inl ⟨by simp, by show _ ≠ _; omega⟩
      · exact .inl ⟨by simp, by show _ ≠ _; omega⟩)
  generalize (w15.setCell ⟨g, 0, none⟩ (.int .i64 O)).setCell ⟨g, 1, none⟩ (.int .i64 D) = W16 at HZ ⊢
  clear HW HX HZ1 kg g0 g1 k2 k10 k11 k12 C1
  have HW : Hid _ := HZ
  clear HZ
  rw [hR.out]
  clear hR
  refine seq_hid fun R hR => ?_
  go_wp2_with fail
  refine wp_region_lastG (by kernel_rfl) (by kernel_rfl) (by rfl) (by kernel_rfl) ?_
  intro C hC hG
  simp only [idleLast, idle]
  have a2 : Hid (∀ u, C u → u.cell? ⟨g, 2, none⟩ = some (.int .i64 P)) := fun u hu => (HW.out.step (hC u hu)).cell g (smL ⟨O, D, P, rec⟩) 48 (by simp) 2
  have a10 : Hid (∀ u, C u → u.cell? ⟨w.heap.size, 10, none⟩ = some (.int .u64 q.org)) := fun u hu => (HW.out.step (hC u hu)).cell w.heap.size (pkC q) 44 (by simp) 10
  have Z2 : Hid (∀ u, C u → Calls Try.prog 42 #[.int .u64 q.org, .int .u64 rec] u fun e w' => e = .returned (.int .i64 A) ∧ C w') := fun u hu => (C2.out u).mono fun e w' ⟨h1, h2⟩ => ⟨h1, h2 ▸ hu⟩
  have Z3 : Hid (∀ u, C u → Calls Try.prog 41 #[.int .i64 4222124650, .int .i64 A] u fun e w' => e = .returned (.int .i64 E) ∧ C w') := fun u hu => (C3.out u).mono fun e w' ⟨h1, h2⟩ => ⟨h1, hG u w' hu h2⟩
  have Z4 : Hid (∀ u, C u → Calls Try.prog 38 #[.int .i64 P, .int .i64 E] u fun e w' => e = .returned (.int .i64 F) ∧ C w') := fun u hu => (C4.out u).mono fun e w' ⟨h1, h2⟩ => ⟨h1, hG u w' hu h2⟩
  clear C2 C3 C4
  refine QW.out ?_
  repeat (first
    | (refine qa_valW (by rfl) ?_; apply Exists.intro; refine ⟨fun u hu => ?_, ?_⟩; ((have e2 := a2.out u hu; have e10 := a10.out u hu); go_simp; exact rfl); try go_simp)
    | (refine qa_callW (by rfl) 42 _ _ ?_ (fun u hu => Z2.out u hu) ?_; (focus (intro u hu; go_simp; first | done | exact rfl)); try go_simp)
    | (refine qa_callW (by rfl) 41 _ _ ?_ (fun u hu => Z3.out u hu) ?_; (focus (intro u hu; go_simp; first | done | exact rfl)); try go_simp)
    | (refine qa_callW (by rfl) 38 _ _ ?_ (fun u hu => Z4.out u hu) ?_; (focus (intro u hu; go_simp; first | done | exact rfl)); try go_simp))
  refine qw_nil ?_
  intro W18 hu
  have HX : Hid _ := HW.out.step hu
  clear a2 a10 Z2 Z3 Z4 hC hG hu HW
  refine wpOp_stL (cs := smL ⟨O, D, P, rec⟩) _ (by rfl) rfl 25 _ _ rfl (HX.out.bl (g, smL ⟨O, D, P, rec⟩, 48) (by simp)).1 2 (.int .i64 F) (by rfl) (by rfl) rfl (by kernel_rfl) (by simp [smL]) rfl ?_
  intro W19 hp hgw _
  have HW : Hid (OW w W19 p (rmC a s rq) 63 [(g, smL ⟨O, D, F, rec⟩, 48), (w.heap.size + 1, smL sm0, 48), (w.heap.size, pkC q, 44)]) := HX.out.own g (smL ⟨O, D, P, rec⟩) (smL ⟨O, D, F, rec⟩) 48 (by simp) (fun b hb => by
      simp only [List.mem_cons, List.not_mem_nil, or_false] at hb
      have hg := HG.out
      rcases hb with rfl | rfl | rfl
      · exact .inr rfl
      · exact .inl ⟨by simp, by show _ ≠ _; omega⟩
      · exact .inl ⟨by simp, by show _ ≠ _; omega⟩) hgw hp
  clear hp hgw HX
  go_wp2_with fail
  rw [hR.out]
  clear hR
  go_wp2_with fail
  refine wp_region_lastW (by kernel_rfl) (by kernel_rfl) (by rfl) (by kernel_rfl) ?_
  simp only [idleLast, idle]
  repeat (first
    | (refine qw_ld (by rfl) 48 _ rfl ⟨g, 0, none⟩ (by rfl) (smL ⟨O, D, F, rec⟩) _ Try.underlying48 rfl (by kernel_rfl) (fun u hu => ?_) ?_; (obtain ⟨nu, rfl⟩ := hu; exact HW.out.at g (smL ⟨O, D, F, rec⟩) 48 (by simp)))
    | (refine qw_step (fun K hK => ?_); go_simp; refine hK _ ?_; clear hK K))
  refine qw_nil ?_
  intro W17 hw'
  obtain ⟨nq, hw''⟩ := hw'
  have HY : Hid (OW w W17 p (rmC a s rq) 63 [(g, smL ⟨O, D, F, rec⟩, 48), (w.heap.size + 1, smL sm0, 48), (w.heap.size, pkC q, 44)]) := by rw [hw'']; exact HW.out.drewN nq
  clear hw'' HW
  refine wpOp_st (g := w.heap.size + 1) (T := 48) _ (by rfl) rfl _ _ rfl (smL ⟨O, D, F, rec⟩).toArray (by rfl) (by rfl) smZ (HY.out.bl (w.heap.size + 1, smL sm0, 48) (by simp)).1 (by kernel_rfl) (by rfl) (smL_one _) ?_
  go_wp2_with fail
  rw [hQ.out]
  have hz := HY.out.own (L' := []) (w.heap.size + 1) (smL sm0) (smL ⟨O, D, F, rec⟩) 48 (by simp) (fun b hb => by cases hb) (grownBy_row _ _ _) ((HY.out.bl (w.heap.size + 1, smL sm0, 48) (by simp)).1.row _)
  exact bodyPost_ret (v := .tuple #[.int .i64 0, .agg (smL ⟨O, D, F, rec⟩).toArray]) (results_tc Try.results16 _ _ (w.heap.size + 1) _ _ _ _ (by rfl) (by rfl) (setRow_heap _ _ _ _ _ _ (HY.out.bl (w.heap.size + 1, smL sm0, 48) (by simp)).1) Try.underlying48 rfl (by kernel_rfl)) rfl ⟨rfl, ⟨_, ⟨hz.bk, HO.out.2.2.1, HO.out.2.2.2.1, HO.out.2.2.2.2⟩⟩, hz.gr⟩
end Go.Proofs.Ytlggademcmkihaa
namespace Go.Proofs.Ytlggademcmkihaa
open Go Go.RowKit Go.Sort
set_option maxRecDepth 20000 in
set_option maxHeartbeats 2000000 in
theorem rh_zero (p : Nat) (a : As) (s : Ps) (rq : Int) (q : Pk) (rec : Int) (w W : World) (M : Smp) (S : Ps) (hM : M = smO q rec) (hS : S = { s with taken := true, last := q.xmt, heard := true, ex := q.xmt, ea := rec, t := tdO q }) (hkd : s.kind = a.kind ∧ s.key = a.key ∧ (s.req ≠ 0 → rq = s.req)) (hq : okP q) (h : OW w W p (rmC a s rq) 63 [(w.heap.size + 1, smL sm0, 48), (w.heap.size, pkC q, 44)]) (v1 v3 v4 v6 v7 v8 v11 v12 v13 v14 v15 v16 v17 v18 v19 v20 v21 v22 v23 v24 v25 v26 v27 v28 v29 v30 v31 v32 v33 v34 v35 v36 v37 v38 v39 v40 v41 v42 v43 v44 v45 v46 v47 v48 v49 v50 v51 v52 v53 v54 v55 v56 v57 v58 v59 v60 v61 v62 v63 v64 v65 v66 v67 v68 v69 v70 v71 v72 v73 v74 v75 v76 v77 v78 v79 v80 v81 v82 v83 v84 v85 v86 v87 v88 v89 v90 v91 v92 v93 v94 v95 v96 v97 v98 v99 v100 v101 v102 v103 v104 v105 v106 v107 v108 v109 v110 v111 v112 v113 v114 v115 v116 v117 v118 v119 v120 v121 v122 v123 v124 v125 v126 v127 v128 v129 v130 v131 v132 v133 v134 v135 v136 v137 v138 v139 v140 v141 v142 v143 v144 v145 v146 v147 v148 v149 v150 v151 v152 v153 v154 v155 v156 v157 v158 v159 v160 v161 v162 v163 v164 v165 v166 : Value) :
    Code.wp Try.prog (rhT Try.f16) (bodyPost Try.prog Try.f16 fun e w' => e = .returned (.tuple #[.int .i64 0, .agg (smL M).toArray]) ∧ (∃ rq', Rm w' p a S rq') ∧ w.grownBy w' (some p)) { tmps := #[.pointer (some ⟨p, 0, none⟩), v1, .int .u64 rec, v3, v4, .pointer (some ⟨w.heap.size, 0, none⟩), v6, v7, v8, .pointer (some ⟨w.heap.size + 1, 0, none⟩), .int .i64 0, v11, v12, v13, v14, v15, v16, v17, v18, v19, v20, v21, v22, v23, v24, v25, v26, v27, v28, v29, v30, v31, v32, v33, v34, v35, v36, v37, v38, v39, v40, v41, v42, v43, v44, v45, v46, v47, v48, v49, v50, v51, v52, v53, v54, v55, v56, v57, v58, v59, v60, v61, v62, v63, v64, v65, v66, v67, v68, v69, v70, v71, v72, v73, v74, v75, v76, v77, v78, v79, v80, v81, v82, v83, v84, v85, v86, v87, v88, v89, v90, v91, v92, v93, v94, v95, v96, v97, v98, v99, v100, v101, v102, v103, v104, v105, v106, v107, v108, v109, v110, v111, v112, v113, v114, v115, v116, v117, v118, v119, v120, v121, v122, v123, v124, v125, v126, v127, v128, v129, v130, v131, v132, v133, v134, v135, v136, v137, v138, v139, v140, v141, v142, v143, v144, v145, v146, v147, v148, v149, v150, v151, v152, v153, v154, v155, v156, v157, v158, v159, v160, v161, v162, v163, v164, v165, v166], defers := [] } W := by
  rw [hM, hS]
  clear hM hS
  have HO : Hid (okP q ∧ True ∧ s.kind = a.kind ∧ s.key = a.key ∧ (s.req ≠ 0 → rq = s.req)) := ⟨hq, trivial, hkd⟩
  have HW : Hid (OW w W p (rmC a s rq) 63 [(w.heap.size + 1, smL sm0, 48), (w.heap.size, pkC q, 44)]) := h
  clear hkd hq h
  unfold rhT Try.f16
  simp only [dropSeq]
  refine post_hid fun Q hQ => ?_
  have k12 : W.cell? ⟨w.heap.size, 12, none⟩ = some (.int .u64 q.xmt) := HW.out.cell w.heap.size (pkC q) 44 (by simp) 12
  have p15 : W.cell? ⟨p, 15, none⟩ = some (.bool s.taken) := HW.out.pc 15
  have p16 : W.cell? ⟨p, 16, none⟩ = some (.int .u64 s.last) := HW.out.pc 16
  have pf : ∀ j, W.frozen? ⟨p, j, none⟩ = false := HW.out.bk.frozen
  refine seq_hid fun R hR => ?_
  go_wp2
  have hpn : p ≠ w.heap.size := by have := HW.out.lp; omega
  have hpn' : w.heap.size ≠ p := Ne.symm hpn
  go_region_held3 (fun w' => w'.cell? ⟨w.heap.size, 12, none⟩ = some (.int .u64 q.xmt)) (first | with_reducible exact k12 | go_keep) (fail)
  have HW : Hid (OW w ((W.setCell ⟨p, 15, none⟩ (.bool true)).setCell ⟨p, 16, none⟩ (.int .u64 q.xmt)).drew p (rmC a { s with taken := true, last := q.xmt } rq) 63 [(w.heap.size + 1, smL sm0, 48), (w.heap.size, pkC q, 44)]) := ((HW.out.setP 15 (.bool true)).setP 16 (.int .u64 q.xmt)).drew
  generalize ((W.setCell ⟨p, 15, none⟩ (.bool true)).setCell ⟨p, 16, none⟩ (.int .u64 q.xmt)).drew = W8 at HW ⊢
  clear k12 p15 p16 pf hpn hpn'
  go_wp2_with fail
  rw [hR.out]
  clear hR
  have k12 : W8.cell? ⟨w.heap.size, 12, none⟩ = some (.int .u64 q.xmt) := HW.out.cell w.heap.size (pkC q) 44 (by simp) 12
  have p17 : W8.cell? ⟨p, 17, none⟩ = some (.bool s.heard) := HW.out.pc 17
  have p18 : W8.cell? ⟨p, 18, none⟩ = some (.int .u64 s.ex) := HW.out.pc 18
  have p19 : W8.cell? ⟨p, 19, none⟩ = some (.int .u64 s.ea) := HW.out.pc 19
  have pf : ∀ j, W8.frozen? ⟨p, j, none⟩ = false := HW.out.bk.frozen
  refine seq_hid fun R hR => ?_
  go_wp2_with fail
  rw [hR.out]
  clear hR
  refine seq_hid fun R hR => ?_
  go_wp2
  have hpn : p ≠ w.heap.size := by have := HW.out.lp; omega
  have hpn' : w.heap.size ≠ p := Ne.symm hpn
  go_region_held3 (fun w' => w'.cell? ⟨w.heap.size, 12, none⟩ = some (.int .u64 q.xmt)) (first | with_reducible exact k12 | go_keep) (fail)
  have HW : Hid (OW w (((W8.setCell ⟨p, 17, none⟩ (.bool true)).setCell ⟨p, 18, none⟩ (.int .u64 q.xmt)).setCell ⟨p, 19, none⟩ (.int .u64 rec)).drew p (rmC a { s with taken := true, last := q.xmt, heard := true, ex := q.xmt, ea := rec } rq) 63 [(w.heap.size + 1, smL sm0, 48), (w.heap.size, pkC q, 44)]) := (((HW.out.setP 17 (.bool true)).setP 18 (.int .u64 q.xmt)).setP 19 (.int .u64 rec)).drew
  generalize (((W8.setCell ⟨p, 17, none⟩ (.bool true)).setCell ⟨p, 18, none⟩ (.int .u64 q.xmt)).setCell ⟨p, 19, none⟩ (.int .u64 rec)).drew = W9 at HW ⊢
  clear k12 p17 p18 p19 pf hpn hpn'
  go_wp2_with fail
  rw [hR.out]
  clear hR
  refine seq_hid fun R hR => ?_
  have k0 : W9.cell? ⟨w.heap.size, 0, none⟩ = some (.int .i64 q.leap) := HW.out.cell w.heap.size (pkC q) 44 (by simp) 0
  have k3 : W9.cell? ⟨w.heap.size, 3, none⟩ = some (.int .i64 q.str) := HW.out.cell w.heap.size (pkC q) 44 (by simp) 3
  have k4 : W9.cell? ⟨w.heap.size, 4, none⟩ = some (.int .i64 q.poll) := HW.out.cell w.heap.size (pkC q) 44 (by simp) 4
  have k5 : W9.cell? ⟨w.heap.size, 5, none⟩ = some (.int .i64 q.prec) := HW.out.cell w.heap.size (pkC q) 44 (by simp) 5
  have k6 : W9.cell? ⟨w.heap.size, 6, none⟩ = some (.int .i64 q.del) := HW.out.cell w.heap.size (pkC q) 44 (by simp) 6
  have k7 : W9.cell? ⟨w.heap.size, 7, none⟩ = some (.int .i64 q.dis) := HW.out.cell w.heap.size (pkC q) 44 (by simp) 7
  have k8 : W9.cell? ⟨w.heap.size, 8, none⟩ = some (.int .u32 q.rid) := HW.out.cell w.heap.size (pkC q) 44 (by simp) 8
  have k9 : W9.cell? ⟨w.heap.size, 9, none⟩ = some (.int .u64 q.ref) := HW.out.cell w.heap.size (pkC q) 44 (by simp) 9
  go_wp2_with (refine step_opeer rfl 58 _ _ rfl HW.out 20 (tdL (tdO q)) (rmC a { s with taken := true, last := q.xmt, heard := true, ex := q.xmt, ea := rec, t := tdO q } rq) (by rfl) (by rfl) (by kernel_rfl) (by simp [rmC, asL, tdL]) (by simp [tdL, Value.oneCell']) rfl ?_; intro W10 hw10; have HX : Hid _ := hw10; clear hw10)
  have eR : R = (rhU Try.f16) := by rw [hR.out]; unfold rhU Try.f16; simp only [dropSeq]
  rw [eR, hQ.out]
  have hs := HO.out.2.2
  by_cases hm : q.mode = 5
  · exact rh_five p a { s with taken := true, last := q.xmt, heard := true, ex := q.xmt, ea := rec, t := tdO q } rq q rec w W10 _ _ hm rfl rfl hs HO.out.1 HX.out _ _ _ _ _ _ _ _ _ _ _ _ _ _ _ _ _ _ _ _ _ _ _ _ _ _ _ _ _ _ _ _ _ _ _ _ _ _ _ _ _ _ _ _ _ _ _ _ _ _ _ _ _ _ _ _ _ _ _ _ _ _ _ _ _ _ _ _ _ _ _ _ _ _ _ _ _ _ _ _ _ _ _ _ _ _ _ _ _ _ _ _ _ _ _ _ _ _ _ _ _ _ _ _ _ _ _ _ _ _ _ _ _ _ _ _ _ _ _ _ _ _ _ _ _ _ _ _ _ _ _ _ _ _ _ _ _ _ _ _ _ _ _ _ _ _ _ _ _ _ _ _ _ _ _ _ _ _ _ _ _ _
  · exact rh_oth p a { s with taken := true, last := q.xmt, heard := true, ex := q.xmt, ea := rec, t := tdO q } rq q rec w W10 _ _ hm rfl rfl hs HO.out.1 HX.out _ _ _ _ _ _ _ _ _ _ _ _ _ _ _ _ _ _ _ _ _ _ _ _ _ _ _ _ _ _ _ _ _ _ _ _ _ _ _ _ _ _ _ _ _ _ _ _ _ _ _ _ _ _ _ _ _ _ _ _ _ _ _ _ _ _ _ _ _ _ _ _ _ _ _ _ _ _ _ _ _ _ _ _ _ _ _ _ _ _ _ _ _ _ _ _ _ _ _ _ _ _ _ _ _ _ _ _ _ _ _ _ _ _ _ _ _ _ _ _ _ _ _ _ _ _ _ _ _ _ _ _ _ _ _ _ _ _ _ _ _ _ _ _ _ _ _ _ _ _ _ _ _ _ _ _ _ _ _ _ _ _
end Go.Proofs.Ytlggademcmkihaa
/- The reference's Hear, whole. -/
namespace Go.Proofs.Ytlggademcmkihaa
open Go Go.RowKit Go.Sort
set_option maxRecDepth 20000 in
set_option maxHeartbeats 2000000 in
theorem rhear_0 (p : Nat) (a : As) (s : Ps) (rq : Int) (q : Pk) (rec : Int) (au : Bool) (w : World) (h : Rm w p a s rq) (hs : okS s) (hq : okP q) (hV : vdI s q au = 0) : Calls Try.prog 16 #[.pointer (some ⟨p, 0, none⟩), .agg (pkC q).toArray, .int .u64 rec, .bool au] w fun e w' => e = .returned (.tuple #[.int .i64 0, .agg (smL (smO q rec)).toArray]) ∧ (∃ rq', Rm w' p a { s with taken := true, last := q.xmt, heard := true, ex := q.xmt, ea := rec, t := tdO q, req := 0 } rq') ∧ w.grownBy w' (some p) := by
  have C1 : Hid (∀ u, Rm u p a s rq → Calls Try.prog 37 #[.pointer (some ⟨p, 0, none⟩), .agg (pkC q).toArray, .bool au] u fun e w' => e = .returned (.int .i64 0) ∧ Below u.heap.size u w') := fun u hu => by rw [← hV]; exact rverdict_any p a s rq q au u hu hs hq
  have HP : Hid (Rm w p a s rq ∧ okS s ∧ okP q) := ⟨h, hs, hq⟩
  clear h hs hV hq
  go_enter Try.func16, Try.ntmps16
  refine post_hid fun Q hQ => ?_
  refine seq_hid fun R hR => ?_
  go_wp2
  refine world_hid fun W hW => ?_
  have HA : Hid (OW w W p (rmC a s rq) 63 [(w.heap.size + 1, smL sm0, 48), (w.heap.size, pkC q, 44)]) := by
    show OW _ _ _ _ _ _
    have h := ((OW.new HP.out.1.bk).push (pkC q) 44).push (smL sm0) 48
    rw [size_alloc1] at h
    rw [hW.out]
    exact h
  clear hW
  rw [hR.out]
  clear hR
  refine seq_hid fun R hR => ?_
  go_wp2_with (first
    | (refine step_ldat 44 _ rfl rfl ⟨w.heap.size, 0, none⟩ (by rfl) (pkC q) _ Try.underlying44 rfl (by kernel_rfl) (HA.out.at w.heap.size (pkC q) 44 (by simp)) ?_)
    | (go_at_call 37; refine (C1.out _ ⟨HA.out.bk, HP.out.1.kd, HP.out.1.ky, HP.out.1.rq⟩).mono ?_; rintro e w1 ⟨rfl, hb1⟩; have HW : Hid (OW w w1 p (rmC a s rq) 63 [(w.heap.size + 1, smL sm0, 48), (w.heap.size, pkC q, 44)]) := HA.out.step hb1; clear hb1))
  rw [hR.out]
  clear hR HA C1
  have p13 : w1.cell? ⟨p, 13, none⟩ = some (.bool (decide (s.req ≠ 0))) := HW.out.pc 13
  have pf : ∀ j, w1.frozen? ⟨p, j, none⟩ = false := HW.out.bk.frozen
  refine seq_hid fun R hR => ?_
  go_wp2_with fail
  have HX : Hid (OW w (w1.setCell ⟨p, 13, none⟩ (.bool false)) p (rmC a { s with req := 0 } rq) 63 [(w.heap.size + 1, smL sm0, 48), (w.heap.size, pkC q, 44)]) := HW.out.setP 13 (.bool false)
  generalize w1.setCell ⟨p, 13, none⟩ (.bool false) = w2 at HX ⊢
  clear p13 pf HW
  have HW : Hid _ := HX.out
  clear HX
  rw [hR.out]
  clear hR
  refine seq_hid fun R hR => ?_
  go_wp2_with fail
  have eR : R = (rhT Try.f16) := by rw [hR.out]; unfold rhT Try.f16; simp only [dropSeq]
  rw [eR, hQ.out]
  exact rh_zero p a { s with req := 0 } rq q rec w w2 _ _ rfl rfl ⟨HP.out.1.kd, HP.out.1.ky, fun h => absurd rfl h⟩ HP.out.2.2 HW.out _ _ _ _ _ _ _ _ _ _ _ _ _ _ _ _ _ _ _ _ _ _ _ _ _ _ _ _ _ _ _ _ _ _ _ _ _ _ _ _ _ _ _ _ _ _ _ _ _ _ _ _ _ _ _ _ _ _ _ _ _ _ _ _ _ _ _ _ _ _ _ _ _ _ _ _ _ _ _ _ _ _ _ _ _ _ _ _ _ _ _ _ _ _ _ _ _ _ _ _ _ _ _ _ _ _ _ _ _ _ _ _ _ _ _ _ _ _ _ _ _ _ _ _ _ _ _ _ _ _ _ _ _ _ _ _ _ _ _ _ _ _ _ _ _ _ _ _ _ _ _ _ _ _ _ _ _ _ _ _ _ _
set_option maxRecDepth 20000 in
set_option maxHeartbeats 2000000 in
theorem rhear_6 (p : Nat) (a : As) (s : Ps) (rq : Int) (q : Pk) (rec : Int) (au : Bool) (w : World) (h : Rm w p a s rq) (hs : okS s) (hq : okP q) (hV : vdI s q au = 6) : Calls Try.prog 16 #[.pointer (some ⟨p, 0, none⟩), .agg (pkC q).toArray, .int .u64 rec, .bool au] w fun e w' => e = .returned (.tuple #[.int .i64 6, .agg (smL sm0).toArray]) ∧ (∃ rq', Rm w' p a { s with taken := true, last := q.xmt, req := 0 } rq') ∧ w.grownBy w' (some p) := by
  have C1 : Hid (∀ u, Rm u p a s rq → Calls Try.prog 37 #[.pointer (some ⟨p, 0, none⟩), .agg (pkC q).toArray, .bool au] u fun e w' => e = .returned (.int .i64 6) ∧ Below u.heap.size u w') := fun u hu => by rw [← hV]; exact rverdict_any p a s rq q au u hu hs hq
  have HP : Hid (Rm w p a s rq ∧ okS s ∧ okP q) := ⟨h, hs, hq⟩
  clear h hs hV hq
  go_enter Try.func16, Try.ntmps16
  refine post_hid fun Q hQ => ?_
  refine seq_hid fun R hR => ?_
  go_wp2
  refine world_hid fun W hW => ?_
  have HA : Hid (OW w W p (rmC a s rq) 63 [(w.heap.size + 1, smL sm0, 48), (w.heap.size, pkC q, 44)]) := by
    show OW _ _ _ _ _ _
    have h := ((OW.new HP.out.1.bk).push (pkC q) 44).push (smL sm0) 48
    rw [size_alloc1] at h
    rw [hW.out]
    exact h
  clear hW
  rw [hR.out]
  clear hR
  refine seq_hid fun R hR => ?_
  go_wp2_with (first
    | (refine step_ldat 44 _ rfl rfl ⟨w.heap.size, 0, none⟩ (by rfl) (pkC q) _ Try.underlying44 rfl (by kernel_rfl) (HA.out.at w.heap.size (pkC q) 44 (by simp)) ?_)
    | (go_at_call 37; refine (C1.out _ ⟨HA.out.bk, HP.out.1.kd, HP.out.1.ky, HP.out.1.rq⟩).mono ?_; rintro e w1 ⟨rfl, hb1⟩; have HW : Hid (OW w w1 p (rmC a s rq) 63 [(w.heap.size + 1, smL sm0, 48), (w.heap.size, pkC q, 44)]) := HA.out.step hb1; clear hb1))
  rw [hR.out]
  clear hR HA C1
  have p13 : w1.cell? ⟨p, 13, none⟩ = some (.bool (decide (s.req ≠ 0))) := HW.out.pc 13
  have pf : ∀ j, w1.frozen? ⟨p, j, none⟩ = false := HW.out.bk.frozen
  refine seq_hid fun R hR => ?_
  go_wp2_with fail
  have HX : Hid (OW w (w1.setCell ⟨p, 13, none⟩ (.bool false)) p (rmC a { s with req := 0 } rq) 63 [(w.heap.size + 1, smL sm0, 48), (w.heap.size, pkC q, 44)]) := HW.out.setP 13 (.bool false)
  generalize w1.setCell ⟨p, 13, none⟩ (.bool false) = w2 at HX ⊢
  clear p13 pf HW
  have HW : Hid _ := HX.out
  clear HX
  rw [hR.out]
  clear hR
  refine seq_hid fun R hR => ?_
  go_wp2_with fail
  have eR : R = (rhT Try.f16) := by rw [hR.out]; unfold rhT Try.f16; simp only [dropSeq]
  rw [eR, hQ.out]
  exact rh_six p a { s with req := 0 } rq q rec w w2 _ _ rfl rfl ⟨HP.out.1.kd, HP.out.1.ky, fun h => absurd rfl h⟩ HP.out.2.2 HW.out _ _ _ _ _ _ _ _ _ _ _ _ _ _ _ _ _ _ _ _ _ _ _ _ _ _ _ _ _ _ _ _ _ _ _ _ _ _ _ _ _ _ _ _ _ _ _ _ _ _ _ _ _ _ _ _ _ _ _ _ _ _ _ _ _ _ _ _ _ _ _ _ _ _ _ _ _ _ _ _ _ _ _ _ _ _ _ _ _ _ _ _ _ _ _ _ _ _ _ _ _ _ _ _ _ _ _ _ _ _ _ _ _ _ _ _ _ _ _ _ _ _ _ _ _ _ _ _ _ _ _ _ _ _ _ _ _ _ _ _ _ _ _ _ _ _ _ _ _ _ _ _ _ _ _ _ _ _ _ _ _ _
set_option maxRecDepth 20000 in
set_option maxHeartbeats 2000000 in
theorem rhear_7 (p : Nat) (a : As) (s : Ps) (rq : Int) (q : Pk) (rec : Int) (au : Bool) (w : World) (h : Rm w p a s rq) (hs : okS s) (hq : okP q) (hV : vdI s q au = 7) : Calls Try.prog 16 #[.pointer (some ⟨p, 0, none⟩), .agg (pkC q).toArray, .int .u64 rec, .bool au] w fun e w' => e = .returned (.tuple #[.int .i64 7, .agg (smL sm0).toArray]) ∧ (∃ rq', Rm w' p a { s with req := 0 } rq') ∧ w.grownBy w' (some p) := by
  have C1 : Hid (∀ u, Rm u p a s rq → Calls Try.prog 37 #[.pointer (some ⟨p, 0, none⟩), .agg (pkC q).toArray, .bool au] u fun e w' => e = .returned (.int .i64 7) ∧ Below u.heap.size u w') := fun u hu => by rw [← hV]; exact rverdict_any p a s rq q au u hu hs hq
  have HP : Hid (Rm w p a s rq ∧ okS s ∧ okP q) := ⟨h, hs, hq⟩
  clear h hs hV hq
  go_enter Try.func16, Try.ntmps16
  refine post_hid fun Q hQ => ?_
  refine seq_hid fun R hR => ?_
  go_wp2
  refine world_hid fun W hW => ?_
  have HA : Hid (OW w W p (rmC a s rq) 63 [(w.heap.size + 1, smL sm0, 48), (w.heap.size, pkC q, 44)]) := by
    show OW _ _ _ _ _ _
    have h := ((OW.new HP.out.1.bk).push (pkC q) 44).push (smL sm0) 48
    rw [size_alloc1] at h
    rw [hW.out]
    exact h
  clear hW
  rw [hR.out]
  clear hR
  refine seq_hid fun R hR => ?_
  go_wp2_with (first
    | (refine step_ldat 44 _ rfl rfl ⟨w.heap.size, 0, none⟩ (by rfl) (pkC q) _ Try.underlying44 rfl (by kernel_rfl) (HA.out.at w.heap.size (pkC q) 44 (by simp)) ?_)
    | (go_at_call 37; refine (C1.out _ ⟨HA.out.bk, HP.out.1.kd, HP.out.1.ky, HP.out.1.rq⟩).mono ?_; rintro e w1 ⟨rfl, hb1⟩; have HW : Hid (OW w w1 p (rmC a s rq) 63 [(w.heap.size + 1, smL sm0, 48), (w.heap.size, pkC q, 44)]) := HA.out.step hb1; clear hb1))
  rw [hR.out]
  clear hR HA C1
  have p13 : w1.cell? ⟨p, 13, none⟩ = some (.bool (decide (s.req ≠ 0))) := HW.out.pc 13
  have pf : ∀ j, w1.frozen? ⟨p, j, none⟩ = false := HW.out.bk.frozen
  refine seq_hid fun R hR => ?_
  go_wp2_with fail
  have HX : Hid (OW w (w1.setCell ⟨p, 13, none⟩ (.bool false)) p (rmC a { s with req := 0 } rq) 63 [(w.heap.size + 1, smL sm0, 48), (w.heap.size, pkC q, 44)]) := HW.out.setP 13 (.bool false)
  generalize w1.setCell ⟨p, 13, none⟩ (.bool false) = w2 at HX ⊢
  clear p13 pf HW
  have HW : Hid _ := HX.out
  clear HX
  rw [hR.out]
  clear hR
  refine seq_hid fun R hR => ?_
  go_wp2_with fail
  have eR : R = (rhT Try.f16) := by rw [hR.out]; unfold rhT Try.f16; simp only [dropSeq]
  rw [eR, hQ.out]
  exact rh_end p a { s with req := 0 } rq q rec 7 w w2 _ _ (by decide) rfl rfl ⟨HP.out.1.kd, HP.out.1.ky, fun h => absurd rfl h⟩ HP.out.2.2 HW.out _ _ _ _ _ _ _ _ _ _ _ _ _ _ _ _ _ _ _ _ _ _ _ _ _ _ _ _ _ _ _ _ _ _ _ _ _ _ _ _ _ _ _ _ _ _ _ _ _ _ _ _ _ _ _ _ _ _ _ _ _ _ _ _ _ _ _ _ _ _ _ _ _ _ _ _ _ _ _ _ _ _ _ _ _ _ _ _ _ _ _ _ _ _ _ _ _ _ _ _ _ _ _ _ _ _ _ _ _ _ _ _ _ _ _ _ _ _ _ _ _ _ _ _ _ _ _ _ _ _ _ _ _ _ _ _ _ _ _ _ _ _ _ _ _ _ _ _ _ _ _ _ _ _ _ _ _ _ _ _ _ _
set_option maxRecDepth 20000 in
set_option maxHeartbeats 2000000 in
theorem rhear_8 (p : Nat) (a : As) (s : Ps) (rq : Int) (q : Pk) (rec : Int) (au : Bool) (w : World) (h : Rm w p a s rq) (hs : okS s) (hq : okP q) (hV : vdI s q au = 8) : Calls Try.prog 16 #[.pointer (some ⟨p, 0, none⟩), .agg (pkC q).toArray, .int .u64 rec, .bool au] w fun e w' => e = .returned (.tuple #[.int .i64 8, .agg (smL sm0).toArray]) ∧ (∃ rq', Rm w' p a { s with req := 0 } rq') ∧ w.grownBy w' (some p) := by
  have C1 : Hid (∀ u, Rm u p a s rq → Calls Try.prog 37 #[.pointer (some ⟨p, 0, none⟩), .agg (pkC q).toArray, .bool au] u fun e w' => e = .returned (.int .i64 8) ∧ Below u.heap.size u w') := fun u hu => by rw [← hV]; exact rverdict_any p a s rq q au u hu hs hq
  have HP : Hid (Rm w p a s rq ∧ okS s ∧ okP q) := ⟨h, hs, hq⟩
  clear h hs hV hq
  go_enter Try.func16, Try.ntmps16
  refine post_hid fun Q hQ => ?_
  refine seq_hid fun R hR => ?_
  go_wp2
  refine world_hid fun W hW => ?_
  have HA : Hid (OW w W p (rmC a s rq) 63 [(w.heap.size + 1, smL sm0, 48), (w.heap.size, pkC q, 44)]) := by
    show OW _ _ _ _ _ _
    have h := ((OW.new HP.out.1.bk).push (pkC q) 44).push (smL sm0) 48
    rw [size_alloc1] at h
    rw [hW.out]
    exact h
  clear hW
  rw [hR.out]
  clear hR
  refine seq_hid fun R hR => ?_
  go_wp2_with (first
    | (refine step_ldat 44 _ rfl rfl ⟨w.heap.size, 0, none⟩ (by rfl) (pkC q) _ Try.underlying44 rfl (by kernel_rfl) (HA.out.at w.heap.size (pkC q) 44 (by simp)) ?_)
    | (go_at_call 37; refine (C1.out _ ⟨HA.out.bk, HP.out.1.kd, HP.out.1.ky, HP.out.1.rq⟩).mono ?_; rintro e w1 ⟨rfl, hb1⟩; have HW : Hid (OW w w1 p (rmC a s rq) 63 [(w.heap.size + 1, smL sm0, 48), (w.heap.size, pkC q, 44)]) := HA.out.step hb1; clear hb1))
  rw [hR.out]
  clear hR HA C1
  have p13 : w1.cell? ⟨p, 13, none⟩ = some (.bool (decide (s.req ≠ 0))) := HW.out.pc 13
  have pf : ∀ j, w1.frozen? ⟨p, j, none⟩ = false := HW.out.bk.frozen
  refine seq_hid fun R hR => ?_
  go_wp2_with fail
  have HX : Hid (OW w (w1.setCell ⟨p, 13, none⟩ (.bool false)) p (rmC a { s with req := 0 } rq) 63 [(w.heap.size + 1, smL sm0, 48), (w.heap.size, pkC q, 44)]) := HW.out.setP 13 (.bool false)
  generalize w1.setCell ⟨p, 13, none⟩ (.bool false) = w2 at HX ⊢
  clear p13 pf HW
  have HW : Hid _ := HX.out
  clear HX
  rw [hR.out]
  clear hR
  refine seq_hid fun R hR => ?_
  go_wp2_with fail
  have eR : R = (rhT Try.f16) := by rw [hR.out]; unfold rhT Try.f16; simp only [dropSeq]
  rw [eR, hQ.out]
  exact rh_end p a { s with req := 0 } rq q rec 8 w w2 _ _ (by decide) rfl rfl ⟨HP.out.1.kd, HP.out.1.ky, fun h => absurd rfl h⟩ HP.out.2.2 HW.out _ _ _ _ _ _ _ _ _ _ _ _ _ _ _ _ _ _ _ _ _ _ _ _ _ _ _ _ _ _ _ _ _ _ _ _ _ _ _ _ _ _ _ _ _ _ _ _ _ _ _ _ _ _ _ _ _ _ _ _ _ _ _ _ _ _ _ _ _ _ _ _ _ _ _ _ _ _ _ _ _ _ _ _ _ _ _ _ _ _ _ _ _ _ _ _ _ _ _ _ _ _ _ _ _ _ _ _ _ _ _ _ _ _ _ _ _ _ _ _ _ _ _ _ _ _ _ _ _ _ _ _ _ _ _ _ _ _ _ _ _ _ _ _ _ _ _ _ _ _ _ _ _ _ _ _ _ _ _ _ _ _
set_option maxRecDepth 20000 in
set_option maxHeartbeats 2000000 in
theorem rhear_9 (p : Nat) (a : As) (s : Ps) (rq : Int) (q : Pk) (rec : Int) (au : Bool) (w : World) (h : Rm w p a s rq) (hs : okS s) (hq : okP q) (hV : vdI s q au = 9) : Calls Try.prog 16 #[.pointer (some ⟨p, 0, none⟩), .agg (pkC q).toArray, .int .u64 rec, .bool au] w fun e w' => e = .returned (.tuple #[.int .i64 9, .agg (smL sm0).toArray]) ∧ (∃ rq', Rm w' p a { s with req := 0 } rq') ∧ w.grownBy w' (some p) := by
  have C1 : Hid (∀ u, Rm u p a s rq → Calls Try.prog 37 #[.pointer (some ⟨p, 0, none⟩), .agg (pkC q).toArray, .bool au] u fun e w' => e = .returned (.int .i64 9) ∧ Below u.heap.size u w') := fun u hu => by rw [← hV]; exact rverdict_any p a s rq q au u hu hs hq
  have HP : Hid (Rm w p a s rq ∧ okS s ∧ okP q) := ⟨h, hs, hq⟩
  clear h hs hV hq
  go_enter Try.func16, Try.ntmps16
  refine post_hid fun Q hQ => ?_
  refine seq_hid fun R hR => ?_
  go_wp2
  refine world_hid fun W hW => ?_
  have HA : Hid (OW w W p (rmC a s rq) 63 [(w.heap.size + 1, smL sm0, 48), (w.heap.size, pkC q, 44)]) := by
    show OW _ _ _ _ _ _
    have h := ((OW.new HP.out.1.bk).push (pkC q) 44).push (smL sm0) 48
    rw [size_alloc1] at h
    rw [hW.out]
    exact h
  clear hW
  rw [hR.out]
  clear hR
  refine seq_hid fun R hR => ?_
  go_wp2_with (first
    | (refine step_ldat 44 _ rfl rfl ⟨w.heap.size, 0, none⟩ (by rfl) (pkC q) _ Try.underlying44 rfl (by kernel_rfl) (HA.out.at w.heap.size (pkC q) 44 (by simp)) ?_)
    | (go_at_call 37; refine (C1.out _ ⟨HA.out.bk, HP.out.1.kd, HP.out.1.ky, HP.out.1.rq⟩).mono ?_; rintro e w1 ⟨rfl, hb1⟩; have HW : Hid (OW w w1 p (rmC a s rq) 63 [(w.heap.size + 1, smL sm0, 48), (w.heap.size, pkC q, 44)]) := HA.out.step hb1; clear hb1))
  rw [hR.out]
  clear hR HA C1
  have p13 : w1.cell? ⟨p, 13, none⟩ = some (.bool (decide (s.req ≠ 0))) := HW.out.pc 13
  have pf : ∀ j, w1.frozen? ⟨p, j, none⟩ = false := HW.out.bk.frozen
  refine seq_hid fun R hR => ?_
  go_wp2_with fail
  have HX : Hid (OW w (w1.setCell ⟨p, 13, none⟩ (.bool false)) p (rmC a { s with req := 0 } rq) 63 [(w.heap.size + 1, smL sm0, 48), (w.heap.size, pkC q, 44)]) := HW.out.setP 13 (.bool false)
  generalize w1.setCell ⟨p, 13, none⟩ (.bool false) = w2 at HX ⊢
  clear p13 pf HW
  have HW : Hid _ := HX.out
  clear HX
  rw [hR.out]
  clear hR
  refine seq_hid fun R hR => ?_
  go_wp2_with fail
  have eR : R = (rhT Try.f16) := by rw [hR.out]; unfold rhT Try.f16; simp only [dropSeq]
  rw [eR, hQ.out]
  exact rh_end p a { s with req := 0 } rq q rec 9 w w2 _ _ (by decide) rfl rfl ⟨HP.out.1.kd, HP.out.1.ky, fun h => absurd rfl h⟩ HP.out.2.2 HW.out _ _ _ _ _ _ _ _ _ _ _ _ _ _ _ _ _ _ _ _ _ _ _ _ _ _ _ _ _ _ _ _ _ _ _ _ _ _ _ _ _ _ _ _ _ _ _ _ _ _ _ _ _ _ _ _ _ _ _ _ _ _ _ _ _ _ _ _ _ _ _ _ _ _ _ _ _ _ _ _ _ _ _ _ _ _ _ _ _ _ _ _ _ _ _ _ _ _ _ _ _ _ _ _ _ _ _ _ _ _ _ _ _ _ _ _ _ _ _ _ _ _ _ _ _ _ _ _ _ _ _ _ _ _ _ _ _ _ _ _ _ _ _ _ _ _ _ _ _ _ _ _ _ _ _ _ _ _ _ _ _ _
set_option maxRecDepth 20000 in
set_option maxHeartbeats 2000000 in
theorem rhear_10 (p : Nat) (a : As) (s : Ps) (rq : Int) (q : Pk) (rec : Int) (au : Bool) (w : World) (h : Rm w p a s rq) (hs : okS s) (hq : okP q) (hV : vdI s q au = 10) : Calls Try.prog 16 #[.pointer (some ⟨p, 0, none⟩), .agg (pkC q).toArray, .int .u64 rec, .bool au] w fun e w' => e = .returned (.tuple #[.int .i64 10, .agg (smL sm0).toArray]) ∧ (∃ rq', Rm w' p a { s with req := 0 } rq') ∧ w.grownBy w' (some p) := by
  have C1 : Hid (∀ u, Rm u p a s rq → Calls Try.prog 37 #[.pointer (some ⟨p, 0, none⟩), .agg (pkC q).toArray, .bool au] u fun e w' => e = .returned (.int .i64 10) ∧ Below u.heap.size u w') := fun u hu => by rw [← hV]; exact rverdict_any p a s rq q au u hu hs hq
  have HP : Hid (Rm w p a s rq ∧ okS s ∧ okP q) := ⟨h, hs, hq⟩
  clear h hs hV hq
  go_enter Try.func16, Try.ntmps16
  refine post_hid fun Q hQ => ?_
  refine seq_hid fun R hR => ?_
  go_wp2
  refine world_hid fun W hW => ?_
  have HA : Hid (OW w W p (rmC a s rq) 63 [(w.heap.size + 1, smL sm0, 48), (w.heap.size, pkC q, 44)]) := by
    show OW _ _ _ _ _ _
    have h := ((OW.new HP.out.1.bk).push (pkC q) 44).push (smL sm0) 48
    rw [size_alloc1] at h
    rw [hW.out]
    exact h
  clear hW
  rw [hR.out]
  clear hR
  refine seq_hid fun R hR => ?_
  go_wp2_with (first
    | (refine step_ldat 44 _ rfl rfl ⟨w.heap.size, 0, none⟩ (by rfl) (pkC q) _ Try.underlying44 rfl (by kernel_rfl) (HA.out.at w.heap.size (pkC q) 44 (by simp)) ?_)
    | (go_at_call 37; refine (C1.out _ ⟨HA.out.bk, HP.out.1.kd, HP.out.1.ky, HP.out.1.rq⟩).mono ?_; rintro e w1 ⟨rfl, hb1⟩; have HW : Hid (OW w w1 p (rmC a s rq) 63 [(w.heap.size + 1, smL sm0, 48), (w.heap.size, pkC q, 44)]) := HA.out.step hb1; clear hb1))
  rw [hR.out]
  clear hR HA C1
  have p13 : w1.cell? ⟨p, 13, none⟩ = some (.bool (decide (s.req ≠ 0))) := HW.out.pc 13
  have pf : ∀ j, w1.frozen? ⟨p, j, none⟩ = false := HW.out.bk.frozen
  refine seq_hid fun R hR => ?_
  go_wp2_with fail
  have HX : Hid (OW w (w1.setCell ⟨p, 13, none⟩ (.bool false)) p (rmC a { s with req := 0 } rq) 63 [(w.heap.size + 1, smL sm0, 48), (w.heap.size, pkC q, 44)]) := HW.out.setP 13 (.bool false)
  generalize w1.setCell ⟨p, 13, none⟩ (.bool false) = w2 at HX ⊢
  clear p13 pf HW
  have HW : Hid _ := HX.out
  clear HX
  rw [hR.out]
  clear hR
  refine seq_hid fun R hR => ?_
  go_wp2_with fail
  have eR : R = (rhT Try.f16) := by rw [hR.out]; unfold rhT Try.f16; simp only [dropSeq]
  rw [eR, hQ.out]
  exact rh_end p a { s with req := 0 } rq q rec 10 w w2 _ _ (by decide) rfl rfl ⟨HP.out.1.kd, HP.out.1.ky, fun h => absurd rfl h⟩ HP.out.2.2 HW.out _ _ _ _ _ _ _ _ _ _ _ _ _ _ _ _ _ _ _ _ _ _ _ _ _ _ _ _ _ _ _ _ _ _ _ _ _ _ _ _ _ _ _ _ _ _ _ _ _ _ _ _ _ _ _ _ _ _ _ _ _ _ _ _ _ _ _ _ _ _ _ _ _ _ _ _ _ _ _ _ _ _ _ _ _ _ _ _ _ _ _ _ _ _ _ _ _ _ _ _ _ _ _ _ _ _ _ _ _ _ _ _ _ _ _ _ _ _ _ _ _ _ _ _ _ _ _ _ _ _ _ _ _ _ _ _ _ _ _ _ _ _ _ _ _ _ _ _ _ _ _ _ _ _ _ _ _ _ _ _ _ _
set_option maxRecDepth 20000 in
set_option maxHeartbeats 2000000 in
theorem rhear_1 (p : Nat) (a : As) (s : Ps) (rq : Int) (q : Pk) (rec : Int) (au : Bool) (w : World) (h : Rm w p a s rq) (hs : okS s) (hq : okP q) (hV : vdI s q au = 1) : Calls Try.prog 16 #[.pointer (some ⟨p, 0, none⟩), .agg (pkC q).toArray, .int .u64 rec, .bool au] w fun e w' => e = .returned (.tuple #[.int .i64 1, .agg (smL sm0).toArray]) ∧ (∃ rq', Rm w' p a s rq') ∧ w.grownBy w' (some p) := by
  have C1 : Hid (∀ u, Rm u p a s rq → Calls Try.prog 37 #[.pointer (some ⟨p, 0, none⟩), .agg (pkC q).toArray, .bool au] u fun e w' => e = .returned (.int .i64 1) ∧ Below u.heap.size u w') := fun u hu => by rw [← hV]; exact rverdict_any p a s rq q au u hu hs hq
  have HP : Hid (Rm w p a s rq ∧ okS s ∧ okP q) := ⟨h, hs, hq⟩
  clear h hs hV hq
  go_enter Try.func16, Try.ntmps16
  refine post_hid fun Q hQ => ?_
  refine seq_hid fun R hR => ?_
  go_wp2
  refine world_hid fun W hW => ?_
  have HA : Hid (OW w W p (rmC a s rq) 63 [(w.heap.size + 1, smL sm0, 48), (w.heap.size, pkC q, 44)]) := by
    show OW _ _ _ _ _ _
    have h := ((OW.new HP.out.1.bk).push (pkC q) 44).push (smL sm0) 48
    rw [size_alloc1] at h
    rw [hW.out]
    exact h
  clear hW
  rw [hR.out]
  clear hR
  refine seq_hid fun R hR => ?_
  go_wp2_with (first
    | (refine step_ldat 44 _ rfl rfl ⟨w.heap.size, 0, none⟩ (by rfl) (pkC q) _ Try.underlying44 rfl (by kernel_rfl) (HA.out.at w.heap.size (pkC q) 44 (by simp)) ?_)
    | (go_at_call 37; refine (C1.out _ ⟨HA.out.bk, HP.out.1.kd, HP.out.1.ky, HP.out.1.rq⟩).mono ?_; rintro e w1 ⟨rfl, hb1⟩; have HW : Hid (OW w w1 p (rmC a s rq) 63 [(w.heap.size + 1, smL sm0, 48), (w.heap.size, pkC q, 44)]) := HA.out.step hb1; clear hb1))
  rw [hR.out]
  clear hR HA C1
  refine seq_hid fun R hR => ?_
  go_wp2_with fail
  rw [hR.out]
  clear hR
  refine seq_hid fun R hR => ?_
  go_wp2_with fail
  have eR : R = (rhT Try.f16) := by rw [hR.out]; unfold rhT Try.f16; simp only [dropSeq]
  rw [eR, hQ.out]
  exact rh_end p a s rq q rec 1 w w1 _ _ (by decide) rfl rfl ⟨HP.out.1.kd, HP.out.1.ky, HP.out.1.rq⟩ HP.out.2.2 HW.out _ _ _ _ _ _ _ _ _ _ _ _ _ _ _ _ _ _ _ _ _ _ _ _ _ _ _ _ _ _ _ _ _ _ _ _ _ _ _ _ _ _ _ _ _ _ _ _ _ _ _ _ _ _ _ _ _ _ _ _ _ _ _ _ _ _ _ _ _ _ _ _ _ _ _ _ _ _ _ _ _ _ _ _ _ _ _ _ _ _ _ _ _ _ _ _ _ _ _ _ _ _ _ _ _ _ _ _ _ _ _ _ _ _ _ _ _ _ _ _ _ _ _ _ _ _ _ _ _ _ _ _ _ _ _ _ _ _ _ _ _ _ _ _ _ _ _ _ _ _ _ _ _ _ _ _ _ _ _ _ _ _
set_option maxRecDepth 20000 in
set_option maxHeartbeats 2000000 in
theorem rhear_2 (p : Nat) (a : As) (s : Ps) (rq : Int) (q : Pk) (rec : Int) (au : Bool) (w : World) (h : Rm w p a s rq) (hs : okS s) (hq : okP q) (hV : vdI s q au = 2) : Calls Try.prog 16 #[.pointer (some ⟨p, 0, none⟩), .agg (pkC q).toArray, .int .u64 rec, .bool au] w fun e w' => e = .returned (.tuple #[.int .i64 2, .agg (smL sm0).toArray]) ∧ (∃ rq', Rm w' p a s rq') ∧ w.grownBy w' (some p) := by
  have C1 : Hid (∀ u, Rm u p a s rq → Calls Try.prog 37 #[.pointer (some ⟨p, 0, none⟩), .agg (pkC q).toArray, .bool au] u fun e w' => e = .returned (.int .i64 2) ∧ Below u.heap.size u w') := fun u hu => by rw [← hV]; exact rverdict_any p a s rq q au u hu hs hq
  have HP : Hid (Rm w p a s rq ∧ okS s ∧ okP q) := ⟨h, hs, hq⟩
  clear h hs hV hq
  go_enter Try.func16, Try.ntmps16
  refine post_hid fun Q hQ => ?_
  refine seq_hid fun R hR => ?_
  go_wp2
  refine world_hid fun W hW => ?_
  have HA : Hid (OW w W p (rmC a s rq) 63 [(w.heap.size + 1, smL sm0, 48), (w.heap.size, pkC q, 44)]) := by
    show OW _ _ _ _ _ _
    have h := ((OW.new HP.out.1.bk).push (pkC q) 44).push (smL sm0) 48
    rw [size_alloc1] at h
    rw [hW.out]
    exact h
  clear hW
  rw [hR.out]
  clear hR
  refine seq_hid fun R hR => ?_
  go_wp2_with (first
    | (refine step_ldat 44 _ rfl rfl ⟨w.heap.size, 0, none⟩ (by rfl) (pkC q) _ Try.underlying44 rfl (by kernel_rfl) (HA.out.at w.heap.size (pkC q) 44 (by simp)) ?_)
    | (go_at_call 37; refine (C1.out _ ⟨HA.out.bk, HP.out.1.kd, HP.out.1.ky, HP.out.1.rq⟩).mono ?_; rintro e w1 ⟨rfl, hb1⟩; have HW : Hid (OW w w1 p (rmC a s rq) 63 [(w.heap.size + 1, smL sm0, 48), (w.heap.size, pkC q, 44)]) := HA.out.step hb1; clear hb1))
  rw [hR.out]
  clear hR HA C1
  refine seq_hid fun R hR => ?_
  go_wp2_with fail
  rw [hR.out]
  clear hR
  refine seq_hid fun R hR => ?_
  go_wp2_with fail
  have eR : R = (rhT Try.f16) := by rw [hR.out]; unfold rhT Try.f16; simp only [dropSeq]
  rw [eR, hQ.out]
  exact rh_end p a s rq q rec 2 w w1 _ _ (by decide) rfl rfl ⟨HP.out.1.kd, HP.out.1.ky, HP.out.1.rq⟩ HP.out.2.2 HW.out _ _ _ _ _ _ _ _ _ _ _ _ _ _ _ _ _ _ _ _ _ _ _ _ _ _ _ _ _ _ _ _ _ _ _ _ _ _ _ _ _ _ _ _ _ _ _ _ _ _ _ _ _ _ _ _ _ _ _ _ _ _ _ _ _ _ _ _ _ _ _ _ _ _ _ _ _ _ _ _ _ _ _ _ _ _ _ _ _ _ _ _ _ _ _ _ _ _ _ _ _ _ _ _ _ _ _ _ _ _ _ _ _ _ _ _ _ _ _ _ _ _ _ _ _ _ _ _ _ _ _ _ _ _ _ _ _ _ _ _ _ _ _ _ _ _ _ _ _ _ _ _ _ _ _ _ _ _ _ _ _ _
set_option maxRecDepth 20000 in
set_option maxHeartbeats 2000000 in
theorem rhear_5 (p : Nat) (a : As) (s : Ps) (rq : Int) (q : Pk) (rec : Int) (au : Bool) (w : World) (h : Rm w p a s rq) (hs : okS s) (hq : okP q) (hV : vdI s q au = 5) : Calls Try.prog 16 #[.pointer (some ⟨p, 0, none⟩), .agg (pkC q).toArray, .int .u64 rec, .bool au] w fun e w' => e = .returned (.tuple #[.int .i64 5, .agg (smL sm0).toArray]) ∧ (∃ rq', Rm w' p a s rq') ∧ w.grownBy w' (some p) := by
  have C1 : Hid (∀ u, Rm u p a s rq → Calls Try.prog 37 #[.pointer (some ⟨p, 0, none⟩), .agg (pkC q).toArray, .bool au] u fun e w' => e = .returned (.int .i64 5) ∧ Below u.heap.size u w') := fun u hu => by rw [← hV]; exact rverdict_any p a s rq q au u hu hs hq
  have HP : Hid (Rm w p a s rq ∧ okS s ∧ okP q) := ⟨h, hs, hq⟩
  clear h hs hV hq
  go_enter Try.func16, Try.ntmps16
  refine post_hid fun Q hQ => ?_
  refine seq_hid fun R hR => ?_
  go_wp2
  refine world_hid fun W hW => ?_
  have HA : Hid (OW w W p (rmC a s rq) 63 [(w.heap.size + 1, smL sm0, 48), (w.heap.size, pkC q, 44)]) := by
    show OW _ _ _ _ _ _
    have h := ((OW.new HP.out.1.bk).push (pkC q) 44).push (smL sm0) 48
    rw [size_alloc1] at h
    rw [hW.out]
    exact h
  clear hW
  rw [hR.out]
  clear hR
  refine seq_hid fun R hR => ?_
  go_wp2_with (first
    | (refine step_ldat 44 _ rfl rfl ⟨w.heap.size, 0, none⟩ (by rfl) (pkC q) _ Try.underlying44 rfl (by kernel_rfl) (HA.out.at w.heap.size (pkC q) 44 (by simp)) ?_)
    | (go_at_call 37; refine (C1.out _ ⟨HA.out.bk, HP.out.1.kd, HP.out.1.ky, HP.out.1.rq⟩).mono ?_; rintro e w1 ⟨rfl, hb1⟩; have HW : Hid (OW w w1 p (rmC a s rq) 63 [(w.heap.size + 1, smL sm0, 48), (w.heap.size, pkC q, 44)]) := HA.out.step hb1; clear hb1))
  rw [hR.out]
  clear hR HA C1
  refine seq_hid fun R hR => ?_
  go_wp2_with fail
  rw [hR.out]
  clear hR
  refine seq_hid fun R hR => ?_
  go_wp2_with fail
  have eR : R = (rhT Try.f16) := by rw [hR.out]; unfold rhT Try.f16; simp only [dropSeq]
  rw [eR, hQ.out]
  exact rh_end p a s rq q rec 5 w w1 _ _ (by decide) rfl rfl ⟨HP.out.1.kd, HP.out.1.ky, HP.out.1.rq⟩ HP.out.2.2 HW.out _ _ _ _ _ _ _ _ _ _ _ _ _ _ _ _ _ _ _ _ _ _ _ _ _ _ _ _ _ _ _ _ _ _ _ _ _ _ _ _ _ _ _ _ _ _ _ _ _ _ _ _ _ _ _ _ _ _ _ _ _ _ _ _ _ _ _ _ _ _ _ _ _ _ _ _ _ _ _ _ _ _ _ _ _ _ _ _ _ _ _ _ _ _ _ _ _ _ _ _ _ _ _ _ _ _ _ _ _ _ _ _ _ _ _ _ _ _ _ _ _ _ _ _ _ _ _ _ _ _ _ _ _ _ _ _ _ _ _ _ _ _ _ _ _ _ _ _ _ _ _ _ _ _ _ _ _ _ _ _ _ _
end Go.Proofs.Ytlggademcmkihaa
/- The reference's Hear, whole: late or bogus. -/
namespace Go.Proofs.Ytlggademcmkihaa
open Go Go.RowKit Go.Sort
set_option maxRecDepth 20000 in
set_option maxHeartbeats 2000000 in
theorem rhear_3 (p : Nat) (a : As) (s : Ps) (rq : Int) (q : Pk) (rec : Int) (au : Bool) (w : World) (h : Rm w p a s rq) (hs : okS s) (hq : okP q) (hV : vdI s q au = 3) (S : Ps) (hS : S = if opB s q au = true then { s with heard := true, ex := q.xmt, ea := rec } else s) : Calls Try.prog 16 #[.pointer (some ⟨p, 0, none⟩), .agg (pkC q).toArray, .int .u64 rec, .bool au] w fun e w' => e = .returned (.tuple #[.int .i64 3, .agg (smL sm0).toArray]) ∧ (∃ rq', Rm w' p a S rq') ∧ w.grownBy w' (some p) := by
  have C1 : Hid (∀ u, Rm u p a s rq → Calls Try.prog 37 #[.pointer (some ⟨p, 0, none⟩), .agg (pkC q).toArray, .bool au] u fun e w' => e = .returned (.int .i64 3) ∧ Below u.heap.size u w') := fun u hu => by rw [← hV]; exact rverdict_any p a s rq q au u hu hs hq
  have HP : Hid (Rm w p a s rq ∧ okS s ∧ okP q) := ⟨h, hs, hq⟩
  clear h hs hV hq
  go_enter Try.func16, Try.ntmps16
  refine post_hid fun Q hQ => ?_
  refine seq_hid fun R hR => ?_
  go_wp2
  refine world_hid fun W hW => ?_
  have HA : Hid (OW w W p (rmC a s rq) 63 [(w.heap.size + 1, smL sm0, 48), (w.heap.size, pkC q, 44)]) := by
    show OW _ _ _ _ _ _
    have h := ((OW.new HP.out.1.bk).push (pkC q) 44).push (smL sm0) 48
    rw [size_alloc1] at h
    rw [hW.out]
    exact h
  clear hW
  rw [hR.out]
  clear hR
  refine seq_hid fun R hR => ?_
  go_wp2_with (first
    | (refine step_ldat 44 _ rfl rfl ⟨w.heap.size, 0, none⟩ (by rfl) (pkC q) _ Try.underlying44 rfl (by kernel_rfl) (HA.out.at w.heap.size (pkC q) 44 (by simp)) ?_)
    | (go_at_call 37; refine (C1.out _ ⟨HA.out.bk, HP.out.1.kd, HP.out.1.ky, HP.out.1.rq⟩).mono ?_; rintro e w1 ⟨rfl, hb1⟩; have HW : Hid (OW w w1 p (rmC a s rq) 63 [(w.heap.size + 1, smL sm0, 48), (w.heap.size, pkC q, 44)]) := HA.out.step hb1; clear hb1))
  rw [hR.out]
  clear hR HA C1
  refine seq_hid fun R hR => ?_
  go_wp2_with fail
  rw [hR.out]
  clear hR
  refine seq_hid fun R hR => ?_
  have k2 : w1.cell? ⟨w.heap.size, 2, none⟩ = some (.int .i64 q.mode) := HW.out.cell w.heap.size (pkC q) 44 (by simp) 2
  have k10 : w1.cell? ⟨w.heap.size, 10, none⟩ = some (.int .u64 q.org) := HW.out.cell w.heap.size (pkC q) 44 (by simp) 10
  have k12 : w1.cell? ⟨w.heap.size, 12, none⟩ = some (.int .u64 q.xmt) := HW.out.cell w.heap.size (pkC q) 44 (by simp) 12
  have p2 : w1.cell? ⟨p, 2, none⟩ = some (.int .i64 s.key) := by rw [HP.out.1.ky]; exact HW.out.pc 2
  have p17 : w1.cell? ⟨p, 17, none⟩ = some (.bool s.heard) := HW.out.pc 17
  have p18 : w1.cell? ⟨p, 18, none⟩ = some (.int .u64 s.ex) := HW.out.pc 18
  have p19 : w1.cell? ⟨p, 19, none⟩ = some (.int .u64 s.ea) := HW.out.pc 19
  have pf : ∀ j, w1.frozen? ⟨p, j, none⟩ = false := HW.out.bk.frozen
  have HS : Hid (S = if opB s q au = true then { s with heard := true, ex := q.xmt, ea := rec } else s) := hS
  have e2 : ∀ b : Bool, S = S := fun _ => rfl
  clear hS e2
  by_cases m1 : q.mode = 1
  · have m1' : (q.mode == 1) = true := by simpa using m1
    by_cases ho : q.org = 0
    · have ho' : (q.org == 0) = true := by simpa using ho
      by_cases hk : s.key = 0
      · have hk' : (s.key == 0) = true := by simpa using hk
        cases hh : s.heard
        · rw [hh] at p17
          have HN : Hid (S = { s with heard := true, ex := q.xmt, ea := rec }) := by
            show S = _
            rw [HS.out, if_pos (by unfold opB trB; simp_all)]
          have hpn : p ≠ w.heap.size := by have := HW.out.lp; omega
          have hpn' : w.heap.size ≠ p := Ne.symm hpn
          go_wp2_with fail
          go_region_held3 (fun w' => w'.cell? ⟨w.heap.size, 12, none⟩ = some (.int .u64 q.xmt)) (first | with_reducible exact k12 | go_keep) (fail)
          have HX : Hid (OW w (((w1.setCell ⟨p, 17, none⟩ (.bool true)).setCell ⟨p, 18, none⟩ (.int .u64 q.xmt)).setCell ⟨p, 19, none⟩ (.int .u64 rec)).drew p (rmC a { s with heard := true, ex := q.xmt, ea := rec } rq) 63 [(w.heap.size + 1, smL sm0, 48), (w.heap.size, pkC q, 44)]) := (((HW.out.setP 17 (.bool true)).setP 18 (.int .u64 q.xmt)).setP 19 (.int .u64 rec)).drew
          generalize (((w1.setCell ⟨p, 17, none⟩ (.bool true)).setCell ⟨p, 18, none⟩ (.int .u64 q.xmt)).setCell ⟨p, 19, none⟩ (.int .u64 rec)).drew = w2 at HX ⊢
          clear HW
          have HW : Hid _ := HX.out
          clear HX
          go_wp2_with fail
          rw [HN.out] at hQ
          have eR : R = (rhT Try.f16) := by rw [hR.out]; unfold rhT Try.f16; simp only [dropSeq]
          rw [eR, hQ.out]
          exact rh_end p a { s with heard := true, ex := q.xmt, ea := rec } rq q rec 3 w w2 _ _ (by decide) rfl rfl ⟨HP.out.1.kd, HP.out.1.ky, HP.out.1.rq⟩ HP.out.2.2 HW.out _ _ _ _ _ _ _ _ _ _ _ _ _ _ _ _ _ _ _ _ _ _ _ _ _ _ _ _ _ _ _ _ _ _ _ _ _ _ _ _ _ _ _ _ _ _ _ _ _ _ _ _ _ _ _ _ _ _ _ _ _ _ _ _ _ _ _ _ _ _ _ _ _ _ _ _ _ _ _ _ _ _ _ _ _ _ _ _ _ _ _ _ _ _ _ _ _ _ _ _ _ _ _ _ _ _ _ _ _ _ _ _ _ _ _ _ _ _ _ _ _ _ _ _ _ _ _ _ _ _ _ _ _ _ _ _ _ _ _ _ _ _ _ _ _ _ _ _ _ _ _ _ _ _ _ _ _ _ _ _ _ _
        · rw [hh] at p17
          have HN : Hid (S = s) := by
            show S = s
            rw [HS.out, if_neg (by unfold opB trB; simp_all)]
          go_wp2_with fail
          rw [HN.out] at hQ
          have eR : R = (rhT Try.f16) := by rw [hR.out]; unfold rhT Try.f16; simp only [dropSeq]
          rw [eR, hQ.out]
          exact rh_end p a s rq q rec 3 w w1 _ _ (by decide) rfl rfl ⟨HP.out.1.kd, HP.out.1.ky, HP.out.1.rq⟩ HP.out.2.2 HW.out _ _ _ _ _ _ _ _ _ _ _ _ _ _ _ _ _ _ _ _ _ _ _ _ _ _ _ _ _ _ _ _ _ _ _ _ _ _ _ _ _ _ _ _ _ _ _ _ _ _ _ _ _ _ _ _ _ _ _ _ _ _ _ _ _ _ _ _ _ _ _ _ _ _ _ _ _ _ _ _ _ _ _ _ _ _ _ _ _ _ _ _ _ _ _ _ _ _ _ _ _ _ _ _ _ _ _ _ _ _ _ _ _ _ _ _ _ _ _ _ _ _ _ _ _ _ _ _ _ _ _ _ _ _ _ _ _ _ _ _ _ _ _ _ _ _ _ _ _ _ _ _ _ _ _ _ _ _ _ _ _ _
      · have hk' : (s.key == 0) = false := by simpa using hk
        cases au
        · have HN : Hid (S = s) := by
            show S = s
            rw [HS.out, if_neg (by unfold opB trB; simp_all)]
          go_wp2_with fail
          rw [HN.out] at hQ
          have eR : R = (rhT Try.f16) := by rw [hR.out]; unfold rhT Try.f16; simp only [dropSeq]
          rw [eR, hQ.out]
          exact rh_end p a s rq q rec 3 w w1 _ _ (by decide) rfl rfl ⟨HP.out.1.kd, HP.out.1.ky, HP.out.1.rq⟩ HP.out.2.2 HW.out _ _ _ _ _ _ _ _ _ _ _ _ _ _ _ _ _ _ _ _ _ _ _ _ _ _ _ _ _ _ _ _ _ _ _ _ _ _ _ _ _ _ _ _ _ _ _ _ _ _ _ _ _ _ _ _ _ _ _ _ _ _ _ _ _ _ _ _ _ _ _ _ _ _ _ _ _ _ _ _ _ _ _ _ _ _ _ _ _ _ _ _ _ _ _ _ _ _ _ _ _ _ _ _ _ _ _ _ _ _ _ _ _ _ _ _ _ _ _ _ _ _ _ _ _ _ _ _ _ _ _ _ _ _ _ _ _ _ _ _ _ _ _ _ _ _ _ _ _ _ _ _ _ _ _ _ _ _ _ _ _ _
        · cases hh : s.heard
          · rw [hh] at p17
            have HN : Hid (S = { s with heard := true, ex := q.xmt, ea := rec }) := by
              show S = _
              rw [HS.out, if_pos (by unfold opB trB; simp_all)]
            have hpn : p ≠ w.heap.size := by have := HW.out.lp; omega
            have hpn' : w.heap.size ≠ p := Ne.symm hpn
            go_wp2_with fail
            go_region_held3 (fun w' => w'.cell? ⟨w.heap.size, 12, none⟩ = some (.int .u64 q.xmt)) (first | with_reducible exact k12 | go_keep) (fail)
            have HX : Hid (OW w (((w1.setCell ⟨p, 17, none⟩ (.bool true)).setCell ⟨p, 18, none⟩ (.int .u64 q.xmt)).setCell ⟨p, 19, none⟩ (.int .u64 rec)).drew p (rmC a { s with heard := true, ex := q.xmt, ea := rec } rq) 63 [(w.heap.size + 1, smL sm0, 48), (w.heap.size, pkC q, 44)]) := (((HW.out.setP 17 (.bool true)).setP 18 (.int .u64 q.xmt)).setP 19 (.int .u64 rec)).drew
            generalize (((w1.setCell ⟨p, 17, none⟩ (.bool true)).setCell ⟨p, 18, none⟩ (.int .u64 q.xmt)).setCell ⟨p, 19, none⟩ (.int .u64 rec)).drew = w2 at HX ⊢
            clear HW
            have HW : Hid _ := HX.out
            clear HX
            go_wp2_with fail
            rw [HN.out] at hQ
            have eR : R = (rhT Try.f16) := by rw [hR.out]; unfold rhT Try.f16; simp only [dropSeq]
            rw [eR, hQ.out]
            exact rh_end p a { s with heard := true, ex := q.xmt, ea := rec } rq q rec 3 w w2 _ _ (by decide) rfl rfl ⟨HP.out.1.kd, HP.out.1.ky, HP.out.1.rq⟩ HP.out.2.2 HW.out _ _ _ _ _ _ _ _ _ _ _ _ _ _ _ _ _ _ _ _ _ _ _ _ _ _ _ _ _ _ _ _ _ _ _ _ _ _ _ _ _ _ _ _ _ _ _ _ _ _ _ _ _ _ _ _ _ _ _ _ _ _ _ _ _ _ _ _ _ _ _ _ _ _ _ _ _ _ _ _ _ _ _ _ _ _ _ _ _ _ _ _ _ _ _ _ _ _ _ _ _ _ _ _ _ _ _ _ _ _ _ _ _ _ _ _ _ _ _ _ _ _ _ _ _ _ _ _ _ _ _ _ _ _ _ _ _ _ _ _ _ _ _ _ _ _ _ _ _ _ _ _ _ _ _ _ _ _ _ _ _ _
          · rw [hh] at p17
            have HN : Hid (S = s) := by
              show S = s
              rw [HS.out, if_neg (by unfold opB trB; simp_all)]
            go_wp2_with fail
            rw [HN.out] at hQ
            have eR : R = (rhT Try.f16) := by rw [hR.out]; unfold rhT Try.f16; simp only [dropSeq]
            rw [eR, hQ.out]
            exact rh_end p a s rq q rec 3 w w1 _ _ (by decide) rfl rfl ⟨HP.out.1.kd, HP.out.1.ky, HP.out.1.rq⟩ HP.out.2.2 HW.out _ _ _ _ _ _ _ _ _ _ _ _ _ _ _ _ _ _ _ _ _ _ _ _ _ _ _ _ _ _ _ _ _ _ _ _ _ _ _ _ _ _ _ _ _ _ _ _ _ _ _ _ _ _ _ _ _ _ _ _ _ _ _ _ _ _ _ _ _ _ _ _ _ _ _ _ _ _ _ _ _ _ _ _ _ _ _ _ _ _ _ _ _ _ _ _ _ _ _ _ _ _ _ _ _ _ _ _ _ _ _ _ _ _ _ _ _ _ _ _ _ _ _ _ _ _ _ _ _ _ _ _ _ _ _ _ _ _ _ _ _ _ _ _ _ _ _ _ _ _ _ _ _ _ _ _ _ _ _ _ _ _
    · have ho' : (q.org == 0) = false := by simpa using ho
      have HN : Hid (S = s) := by
        show S = s
        rw [HS.out, if_neg (by unfold opB trB; simp_all)]
      go_wp2_with fail
      rw [HN.out] at hQ
      have eR : R = (rhT Try.f16) := by rw [hR.out]; unfold rhT Try.f16; simp only [dropSeq]
      rw [eR, hQ.out]
      exact rh_end p a s rq q rec 3 w w1 _ _ (by decide) rfl rfl ⟨HP.out.1.kd, HP.out.1.ky, HP.out.1.rq⟩ HP.out.2.2 HW.out _ _ _ _ _ _ _ _ _ _ _ _ _ _ _ _ _ _ _ _ _ _ _ _ _ _ _ _ _ _ _ _ _ _ _ _ _ _ _ _ _ _ _ _ _ _ _ _ _ _ _ _ _ _ _ _ _ _ _ _ _ _ _ _ _ _ _ _ _ _ _ _ _ _ _ _ _ _ _ _ _ _ _ _ _ _ _ _ _ _ _ _ _ _ _ _ _ _ _ _ _ _ _ _ _ _ _ _ _ _ _ _ _ _ _ _ _ _ _ _ _ _ _ _ _ _ _ _ _ _ _ _ _ _ _ _ _ _ _ _ _ _ _ _ _ _ _ _ _ _ _ _ _ _ _ _ _ _ _ _ _ _
  · have m1' : (q.mode == 1) = false := by simpa using m1
    by_cases m2 : q.mode = 2
    · have m2' : (q.mode == 2) = true := by simpa using m2
      by_cases ho : q.org = 0
      · have ho' : (q.org == 0) = true := by simpa using ho
        by_cases hk : s.key = 0
        · have hk' : (s.key == 0) = true := by simpa using hk
          cases hh : s.heard
          · rw [hh] at p17
            have HN : Hid (S = { s with heard := true, ex := q.xmt, ea := rec }) := by
              show S = _
              rw [HS.out, if_pos (by unfold opB trB; simp_all)]
            have hpn : p ≠ w.heap.size := by have := HW.out.lp; omega
            have hpn' : w.heap.size ≠ p := Ne.symm hpn
            go_wp2_with fail
            go_region_held3 (fun w' => w'.cell? ⟨w.heap.size, 12, none⟩ = some (.int .u64 q.xmt)) (first | with_reducible exact k12 | go_keep) (fail)
            have HX : Hid (OW w (((w1.setCell ⟨p, 17, none⟩ (.bool true)).setCell ⟨p, 18, none⟩ (.int .u64 q.xmt)).setCell ⟨p, 19, none⟩ (.int .u64 rec)).drew p (rmC a { s with heard := true, ex := q.xmt, ea := rec } rq) 63 [(w.heap.size + 1, smL sm0, 48), (w.heap.size, pkC q, 44)]) := (((HW.out.setP 17 (.bool true)).setP 18 (.int .u64 q.xmt)).setP 19 (.int .u64 rec)).drew
            generalize (((w1.setCell ⟨p, 17, none⟩ (.bool true)).setCell ⟨p, 18, none⟩ (.int .u64 q.xmt)).setCell ⟨p, 19, none⟩ (.int .u64 rec)).drew = w2 at HX ⊢
            clear HW
            have HW : Hid _ := HX.out
            clear HX
            go_wp2_with fail
            rw [HN.out] at hQ
            have eR : R = (rhT Try.f16) := by rw [hR.out]; unfold rhT Try.f16; simp only [dropSeq]
            rw [eR, hQ.out]
            exact rh_end p a { s with heard := true, ex := q.xmt, ea := rec } rq q rec 3 w w2 _ _ (by decide) rfl rfl ⟨HP.out.1.kd, HP.out.1.ky, HP.out.1.rq⟩ HP.out.2.2 HW.out _ _ _ _ _ _ _ _ _ _ _ _ _ _ _ _ _ _ _ _ _ _ _ _ _ _ _ _ _ _ _ _ _ _ _ _ _ _ _ _ _ _ _ _ _ _ _ _ _ _ _ _ _ _ _ _ _ _ _ _ _ _ _ _ _ _ _ _ _ _ _ _ _ _ _ _ _ _ _ _ _ _ _ _ _ _ _ _ _ _ _ _ _ _ _ _ _ _ _ _ _ _ _ _ _ _ _ _ _ _ _ _ _ _ _ _ _ _ _ _ _ _ _ _ _ _ _ _ _ _ _ _ _ _ _ _ _ _ _ _ _ _ _ _ _ _ _ _ _ _ _ _ _ _ _ _ _ _ _ _ _ _
          · rw [hh] at p17
            have HN : Hid (S = s) := by
              show S = s
              rw [HS.out, if_neg (by unfold opB trB; simp_all)]
            go_wp2_with fail
            rw [HN.out] at hQ
            have eR : R = (rhT Try.f16) := by rw [hR.out]; unfold rhT Try.f16; simp only [dropSeq]
            rw [eR, hQ.out]
            exact rh_end p a s rq q rec 3 w w1 _ _ (by decide) rfl rfl ⟨HP.out.1.kd, HP.out.1.ky, HP.out.1.rq⟩ HP.out.2.2 HW.out _ _ _ _ _ _ _ _ _ _ _ _ _ _ _ _ _ _ _ _ _ _ _ _ _ _ _ _ _ _ _ _ _ _ _ _ _ _ _ _ _ _ _ _ _ _ _ _ _ _ _ _ _ _ _ _ _ _ _ _ _ _ _ _ _ _ _ _ _ _ _ _ _ _ _ _ _ _ _ _ _ _ _ _ _ _ _ _ _ _ _ _ _ _ _ _ _ _ _ _ _ _ _ _ _ _ _ _ _ _ _ _ _ _ _ _ _ _ _ _ _ _ _ _ _ _ _ _ _ _ _ _ _ _ _ _ _ _ _ _ _ _ _ _ _ _ _ _ _ _ _ _ _ _ _ _ _ _ _ _ _ _
        · have hk' : (s.key == 0) = false := by simpa using hk
          cases au
          · have HN : Hid (S = s) := by
              show S = s
              rw [HS.out, if_neg (by unfold opB trB; simp_all)]
            go_wp2_with fail
            rw [HN.out] at hQ
            have eR : R = (rhT Try.f16) := by rw [hR.out]; unfold rhT Try.f16; simp only [dropSeq]
            rw [eR, hQ.out]
            exact rh_end p a s rq q rec 3 w w1 _ _ (by decide) rfl rfl ⟨HP.out.1.kd, HP.out.1.ky, HP.out.1.rq⟩ HP.out.2.2 HW.out _ _ _ _ _ _ _ _ _ _ _ _ _ _ _ _ _ _ _ _ _ _ _ _ _ _ _ _ _ _ _ _ _ _ _ _ _ _ _ _ _ _ _ _ _ _ _ _ _ _ _ _ _ _ _ _ _ _ _ _ _ _ _ _ _ _ _ _ _ _ _ _ _ _ _ _ _ _ _ _ _ _ _ _ _ _ _ _ _ _ _ _ _ _ _ _ _ _ _ _ _ _ _ _ _ _ _ _ _ _ _ _ _ _ _ _ _ _ _ _ _ _ _ _ _ _ _ _ _ _ _ _ _ _ _ _ _ _ _ _ _ _ _ _ _ _ _ _ _ _ _ _ _ _ _ _ _ _ _ _ _ _
          · cases hh : s.heard
            · rw [hh] at p17
              have HN : Hid (S = { s with heard := true, ex := q.xmt, ea := rec }) := by
                show S = _
                rw [HS.out, if_pos (by unfold opB trB; simp_all)]
              have hpn : p ≠ w.heap.size := by have := HW.out.lp; omega
              have hpn' : w.heap.size ≠ p := Ne.symm hpn
              go_wp2_with fail
              go_region_held3 (fun w' => w'.cell? ⟨w.heap.size, 12, none⟩ = some (.int .u64 q.xmt)) (first | with_reducible exact k12 | go_keep) (fail)
              have HX : Hid (OW w (((w1.setCell ⟨p, 17, none⟩ (.bool true)).setCell ⟨p, 18, none⟩ (.int .u64 q.xmt)).setCell ⟨p, 19, none⟩ (.int .u64 rec)).drew p (rmC a { s with heard := true, ex := q.xmt, ea := rec } rq) 63 [(w.heap.size + 1, smL sm0, 48), (w.heap.size, pkC q, 44)]) := (((HW.out.setP 17 (.bool true)).setP 18 (.int .u64 q.xmt)).setP 19 (.int .u64 rec)).drew
              generalize (((w1.setCell ⟨p, 17, none⟩ (.bool true)).setCell ⟨p, 18, none⟩ (.int .u64 q.xmt)).setCell ⟨p, 19, none⟩ (.int .u64 rec)).drew = w2 at HX ⊢
              clear HW
              have HW : Hid _ := HX.out
              clear HX
              go_wp2_with fail
              rw [HN.out] at hQ
              have eR : R = (rhT Try.f16) := by rw [hR.out]; unfold rhT Try.f16; simp only [dropSeq]
              rw [eR, hQ.out]
              exact rh_end p a { s with heard := true, ex := q.xmt, ea := rec } rq q rec 3 w w2 _ _ (by decide) rfl rfl ⟨HP.out.1.kd, HP.out.1.ky, HP.out.1.rq⟩ HP.out.2.2 HW.out _ _ _ _ _ _ _ _ _ _ _ _ _ _ _ _ _ _ _ _ _ _ _ _ _ _ _ _ _ _ _ _ _ _ _ _ _ _ _ _ _ _ _ _ _ _ _ _ _ _ _ _ _ _ _ _ _ _ _ _ _ _ _ _ _ _ _ _ _ _ _ _ _ _ _ _ _ _ _ _ _ _ _ _ _ _ _ _ _ _ _ _ _ _ _ _ _ _ _ _ _ _ _ _ _ _ _ _ _ _ _ _ _ _ _ _ _ _ _ _ _ _ _ _ _ _ _ _ _ _ _ _ _ _ _ _ _ _ _ _ _ _ _ _ _ _ _ _ _ _ _ _ _ _ _ _ _ _ _ _ _ _
            · rw [hh] at p17
              have HN : Hid (S = s) := by
                show S = s
                rw [HS.out, if_neg (by unfold opB trB; simp_all)]
              go_wp2_with fail
              rw [HN.out] at hQ
              have eR : R = (rhT Try.f16) := by rw [hR.out]; unfold rhT Try.f16; simp only [dropSeq]
              rw [eR, hQ.out]
              exact rh_end p a s rq q rec 3 w w1 _ _ (by decide) rfl rfl ⟨HP.out.1.kd, HP.out.1.ky, HP.out.1.rq⟩ HP.out.2.2 HW.out _ _ _ _ _ _ _ _ _ _ _ _ _ _ _ _ _ _ _ _ _ _ _ _ _ _ _ _ _ _ _ _ _ _ _ _ _ _ _ _ _ _ _ _ _ _ _ _ _ _ _ _ _ _ _ _ _ _ _ _ _ _ _ _ _ _ _ _ _ _ _ _ _ _ _ _ _ _ _ _ _ _ _ _ _ _ _ _ _ _ _ _ _ _ _ _ _ _ _ _ _ _ _ _ _ _ _ _ _ _ _ _ _ _ _ _ _ _ _ _ _ _ _ _ _ _ _ _ _ _ _ _ _ _ _ _ _ _ _ _ _ _ _ _ _ _ _ _ _ _ _ _ _ _ _ _ _ _ _ _ _ _
      · have ho' : (q.org == 0) = false := by simpa using ho
        have HN : Hid (S = s) := by
          show S = s
          rw [HS.out, if_neg (by unfold opB trB; simp_all)]
        go_wp2_with fail
        rw [HN.out] at hQ
        have eR : R = (rhT Try.f16) := by rw [hR.out]; unfold rhT Try.f16; simp only [dropSeq]
        rw [eR, hQ.out]
        exact rh_end p a s rq q rec 3 w w1 _ _ (by decide) rfl rfl ⟨HP.out.1.kd, HP.out.1.ky, HP.out.1.rq⟩ HP.out.2.2 HW.out _ _ _ _ _ _ _ _ _ _ _ _ _ _ _ _ _ _ _ _ _ _ _ _ _ _ _ _ _ _ _ _ _ _ _ _ _ _ _ _ _ _ _ _ _ _ _ _ _ _ _ _ _ _ _ _ _ _ _ _ _ _ _ _ _ _ _ _ _ _ _ _ _ _ _ _ _ _ _ _ _ _ _ _ _ _ _ _ _ _ _ _ _ _ _ _ _ _ _ _ _ _ _ _ _ _ _ _ _ _ _ _ _ _ _ _ _ _ _ _ _ _ _ _ _ _ _ _ _ _ _ _ _ _ _ _ _ _ _ _ _ _ _ _ _ _ _ _ _ _ _ _ _ _ _ _ _ _ _ _ _ _
    · have m2' : (q.mode == 2) = false := by simpa using m2
      have HN : Hid (S = s) := by
        show S = s
        rw [HS.out, if_neg (by unfold opB trB; simp_all)]
      go_wp2_with fail
      rw [HN.out] at hQ
      have eR : R = (rhT Try.f16) := by rw [hR.out]; unfold rhT Try.f16; simp only [dropSeq]
      rw [eR, hQ.out]
      exact rh_end p a s rq q rec 3 w w1 _ _ (by decide) rfl rfl ⟨HP.out.1.kd, HP.out.1.ky, HP.out.1.rq⟩ HP.out.2.2 HW.out _ _ _ _ _ _ _ _ _ _ _ _ _ _ _ _ _ _ _ _ _ _ _ _ _ _ _ _ _ _ _ _ _ _ _ _ _ _ _ _ _ _ _ _ _ _ _ _ _ _ _ _ _ _ _ _ _ _ _ _ _ _ _ _ _ _ _ _ _ _ _ _ _ _ _ _ _ _ _ _ _ _ _ _ _ _ _ _ _ _ _ _ _ _ _ _ _ _ _ _ _ _ _ _ _ _ _ _ _ _ _ _ _ _ _ _ _ _ _ _ _ _ _ _ _ _ _ _ _ _ _ _ _ _ _ _ _ _ _ _ _ _ _ _ _ _ _ _ _ _ _ _ _ _ _ _ _ _ _ _ _ _
set_option maxRecDepth 20000 in
set_option maxHeartbeats 2000000 in
theorem rhear_4 (p : Nat) (a : As) (s : Ps) (rq : Int) (q : Pk) (rec : Int) (au : Bool) (w : World) (h : Rm w p a s rq) (hs : okS s) (hq : okP q) (hV : vdI s q au = 4) (S : Ps) (hS : S = if opB s q au = true then { s with heard := true, ex := q.xmt, ea := rec } else s) : Calls Try.prog 16 #[.pointer (some ⟨p, 0, none⟩), .agg (pkC q).toArray, .int .u64 rec, .bool au] w fun e w' => e = .returned (.tuple #[.int .i64 4, .agg (smL sm0).toArray]) ∧ (∃ rq', Rm w' p a S rq') ∧ w.grownBy w' (some p) := by
  have C1 : Hid (∀ u, Rm u p a s rq → Calls Try.prog 37 #[.pointer (some ⟨p, 0, none⟩), .agg (pkC q).toArray, .bool au] u fun e w' => e = .returned (.int .i64 4) ∧ Below u.heap.size u w') := fun u hu => by rw [← hV]; exact rverdict_any p a s rq q au u hu hs hq
  have HP : Hid (Rm w p a s rq ∧ okS s ∧ okP q) := ⟨h, hs, hq⟩
  clear h hs hV hq
  go_enter Try.func16, Try.ntmps16
  refine post_hid fun Q hQ => ?_
  refine seq_hid fun R hR => ?_
  go_wp2
  refine world_hid fun W hW => ?_
  have HA : Hid (OW w W p (rmC a s rq) 63 [(w.heap.size + 1, smL sm0, 48), (w.heap.size, pkC q, 44)]) := by
    show OW _ _ _ _ _ _
    have h := ((OW.new HP.out.1.bk).push (pkC q) 44).push (smL sm0) 48
    rw [size_alloc1] at h
    rw [hW.out]
    exact h
  clear hW
  rw [hR.out]
  clear hR
  refine seq_hid fun R hR => ?_
  go_wp2_with (first
    | (refine step_ldat 44 _ rfl rfl ⟨w.heap.size, 0, none⟩ (by rfl) (pkC q) _ Try.underlying44 rfl (by kernel_rfl) (HA.out.at w.heap.size (pkC q) 44 (by simp)) ?_)
    | (go_at_call 37; refine (C1.out _ ⟨HA.out.bk, HP.out.1.kd, HP.out.1.ky, HP.out.1.rq⟩).mono ?_; rintro e w1 ⟨rfl, hb1⟩; have HW : Hid (OW w w1 p (rmC a s rq) 63 [(w.heap.size + 1, smL sm0, 48), (w.heap.size, pkC q, 44)]) := HA.out.step hb1; clear hb1))
  rw [hR.out]
  clear hR HA C1
  refine seq_hid fun R hR => ?_
  go_wp2_with fail
  rw [hR.out]
  clear hR
  refine seq_hid fun R hR => ?_
  have k2 : w1.cell? ⟨w.heap.size, 2, none⟩ = some (.int .i64 q.mode) := HW.out.cell w.heap.size (pkC q) 44 (by simp) 2
  have k10 : w1.cell? ⟨w.heap.size, 10, none⟩ = some (.int .u64 q.org) := HW.out.cell w.heap.size (pkC q) 44 (by simp) 10
  have k12 : w1.cell? ⟨w.heap.size, 12, none⟩ = some (.int .u64 q.xmt) := HW.out.cell w.heap.size (pkC q) 44 (by simp) 12
  have p2 : w1.cell? ⟨p, 2, none⟩ = some (.int .i64 s.key) := by rw [HP.out.1.ky]; exact HW.out.pc 2
  have p17 : w1.cell? ⟨p, 17, none⟩ = some (.bool s.heard) := HW.out.pc 17
  have p18 : w1.cell? ⟨p, 18, none⟩ = some (.int .u64 s.ex) := HW.out.pc 18
  have p19 : w1.cell? ⟨p, 19, none⟩ = some (.int .u64 s.ea) := HW.out.pc 19
  have pf : ∀ j, w1.frozen? ⟨p, j, none⟩ = false := HW.out.bk.frozen
  have HS : Hid (S = if opB s q au = true then { s with heard := true, ex := q.xmt, ea := rec } else s) := hS
  have e2 : ∀ b : Bool, S = S := fun _ => rfl
  clear hS e2
  by_cases m1 : q.mode = 1
  · have m1' : (q.mode == 1) = true := by simpa using m1
    by_cases ho : q.org = 0
    · have ho' : (q.org == 0) = true := by simpa using ho
      by_cases hk : s.key = 0
      · have hk' : (s.key == 0) = true := by simpa using hk
        cases hh : s.heard
        · rw [hh] at p17
          have HN : Hid (S = { s with heard := true, ex := q.xmt, ea := rec }) := by
            show S = _
            rw [HS.out, if_pos (by unfold opB trB; simp_all)]
          have hpn : p ≠ w.heap.size := by have := HW.out.lp; omega
          have hpn' : w.heap.size ≠ p := Ne.symm hpn
          go_wp2_with fail
          go_region_held3 (fun w' => w'.cell? ⟨w.heap.size, 12, none⟩ = some (.int .u64 q.xmt)) (first | with_reducible exact k12 | go_keep) (fail)
          have HX : Hid (OW w (((w1.setCell ⟨p, 17, none⟩ (.bool true)).setCell ⟨p, 18, none⟩ (.int .u64 q.xmt)).setCell ⟨p, 19, none⟩ (.int .u64 rec)).drew p (rmC a { s with heard := true, ex := q.xmt, ea := rec } rq) 63 [(w.heap.size + 1, smL sm0, 48), (w.heap.size, pkC q, 44)]) := (((HW.out.setP 17 (.bool true)).setP 18 (.int .u64 q.xmt)).setP 19 (.int .u64 rec)).drew
          generalize (((w1.setCell ⟨p, 17, none⟩ (.bool true)).setCell ⟨p, 18, none⟩ (.int .u64 q.xmt)).setCell ⟨p, 19, none⟩ (.int .u64 rec)).drew = w2 at HX ⊢
          clear HW
          have HW : Hid _ := HX.out
          clear HX
          go_wp2_with fail
          rw [HN.out] at hQ
          have eR : R = (rhT Try.f16) := by rw [hR.out]; unfold rhT Try.f16; simp only [dropSeq]
          rw [eR, hQ.out]
          exact rh_end p a { s with heard := true, ex := q.xmt, ea := rec } rq q rec 4 w w2 _ _ (by decide) rfl rfl ⟨HP.out.1.kd, HP.out.1.ky, HP.out.1.rq⟩ HP.out.2.2 HW.out _ _ _ _ _ _ _ _ _ _ _ _ _ _ _ _ _ _ _ _ _ _ _ _ _ _ _ _ _ _ _ _ _ _ _ _ _ _ _ _ _ _ _ _ _ _ _ _ _ _ _ _ _ _ _ _ _ _ _ _ _ _ _ _ _ _ _ _ _ _ _ _ _ _ _ _ _ _ _ _ _ _ _ _ _ _ _ _ _ _ _ _ _ _ _ _ _ _ _ _ _ _ _ _ _ _ _ _ _ _ _ _ _ _ _ _ _ _ _ _ _ _ _ _ _ _ _ _ _ _ _ _ _ _ _ _ _ _ _ _ _ _ _ _ _ _ _ _ _ _ _ _ _ _ _ _ _ _ _ _ _ _
        · rw [hh] at p17
          have HN : Hid (S = s) := by
            show S = s
            rw [HS.out, if_neg (by unfold opB trB; simp_all)]
          go_wp2_with fail
          rw [HN.out] at hQ
          have eR : R = (rhT Try.f16) := by rw [hR.out]; unfold rhT Try.f16; simp only [dropSeq]
          rw [eR, hQ.out]
          exact rh_end p a s rq q rec 4 w w1 _ _ (by decide) rfl rfl ⟨HP.out.1.kd, HP.out.1.ky, HP.out.1.rq⟩ HP.out.2.2 HW.out _ _ _ _ _ _ _ _ _ _ _ _ _ _ _ _ _ _ _ _ _ _ _ _ _ _ _ _ _ _ _ _ _ _ _ _ _ _ _ _ _ _ _ _ _ _ _ _ _ _ _ _ _ _ _ _ _ _ _ _ _ _ _ _ _ _ _ _ _ _ _ _ _ _ _ _ _ _ _ _ _ _ _ _ _ _ _ _ _ _ _ _ _ _ _ _ _ _ _ _ _ _ _ _ _ _ _ _ _ _ _ _ _ _ _ _ _ _ _ _ _ _ _ _ _ _ _ _ _ _ _ _ _ _ _ _ _ _ _ _ _ _ _ _ _ _ _ _ _ _ _ _ _ _ _ _ _ _ _ _ _ _
      · have hk' : (s.key == 0) = false := by simpa using hk
        cases au
        · have HN : Hid (S = s) := by
            show S = s
            rw [HS.out, if_neg (by unfold opB trB; simp_all)]
          go_wp2_with fail
          rw [HN.out] at hQ
          have eR : R = (rhT Try.f16) := by rw [hR.out]; unfold rhT Try.f16; simp only [dropSeq]
          rw [eR, hQ.out]
          exact rh_end p a s rq q rec 4 w w1 _ _ (by decide) rfl rfl ⟨HP.out.1.kd, HP.out.1.ky, HP.out.1.rq⟩ HP.out.2.2 HW.out _ _ _ _ _ _ _ _ _ _ _ _ _ _ _ _ _ _ _ _ _ _ _ _ _ _ _ _ _ _ _ _ _ _ _ _ _ _ _ _ _ _ _ _ _ _ _ _ _ _ _ _ _ _ _ _ _ _ _ _ _ _ _ _ _ _ _ _ _ _ _ _ _ _ _ _ _ _ _ _ _ _ _ _ _ _ _ _ _ _ _ _ _ _ _ _ _ _ _ _ _ _ _ _ _ _ _ _ _ _ _ _ _ _ _ _ _ _ _ _ _ _ _ _ _ _ _ _ _ _ _ _ _ _ _ _ _ _ _ _ _ _ _ _ _ _ _ _ _ _ _ _ _ _ _ _ _ _ _ _ _ _
        · cases hh : s.heard
          · rw [hh] at p17
            have HN : Hid (S = { s with heard := true, ex := q.xmt, ea := rec }) := by
              show S = _
              rw [HS.out, if_pos (by unfold opB trB; simp_all)]
            have hpn : p ≠ w.heap.size := by have := HW.out.lp; omega
            have hpn' : w.heap.size ≠ p := Ne.symm hpn
            go_wp2_with fail
            go_region_held3 (fun w' => w'.cell? ⟨w.heap.size, 12, none⟩ = some (.int .u64 q.xmt)) (first | with_reducible exact k12 | go_keep) (fail)
            have HX : Hid (OW w (((w1.setCell ⟨p, 17, none⟩ (.bool true)).setCell ⟨p, 18, none⟩ (.int .u64 q.xmt)).setCell ⟨p, 19, none⟩ (.int .u64 rec)).drew p (rmC a { s with heard := true, ex := q.xmt, ea := rec } rq) 63 [(w.heap.size + 1, smL sm0, 48), (w.heap.size, pkC q, 44)]) := (((HW.out.setP 17 (.bool true)).setP 18 (.int .u64 q.xmt)).setP 19 (.int .u64 rec)).drew
            generalize (((w1.setCell ⟨p, 17, none⟩ (.bool true)).setCell ⟨p, 18, none⟩ (.int .u64 q.xmt)).setCell ⟨p, 19, none⟩ (.int .u64 rec)).drew = w2 at HX ⊢
            clear HW
            have HW : Hid _ := HX.out
            clear HX
            go_wp2_with fail
            rw [HN.out] at hQ
            have eR : R = (rhT Try.f16) := by rw [hR.out]; unfold rhT Try.f16; simp only [dropSeq]
            rw [eR, hQ.out]
            exact rh_end p a { s with heard := true, ex := q.xmt, ea := rec } rq q rec 4 w w2 _ _ (by decide) rfl rfl ⟨HP.out.1.kd, HP.out.1.ky, HP.out.1.rq⟩ HP.out.2.2 HW.out _ _ _ _ _ _ _ _ _ _ _ _ _ _ _ _ _ _ _ _ _ _ _ _ _ _ _ _ _ _ _ _ _ _ _ _ _ _ _ _ _ _ _ _ _ _ _ _ _ _ _ _ _ _ _ _ _ _ _ _ _ _ _ _ _ _ _ _ _ _ _ _ _ _ _ _ _ _ _ _ _ _ _ _ _ _ _ _ _ _ _ _ _ _ _ _ _ _ _ _ _ _ _ _ _ _ _ _ _ _ _ _ _ _ _ _ _ _ _ _ _ _ _ _ _ _ _ _ _ _ _ _ _ _ _ _ _ _ _ _ _ _ _ _ _ _ _ _ _ _ _ _ _ _ _ _ _ _ _ _ _ _
          · rw [hh] at p17
            have HN : Hid (S = s) := by
              show S = s
              rw [HS.out, if_neg (by unfold opB trB; simp_all)]
            go_wp2_with fail
            rw [HN.out] at hQ
            have eR : R = (rhT Try.f16) := by rw [hR.out]; unfold rhT Try.f16; simp only [dropSeq]
            rw [eR, hQ.out]
            exact rh_end p a s rq q rec 4 w w1 _ _ (by decide) rfl rfl ⟨HP.out.1.kd, HP.out.1.ky, HP.out.1.rq⟩ HP.out.2.2 HW.out _ _ _ _ _ _ _ _ _ _ _ _ _ _ _ _ _ _ _ _ _ _ _ _ _ _ _ _ _ _ _ _ _ _ _ _ _ _ _ _ _ _ _ _ _ _ _ _ _ _ _ _ _ _ _ _ _ _ _ _ _ _ _ _ _ _ _ _ _ _ _ _ _ _ _ _ _ _ _ _ _ _ _ _ _ _ _ _ _ _ _ _ _ _ _ _ _ _ _ _ _ _ _ _ _ _ _ _ _ _ _ _ _ _ _ _ _ _ _ _ _ _ _ _ _ _ _ _ _ _ _ _ _ _ _ _ _ _ _ _ _ _ _ _ _ _ _ _ _ _ _ _ _ _ _ _ _ _ _ _ _ _
    · have ho' : (q.org == 0) = false := by simpa using ho
      have HN : Hid (S = s) := by
        show S = s
        rw [HS.out, if_neg (by unfold opB trB; simp_all)]
      go_wp2_with fail
      rw [HN.out] at hQ
      have eR : R = (rhT Try.f16) := by rw [hR.out]; unfold rhT Try.f16; simp only [dropSeq]
      rw [eR, hQ.out]
      exact rh_end p a s rq q rec 4 w w1 _ _ (by decide) rfl rfl ⟨HP.out.1.kd, HP.out.1.ky, HP.out.1.rq⟩ HP.out.2.2 HW.out _ _ _ _ _ _ _ _ _ _ _ _ _ _ _ _ _ _ _ _ _ _ _ _ _ _ _ _ _ _ _ _ _ _ _ _ _ _ _ _ _ _ _ _ _ _ _ _ _ _ _ _ _ _ _ _ _ _ _ _ _ _ _ _ _ _ _ _ _ _ _ _ _ _ _ _ _ _ _ _ _ _ _ _ _ _ _ _ _ _ _ _ _ _ _ _ _ _ _ _ _ _ _ _ _ _ _ _ _ _ _ _ _ _ _ _ _ _ _ _ _ _ _ _ _ _ _ _ _ _ _ _ _ _ _ _ _ _ _ _ _ _ _ _ _ _ _ _ _ _ _ _ _ _ _ _ _ _ _ _ _ _
  · have m1' : (q.mode == 1) = false := by simpa using m1
    by_cases m2 : q.mode = 2
    · have m2' : (q.mode == 2) = true := by simpa using m2
      by_cases ho : q.org = 0
      · have ho' : (q.org == 0) = true := by simpa using ho
        by_cases hk : s.key = 0
        · have hk' : (s.key == 0) = true := by simpa using hk
          cases hh : s.heard
          · rw [hh] at p17
            have HN : Hid (S = { s with heard := true, ex := q.xmt, ea := rec }) := by
              show S = _
              rw [HS.out, if_pos (by unfold opB trB; simp_all)]
            have hpn : p ≠ w.heap.size := by have := HW.out.lp; omega
            have hpn' : w.heap.size ≠ p := Ne.symm hpn
            go_wp2_with fail
            go_region_held3 (fun w' => w'.cell? ⟨w.heap.size, 12, none⟩ = some (.int .u64 q.xmt)) (first | with_reducible exact k12 | go_keep) (fail)
            have HX : Hid (OW w (((w1.setCell ⟨p, 17, none⟩ (.bool true)).setCell ⟨p, 18, none⟩ (.int .u64 q.xmt)).setCell ⟨p, 19, none⟩ (.int .u64 rec)).drew p (rmC a { s with heard := true, ex := q.xmt, ea := rec } rq) 63 [(w.heap.size + 1, smL sm0, 48), (w.heap.size, pkC q, 44)]) := (((HW.out.setP 17 (.bool true)).setP 18 (.int .u64 q.xmt)).setP 19 (.int .u64 rec)).drew
            generalize (((w1.setCell ⟨p, 17, none⟩ (.bool true)).setCell ⟨p, 18, none⟩ (.int .u64 q.xmt)).setCell ⟨p, 19, none⟩ (.int .u64 rec)).drew = w2 at HX ⊢
            clear HW
            have HW : Hid _ := HX.out
            clear HX
            go_wp2_with fail
            rw [HN.out] at hQ
            have eR : R = (rhT Try.f16) := by rw [hR.out]; unfold rhT Try.f16; simp only [dropSeq]
            rw [eR, hQ.out]
            exact rh_end p a { s with heard := true, ex := q.xmt, ea := rec } rq q rec 4 w w2 _ _ (by decide) rfl rfl ⟨HP.out.1.kd, HP.out.1.ky, HP.out.1.rq⟩ HP.out.2.2 HW.out _ _ _ _ _ _ _ _ _ _ _ _ _ _ _ _ _ _ _ _ _ _ _ _ _ _ _ _ _ _ _ _ _ _ _ _ _ _ _ _ _ _ _ _ _ _ _ _ _ _ _ _ _ _ _ _ _ _ _ _ _ _ _ _ _ _ _ _ _ _ _ _ _ _ _ _ _ _ _ _ _ _ _ _ _ _ _ _ _ _ _ _ _ _ _ _ _ _ _ _ _ _ _ _ _ _ _ _ _ _ _ _ _ _ _ _ _ _ _ _ _ _ _ _ _ _ _ _ _ _ _ _ _ _ _ _ _ _ _ _ _ _ _ _ _ _ _ _ _ _ _ _ _ _ _ _ _ _ _ _ _ _
          · rw [hh] at p17
            have HN : Hid (S = s) := by
              show S = s
              rw [HS.out, if_neg (by unfold opB trB; simp_all)]
            go_wp2_with fail
            rw [HN.out] at hQ
            have eR : R = (rhT Try.f16) := by rw [hR.out]; unfold rhT Try.f16; simp only [dropSeq]
            rw [eR, hQ.out]
            exact rh_end p a s rq q rec 4 w w1 _ _ (by decide) rfl rfl ⟨HP.out.1.kd, HP.out.1.ky, HP.out.1.rq⟩ HP.out.2.2 HW.out _ _ _ _ _ _ _ _ _ _ _ _ _ _ _ _ _ _ _ _ _ _ _ _ _ _ _ _ _ _ _ _ _ _ _ _ _ _ _ _ _ _ _ _ _ _ _ _ _ _ _ _ _ _ _ _ _ _ _ _ _ _ _ _ _ _ _ _ _ _ _ _ _ _ _ _ _ _ _ _ _ _ _ _ _ _ _ _ _ _ _ _ _ _ _ _ _ _ _ _ _ _ _ _ _ _ _ _ _ _ _ _ _ _ _ _ _ _ _ _ _ _ _ _ _ _ _ _ _ _ _ _ _ _ _ _ _ _ _ _ _ _ _ _ _ _ _ _ _ _ _ _ _ _ _ _ _ _ _ _ _ _
        · have hk' : (s.key == 0) = false := by simpa using hk
          cases au
          · have HN : Hid (S = s) := by
              show S = s
              rw [HS.out, if_neg (by unfold opB trB; simp_all)]
            go_wp2_with fail
            rw [HN.out] at hQ
            have eR : R = (rhT Try.f16) := by rw [hR.out]; unfold rhT Try.f16; simp only [dropSeq]
            rw [eR, hQ.out]
            exact rh_end p a s rq q rec 4 w w1 _ _ (by decide) rfl rfl ⟨HP.out.1.kd, HP.out.1.ky, HP.out.1.rq⟩ HP.out.2.2 HW.out _ _ _ _ _ _ _ _ _ _ _ _ _ _ _ _ _ _ _ _ _ _ _ _ _ _ _ _ _ _ _ _ _ _ _ _ _ _ _ _ _ _ _ _ _ _ _ _ _ _ _ _ _ _ _ _ _ _ _ _ _ _ _ _ _ _ _ _ _ _ _ _ _ _ _ _ _ _ _ _ _ _ _ _ _ _ _ _ _ _ _ _ _ _ _ _ _ _ _ _ _ _ _ _ _ _ _ _ _ _ _ _ _ _ _ _ _ _ _ _ _ _ _ _ _ _ _ _ _ _ _ _ _ _ _ _ _ _ _ _ _ _ _ _ _ _ _ _ _ _ _ _ _ _ _ _ _ _ _ _ _ _
          · cases hh : s.heard
            · rw [hh] at p17
              have HN : Hid (S = { s with heard := true, ex := q.xmt, ea := rec }) := by
                show S = _
                rw [HS.out, if_pos (by unfold opB trB; simp_all)]
              have hpn : p ≠ w.heap.size := by have := HW.out.lp; omega
              have hpn' : w.heap.size ≠ p := Ne.symm hpn
              go_wp2_with fail
              go_region_held3 (fun w' => w'.cell? ⟨w.heap.size, 12, none⟩ = some (.int .u64 q.xmt)) (first | with_reducible exact k12 | go_keep) (fail)
              have HX : Hid (OW w (((w1.setCell ⟨p, 17, none⟩ (.bool true)).setCell ⟨p, 18, none⟩ (.int .u64 q.xmt)).setCell ⟨p, 19, none⟩ (.int .u64 rec)).drew p (rmC a { s with heard := true, ex := q.xmt, ea := rec } rq) 63 [(w.heap.size + 1, smL sm0, 48), (w.heap.size, pkC q, 44)]) := (((HW.out.setP 17 (.bool true)).setP 18 (.int .u64 q.xmt)).setP 19 (.int .u64 rec)).drew
              generalize (((w1.setCell ⟨p, 17, none⟩ (.bool true)).setCell ⟨p, 18, none⟩ (.int .u64 q.xmt)).setCell ⟨p, 19, none⟩ (.int .u64 rec)).drew = w2 at HX ⊢
              clear HW
              have HW : Hid _ := HX.out
              clear HX
              go_wp2_with fail
              rw [HN.out] at hQ
              have eR : R = (rhT Try.f16) := by rw [hR.out]; unfold rhT Try.f16; simp only [dropSeq]
              rw [eR, hQ.out]
              exact rh_end p a { s with heard := true, ex := q.xmt, ea := rec } rq q rec 4 w w2 _ _ (by decide) rfl rfl ⟨HP.out.1.kd, HP.out.1.ky, HP.out.1.rq⟩ HP.out.2.2 HW.out _ _ _ _ _ _ _ _ _ _ _ _ _ _ _ _ _ _ _ _ _ _ _ _ _ _ _ _ _ _ _ _ _ _ _ _ _ _ _ _ _ _ _ _ _ _ _ _ _ _ _ _ _ _ _ _ _ _ _ _ _ _ _ _ _ _ _ _ _ _ _ _ _ _ _ _ _ _ _ _ _ _ _ _ _ _ _ _ _ _ _ _ _ _ _ _ _ _ _ _ _ _ _ _ _ _ _ _ _ _ _ _ _ _ _ _ _ _ _ _ _ _ _ _ _ _ _ _ _ _ _ _ _ _ _ _ _ _ _ _ _ _ _ _ _ _ _ _ _ _ _ _ _ _ _ _ _ _ _ _ _ _
            · rw [hh] at p17
              have HN : Hid (S = s) := by
                show S = s
                rw [HS.out, if_neg (by unfold opB trB; simp_all)]
              go_wp2_with fail
              rw [HN.out] at hQ
              have eR : R = (rhT Try.f16) := by rw [hR.out]; unfold rhT Try.f16; simp only [dropSeq]
              rw [eR, hQ.out]
              exact rh_end p a s rq q rec 4 w w1 _ _ (by decide) rfl rfl ⟨HP.out.1.kd, HP.out.1.ky, HP.out.1.rq⟩ HP.out.2.2 HW.out _ _ _ _ _ _ _ _ _ _ _ _ _ _ _ _ _ _ _ _ _ _ _ _ _ _ _ _ _ _ _ _ _ _ _ _ _ _ _ _ _ _ _ _ _ _ _ _ _ _ _ _ _ _ _ _ _ _ _ _ _ _ _ _ _ _ _ _ _ _ _ _ _ _ _ _ _ _ _ _ _ _ _ _ _ _ _ _ _ _ _ _ _ _ _ _ _ _ _ _ _ _ _ _ _ _ _ _ _ _ _ _ _ _ _ _ _ _ _ _ _ _ _ _ _ _ _ _ _ _ _ _ _ _ _ _ _ _ _ _ _ _ _ _ _ _ _ _ _ _ _ _ _ _ _ _ _ _ _ _ _ _
      · have ho' : (q.org == 0) = false := by simpa using ho
        have HN : Hid (S = s) := by
          show S = s
          rw [HS.out, if_neg (by unfold opB trB; simp_all)]
        go_wp2_with fail
        rw [HN.out] at hQ
        have eR : R = (rhT Try.f16) := by rw [hR.out]; unfold rhT Try.f16; simp only [dropSeq]
        rw [eR, hQ.out]
        exact rh_end p a s rq q rec 4 w w1 _ _ (by decide) rfl rfl ⟨HP.out.1.kd, HP.out.1.ky, HP.out.1.rq⟩ HP.out.2.2 HW.out _ _ _ _ _ _ _ _ _ _ _ _ _ _ _ _ _ _ _ _ _ _ _ _ _ _ _ _ _ _ _ _ _ _ _ _ _ _ _ _ _ _ _ _ _ _ _ _ _ _ _ _ _ _ _ _ _ _ _ _ _ _ _ _ _ _ _ _ _ _ _ _ _ _ _ _ _ _ _ _ _ _ _ _ _ _ _ _ _ _ _ _ _ _ _ _ _ _ _ _ _ _ _ _ _ _ _ _ _ _ _ _ _ _ _ _ _ _ _ _ _ _ _ _ _ _ _ _ _ _ _ _ _ _ _ _ _ _ _ _ _ _ _ _ _ _ _ _ _ _ _ _ _ _ _ _ _ _ _ _ _ _
    · have m2' : (q.mode == 2) = false := by simpa using m2
      have HN : Hid (S = s) := by
        show S = s
        rw [HS.out, if_neg (by unfold opB trB; simp_all)]
      go_wp2_with fail
      rw [HN.out] at hQ
      have eR : R = (rhT Try.f16) := by rw [hR.out]; unfold rhT Try.f16; simp only [dropSeq]
      rw [eR, hQ.out]
      exact rh_end p a s rq q rec 4 w w1 _ _ (by decide) rfl rfl ⟨HP.out.1.kd, HP.out.1.ky, HP.out.1.rq⟩ HP.out.2.2 HW.out _ _ _ _ _ _ _ _ _ _ _ _ _ _ _ _ _ _ _ _ _ _ _ _ _ _ _ _ _ _ _ _ _ _ _ _ _ _ _ _ _ _ _ _ _ _ _ _ _ _ _ _ _ _ _ _ _ _ _ _ _ _ _ _ _ _ _ _ _ _ _ _ _ _ _ _ _ _ _ _ _ _ _ _ _ _ _ _ _ _ _ _ _ _ _ _ _ _ _ _ _ _ _ _ _ _ _ _ _ _ _ _ _ _ _ _ _ _ _ _ _ _ _ _ _ _ _ _ _ _ _ _ _ _ _ _ _ _ _ _ _ _ _ _ _ _ _ _ _ _ _ _ _ _ _ _ _ _ _ _ _ _
end Go.Proofs.Ytlggademcmkihaa
