/- assoc: more readers. -/
import Derived.Test.YtnjdmkgkpdebdaaKB
namespace Go.Proofs.Ytnjdmkgkpdebdaa
open Go Go.RowKit Go.Sort
def knB (ms : List (Option Mb)) (a : As) : Bool := decide (fsF (nkP a.addr (decide (a.kind = 6))) ms ≠ 0)
set_option maxHeartbeats 1000000 in
theorem knows_any (q : Nat) (ms : List (Option Mb)) (a : As) (w : World) (h : Tb w q ms) : Calls Try.prog 22 #[.pointer (some ⟨q, 0, none⟩), .agg (asL a).toArray] w fun e w' => e = .returned (.bool (knB ms a)) ∧ Below w.heap.size w w' := by
  have HT : Hid (Tb w q ms) := h
  clear h
  go_enter Try.func22, Try.ntmps22
  refine post_hid fun Q hQ => ?_
  refine seq_hid fun R hR => ?_
  go_wp2_with fail
  refine world_hid fun W hW => ?_
  have HW : Hid (Bk w.heap.size W (asL a).toArray 41 ∧ Below w.heap.size w W ∧ Tb W q ms) := by
    rw [hW.out]
    have hb : Below w.heap.size w (w.alloc (.cells (asL a).toArray 41)) := (Below.refl _ _).alloc (Nat.le_refl _) _
    exact ⟨Bk.new _ _ _, hb, HT.out.below hb⟩
  clear hW
  rw [hR.out]
  clear hR
  have c1 : ∀ d os, (grow (redrawn W d) os).cell? ⟨w.heap.size, 1, none⟩ = some (.int .u32 a.addr) := fun d os => cell_regrown (HW.out.1.cell 1) d os
  have HC : Hid (∀ w', (∃ r : Regrown, w' = grow (redrawn W r.d) r.os) → ∀ j u, (asL a)[j]? = some u → w'.cell? ((⟨w.heap.size, 0, none⟩ : Addr).add j) = some u) := by
    rintro _ ⟨r, rfl⟩ j u hu
    exact cell_regrown (cells_of (l := asL a) HW.out.1 j u hu) _ _
  obtain ⟨X, hX⟩ : ∃ X, decide (a.kind = 6) = X := ⟨_, rfl⟩
  obtain ⟨N, hN⟩ : ∃ N, fsF (nkP a.addr X) ms = N := ⟨_, rfl⟩
  have C1 : Hid (∀ d os, Calls Try.prog 49 #[.agg (asL a).toArray] (grow (redrawn W d) os) fun e w'' => e = .returned (.bool X) ∧ ∃ p : Regrown, w'' = grow (redrawn W p.d) p.os) := fun d os => Calls.regrown_of (by rw [← hX]; exact isClock_any a _)
  have C2 : Hid (∀ d os, Calls Try.prog 48 #[.pointer (some ⟨q, 0, none⟩), .int .u32 a.addr, .bool X] (grow (redrawn W d) os) fun e w'' => e = .returned (.int .i64 N) ∧ ∃ p : Regrown, w'' = grow (redrawn W p.d) p.os) := fun d os => Calls.regrown_of (by rw [← hN]; exact numberOf_any q ms a.addr X _ (HW.out.2.2.below (below_regrown W d os)))
  have HK : Hid (knB ms a = decide (N ≠ 0)) := by show _ = _; unfold knB; rw [hX, hN]
  clear hX hN
  go_wp2_with fail
  refine wp_region_quiet_below (by kernel_rfl) (by kernel_rfl) ?_
  repeat (first | (refine quiet_ld6 (by rfl) 41 _ rfl ⟨w.heap.size, 0, none⟩ (by rfl) (asL a) _ Try.underlying41 rfl (by kernel_rfl) HC.out ?_) | (quiet_step (first | exact C1.out _ _ | exact C2.out _ _)))
  refine wpQuiet_nil ?_
  intro _ hw'
  obtain ⟨⟨dq, osq⟩, hw''⟩ := hw'
  subst hw''
  go_wp2_with fail
  rw [hQ.out]
  go_ret
  exact ⟨ret_bool' (by rw [HK.out, Bool.eq_iff_iff]; simp), below_thru HW.out.2.1 (below_regrown W dq osq)⟩
theorem find_any (q : Nat) (ms : List (Option Mb)) (a : Int) (w : World) (h : Tb w q ms) : Calls Try.prog 34 #[.pointer (some ⟨q, 0, none⟩), .int .u32 a] w fun e w' => e = .returned (.int .i64 (fsF (nkP a false) ms)) ∧ Below w.heap.size w w' := by
  go_enter Try.func34, Try.ntmps34
  go_wp2_with (go_at_call 48; refine (numberOf_any q ms a false w h).mono ?_; rintro e w1 ⟨rfl, hb⟩)
  go_ret
  exact ⟨rfl, hb⟩
/-- the first search -/
def srI (ms : List (Option Mb)) : Int := fsF (fun m => srB m.ac) ms
set_option maxHeartbeats 1000000 in
theorem search_any (q : Nat) (ms : List (Option Mb)) (w : World) (h : Tb w q ms) : Calls Try.prog 47 #[.pointer (some ⟨q, 0, none⟩)] w fun e w' => e = .returned (.int .i64 (srI ms)) ∧ Below w.heap.size w w' := by
  unfold srI
  have HT : Hid (Tb w q ms) := h
  obtain ⟨L, HL, hc, hl⟩ := h.row
  have HC : Hid (∀ j u, L[j]? = some u → w.cell? ((⟨q, 0, none⟩ : Addr).add j) = some u) := hc
  clear h hc
  obtain ⟨pr, hpr⟩ : ∃ pr, pr = fun m : Mb => srB m.ac := ⟨_, rfl⟩
  have HP : Hid (∀ m, pr m = srB m.ac) := fun m => by rw [hpr]
  rw [← hpr]
  clear hpr
  go_enter Try.func47, Try.ntmps47
  refine post_hid fun Q hQ => ?_
  go_wp2_with (refine step_ldat 72 _ rfl rfl ⟨q, 0, none⟩ (by rfl) L _ Try.underlying72 rfl (by rw [hl.out]; kernel_rfl) HC.out ?_)
  go_loopw [9] (fun i wr => ∃ (k : Nat), i = .int .i64 k ∧ (k : Int) ≤ 16 ∧ Hid (Below w.heap.size w wr) ∧ Hid (fsF pr ms = fsF pr (ms.drop k))) (fun i _ => 16 - (intOf i).toNat)
  case atStart => exact ⟨0, rfl, by omega, Below.refl _ _, rfl⟩
  case round =>
    obtain ⟨k, rfl, hk, HB, HA⟩ := hrel
    have HW : Hid (Tb wr q ms) := HT.out.below HB.out
    by_cases hlt : (k : Int) < 16
    · have hix := HT.out.ix HL.out k (by omega)
      have hdr := drop_at HT.out.len k (by omega)
      obtain ⟨x, hx⟩ : ∃ x, x = ms.getD k none := ⟨_, rfl⟩
      rw [← hx] at hix hdr
      have HD : Hid (ms.drop k = x :: ms.drop (k + 1)) := hdr
      have HX : Hid (x = ms.getD k none) := hx
      clear hx hdr
      cases x with
      | none =>
        unfold ptr at hix
        go_wp2_with fail
        go_roundw
        case rel =>
          refine ⟨k + 1, by go_num, by omega, HB, ?_⟩
          show _ = _
          rw [HA.out, HD.out]
          rfl
        case measure => simp [intOf]; omega
      | some m =>
        unfold ptr at hix
        have HM := (HW.out.mem k m (getD_some HX.out.symm)).1
        have c0 : wr.cell? ⟨m.b, 0, none⟩ = some (.int .i64 m.id) := HM.cell 0
        have HS : Hid (∀ j u, (asL m.ac)[j]? = some u → wr.cell? ((⟨m.b, 1, none⟩ : Addr).add j) = some u) := mb_as HM
        clear HM
        go_wp2_with (refine step_ldatW 41 _ rfl rfl ⟨m.b, 1, none⟩ (by rfl) (asL m.ac) _ Try.underlying41 rfl (by kernel_rfl) HS.out ?_)
        refine (isSearch_any m.ac wr).mono ?_
        rintro e w1 ⟨rfl, hb1⟩
        have H1 : Hid (Below w.heap.size w w1) := below_thru HB.out hb1
        have d0 : w1.cell? ⟨m.b, 0, none⟩ = some (.int .i64 m.id) := (hb1.cell (p := ⟨m.b, 0, none⟩) (World.block_lt_of_cell? _ _ c0)).trans c0
        obtain ⟨X, hX⟩ : ∃ X, srB m.ac = X := ⟨_, rfl⟩
        have HX2 : Hid (pr m = X) := (HP.out m).trans hX
        rw [hX]
        clear hb1 c0 hX
        cases X
        · go_wp2_with fail
          go_roundw
          case rel =>
            refine ⟨k + 1, by go_num, by omega, H1, ?_⟩
            show _ = _
            rw [HA.out, HD.out, fsF, if_neg (by rw [HX2.out]; simp)]
          case measure => simp [intOf]; omega
        · go_wp2_with fail
          rw [hQ.out]
          go_ret
          refine ⟨ret_int' ?_, H1.out⟩
          rw [HA.out, HD.out, fsF, if_pos HX2.out]
    · have HE : Hid (ms.drop k = []) := drop_end HT.out.len k (by omega)
      go_wp2_with fail
      rw [hQ.out]
      go_ret
      refine ⟨ret_int' ?_, HB.out⟩
      rw [HA.out, HE.out]
      rfl
/-- a group, or everybody -/
def mnB (a : Int) : Bool := decide (224 ≤ a / 16777216 ∧ a / 16777216 ≤ 239 ∨ a = 4294967295)
theorem isMany_any (a : Int) (w : World) : Calls Try.prog 56 #[.int .u32 a] w fun e w' => e = .returned (.bool (mnB a)) ∧ w' = w := by
  go_enter Try.func56, Try.ntmps56
  go_wp2
  all_goals
    go_ret
    exact ⟨ret_bool' (by rw [Bool.eq_iff_iff]; simp [mnB]; omega), rfl⟩
def sgB (a : Int) : Bool := decide (a ≠ 0) && !mnB a
theorem isSingle_any (a : Int) (w : World) : Calls Try.prog 46 #[.int .u32 a] w fun e w' => e = .returned (.bool (sgB a)) ∧ w' = w := by
  unfold sgB
  obtain ⟨M, hM⟩ : ∃ M, mnB a = M := ⟨_, rfl⟩
  have HM : Hid (mnB a = M) := hM
  rw [hM]
  clear hM
  by_cases ha : a = 0
  · subst ha
    go_enter Try.func46, Try.ntmps46
    go_wp2_with fail
    go_ret
    exact ⟨rfl, rfl⟩
  · have h2 : (a == 0) = false := by simpa using ha
    have h3 : decide (a ≠ 0) = true := by simpa using ha
    rw [h3]
    go_enter Try.func46, Try.ntmps46
    go_wp2_with (go_at_call 56; refine (isMany_any a w).mono ?_; rintro e w1 ⟨rfl, hw1⟩; rw [HM.out, hw1])
    go_ret
    exact ⟨ret_bool' (by simp [ha]), rfl⟩
/-- later than a second -/
def ltI (n : Int) : Int := if 9223372036854771711 < n then 9223372036854775807 else if n = -4096 then 1 else n + 4096
theorem later_any (n : Int) (w : World) (h0 : -9223372036854775808 ≤ n) : Calls Try.prog 40 #[.int .i64 n] w fun e w' => e = .returned (.int .i64 (ltI n)) ∧ w' = w := by
  unfold ltI
  by_cases h1 : 9223372036854771711 < n
  · rw [if_pos h1]
    go_enter Try.func40, Try.ntmps40
    go_wp2_with fail
    go_ret
    exact ⟨rfl, rfl⟩
  · rw [if_neg h1]
    by_cases h2 : n = -4096
    · subst h2
      rw [if_pos rfl]
      go_enter Try.func40, Try.ntmps40
      go_wp2_with fail
      go_ret
      exact ⟨rfl, rfl⟩
    · rw [if_neg h2]
      have h3 : (n == -4096) = false := by simpa using h2
      go_enter Try.func40, Try.ntmps40
      go_wp2_with fail
      go_ret
      exact ⟨rfl, rfl⟩
end Go.Proofs.Ytnjdmkgkpdebdaa
