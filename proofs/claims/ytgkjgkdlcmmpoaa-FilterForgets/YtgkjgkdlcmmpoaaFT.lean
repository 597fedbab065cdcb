/- Best of the reference where there are no samples; Clear of the program; same of the laws. -/
import Derived.Test.YtgkjgkdlcmmpoaaFR
namespace Go.Proofs.Ytgkjgkdlcmmpoaa
open Go Go.RowKit Fi
set_option maxRecDepth 20000 in
set_option maxHeartbeats 1000000 in
theorem rbest_none {w : World} {g B : Nat} {t : Bool} {la : Int} (now : Int) (h : Rf w g B [] t la) :
    Calls Try.prog 12 #[.pointer (some ⟨g, 0, none⟩), .int .u64 now] w fun e w' => e = .returned (.agg (bsL 0 0 68719476736 0 0 false).toArray) ∧ Below w.heap.size w w' := by
  obtain ⟨h1, h2, h3, v, h4, h5⟩ := h
  have hlv : ∀ u, (Builtin.len_ #[22] 3 #[v]).run Try.prog u = .ok (.int .i64 0) u := h5.len
  have hc : w.cell? ⟨g, 0, none⟩ = some v := h4.cell 0
  have hp := h4.lt
  clear h1 h2 h3 h4 h5
  go_enter Try.func12, Try.ntmps12
  refine post_hid fun Q hQ => ?_
  refine seq_hid fun R hR => ?_
  go_wp2
  refine world_hid fun W0 hW0 => ?_
  have hB0 : Below w.heap.size w W0 := by rw [hW0.out]; exact (Below.refl _ _).alloc (Nat.le_refl _) _
  have HR0 : Hid (Bk w.heap.size W0 #[.int .i64 0, .int .i64 0, .int .i64 0, .int .i64 0, .int .u64 0, .bool false] 33) := by show Bk _ _ _ _; rw [hW0.out]; exact Bk.new _ _ _
  have g0 : W0.cell? ⟨g, 0, none⟩ = some v := (hB0.cell (p := ⟨g, 0, none⟩) hp).trans hc
  have HB0 : Hid (Below w.heap.size w W0) := hB0
  clear hW0 hB0 hc hp
  rw [hR.out]
  clear hR
  refine seq_hid fun R hR => ?_
  go_wp2_with (refine step_stR (by rfl) _ _ rfl w.heap.size (bsL 0 0 68719476736 0 0 false).toArray (by rfl) (by rfl) #[.int .i64 0, .int .i64 0, .int .i64 0, .int .i64 0, .int .u64 0, .bool false] (by kernel_rfl) (by rfl) (by kernel_rfl) HR0.out ?_)
  rw [hQ.out]
  exact bodyPost_ret (v := .agg (bsL 0 0 68719476736 0 0 false).toArray) (results_cell_row Try.results12 _ _ w.heap.size _ _ (0, 0) _ (by rfl) (setRow_heap W0 _ _ _ _ _ HR0.out) Try.underlying33 rfl (by kernel_rfl)) rfl ⟨rfl, below_row HB0.out (Nat.le_refl _) _⟩
theorem fc_all (rs : List Smp) (n c : Int) (t : Bool) (la : Int) : (Fc rs n c t la).toArray.all (·.oneCell') = true := by
  rw [Array.all_eq_true_iff_forall_mem]
  intro u hu
  rw [List.mem_toArray] at hu
  unfold Fc at hu
  rcases List.mem_append.1 hu with hu | hu
  · have := Array.all_eq_true_iff_forall_mem.1 (smF_all rs) u (by simpa using hu)
    exact this
  · simp at hu; rcases hu with rfl | rfl | rfl | rfl <;> rfl
set_option maxRecDepth 20000 in
set_option maxHeartbeats 1000000 in
theorem fclear_any {w : World} {p : Nat} {xs : List Smp} {t : Bool} {la : Int} (h : Fl w p xs t la) :
    Calls Try.prog 13 #[.pointer (some ⟨p, 0, none⟩)] w fun e w' => e = .returned (.tuple #[]) ∧ Fl w' p [] false 0 ∧ w.grownBy w' (some p) := by
  obtain ⟨hl, rs, n, hn, hr, hb⟩ := h
  have HB : Hid (Fb w p rs n xs.length t la) := hb
  have HSZ : Hid ((Fc rs n xs.length t la).toArray.size = (Fc (List.replicate 8 z0) 0 0 false 0).toArray.size) := by
    show _ = _
    rw [List.size_toArray, List.size_toArray, Fc_len hb.len]; rfl
  have HK : Hid (Bk p w (Fc rs n xs.length t la).toArray 51) := hb.blk
  clear hl hn hr hb
  go_enter Try.func13, Try.ntmps13
  go_wp2_with (refine step_stR (by rfl) _ _ rfl p (Fc (List.replicate 8 z0) 0 0 false 0).toArray (by rfl) (by rfl) _ (by kernel_rfl) HSZ.out (by kernel_rfl) HK.out ?_)
  go_end0
  exact ⟨rfl, ⟨by simp, List.replicate 8 z0, 0, by omega, fun i hi => by simp at hi, ⟨rfl, setRow_heap w _ _ _ _ _ HK.out⟩⟩, grownBy_row w p _⟩
set_option maxRecDepth 20000 in
set_option maxHeartbeats 1000000 in
theorem same_any (va vb : Value) (Ca Cb : Nat) (xs : List Smp) (w : World) (ha : Sv4 w Ca va xs) (hb : Sv4 w Cb vb xs) (hl : xs.length ≤ 1000000) :
    Calls Try.prog 16 #[va, vb] w fun e w' => e = .returned (.bool true) ∧ ∃ n, w' = w.drewN n := by
  have hla := ha.len
  have hlb := hb.len
  obtain ⟨n, hn⟩ : ∃ n, n = xs.length := ⟨_, rfl⟩
  rw [← hn] at hla hlb
  have H : Hid (Sv4 w Ca va xs ∧ Sv4 w Cb vb xs ∧ n = xs.length) := ⟨ha, hb, hn⟩
  have hn2 : (n : Int) ≤ 1000000 := by omega
  clear ha hb hn hl
  go_enter Try.func16, Try.ntmps16
  go_wp2
  go_loopw [5] (fun i wr => ∃ (k nq : Nat), i = .int .i64 k ∧ (k : Int) ≤ n ∧ wr = w.drewN nq) (fun i _ => n - (intOf i).toNat)
  case atStart => exact ⟨0, 0, rfl, by omega, rfl⟩
  case round =>
    obtain ⟨k, nq, rfl, hk, rfl⟩ := hrel
    by_cases hlt : (k : Int) < n
    · have hkx : k < xs.length := by have := H.out.2.2; omega
      obtain ⟨aa, hixa, haa, hca⟩ := H.out.1.at k hkx
      obtain ⟨ab, hixb, hab, hcb⟩ := H.out.2.1.at k hkx
      obtain ⟨y, hy⟩ : ∃ y, y = xs.getD k z0 := ⟨_, rfl⟩
      rw [← hy] at hca hcb
      obtain ⟨so, sd, sp, sa⟩ := y
      obtain ⟨wa, hwa⟩ : ∃ wa, wa = w.drewN nq := ⟨_, rfl⟩
      have HCa : Hid (∀ w', (∃ n, w' = wa.drewN n) → ∀ j u, ([.int .i64 so, .int .i64 sd, .int .i64 sp, .int .u64 sa] : List Value)[j]? = some u → w'.cell? (aa.add j) = some u) := by
        rintro _ ⟨q, rfl⟩ j u hu
        rw [hwa]
        exact hca j u hu
      have HCb : Hid (∀ w', (∃ n, w' = wa.drewN n) → ∀ j u, ([.int .i64 so, .int .i64 sd, .int .i64 sp, .int .u64 sa] : List Value)[j]? = some u → w'.cell? (ab.add j) = some u) := by
        rintro _ ⟨q, rfl⟩ j u hu
        rw [hwa]
        exact hcb j u hu
      have HWA : Hid (wa = w.drewN nq) := hwa
      rw [← hwa]
      clear hwa hca hcb hkx hy haa hab
      go_wp2_with fail
      refine wp_region_quiet_lit (by kernel_rfl) (by kernel_rfl) ?_
      repeat (first | (refine quiet_ld6 (by rfl) 27 _ rfl aa (by rfl) [.int .i64 so, .int .i64 sd, .int .i64 sp, .int .u64 sa] _ Try.underlying27 rfl (by kernel_rfl) HCa.out ?_) | (refine quiet_ld6 (by rfl) 27 _ rfl ab (by rfl) [.int .i64 so, .int .i64 sd, .int .i64 sp, .int .u64 sa] _ Try.underlying27 rfl (by kernel_rfl) HCb.out ?_) | (quiet_step (fail)))
      refine wpQuiet_nil ?_
      intro _ hw'
      obtain ⟨nr, hw''⟩ := hw'
      subst hw''
      go_wp2_with fail
      go_roundw
      case rel => exact ⟨k + 1, nq + nr, by go_num, by omega, by rw [HWA.out, World.drewN_drewN]⟩
      case measure => simp [intOf]; omega
    · go_wp2_with fail
      go_ret
      exact ⟨rfl, _, rfl⟩
end Go.Proofs.Ytgkjgkdlcmmpoaa
