/- New of the program. -/
import Derived.Test.YtocaiimhbmhakaaJC
namespace Go.Proofs.Ytocaiimhbmhakaa
open Go Go.RowKit Go.Sort
set_option maxHeartbeats 1000000 in
theorem new_ok (a : As) (now draw : Int) (w : World) (ha : okA a) : Calls Try.prog 9 #[.agg (asL a).toArray, .int .i64 now, .int .i64 draw] w fun e w' => ∃ p, e = .returned (.tuple #[.pointer (some ⟨p, 0, none⟩), .int .i64 0]) ∧ Po w' p (newS a now draw) ∧ w.heap.size ≤ p ∧ Below w.heap.size w w' := by
  obtain ⟨h1, h2, h3⟩ := ha
  have mx := run_mx
  have b := pw_bd a.minp (by omega)
  have k1 : wrap64 (2 ^ a.minp.toNat) = pw a.minp := w64 (pw a.minp) (by omega) (by omega)
  obtain ⟨M, hM⟩ : ∃ M, pw a.minp = M := ⟨_, rfl⟩
  rw [hM] at k1 b
  have HM : Hid (pw a.minp = M) := hM
  have m0 : ¬ M = 0 := by omega
  have k2 : IntKind.i64.wrap (2 ^ a.minp.toNat) = M := by
    rw [IntWalk.i64_left]; exact k1
  have k3 : IntKind.i64.wrap (1 * 2 ^ a.minp.toNat) = M := by rw [Int.one_mul]; exact k2
  have bt : 0 ≤ max draw 0 % M ∧ max draw 0 % M < M := ⟨Int.emod_nonneg _ (by omega), Int.emod_lt_of_pos _ (by omega)⟩
  have bc := ck_bd now
  obtain ⟨T, hT⟩ : ∃ T, max draw 0 % M = T := ⟨_, rfl⟩
  have tm : (max draw 0).tmod M = T := by rw [← hT]; exact Int.tmod_eq_emod_of_nonneg (by omega)
  obtain ⟨N, hN⟩ : ∃ N, ck now + T = N := ⟨_, rfl⟩
  have kS : wrap64 (ck now + T) = N := by rw [← hN]; exact w64 _ (by omega) (by omega)
  have kS' : IntKind.i64.wrap (ck now + T) = N := by rw [IntWalk.i64_left]; exact kS
  have HN : Hid (ck now + max draw 0 % pw a.minp = N) := by show _ = _; rw [HM.out, hT, hN]
  clear hM hT hN bt bc b
  unfold asL newS
  rw [HN.out]
  go_enter Try.func9, Try.ntmps9
  refine post_hid fun Q hQ => ?_
  refine seq_hid fun R hR => ?_
  go_wp2
  refine world_hid fun W hW => ?_
  have hK : Bk w.heap.size W (asL a).toArray 25 := by rw [hW.out]; exact Bk.new _ _ _
  have c3 : W.cell? ⟨w.heap.size, 3, none⟩ = some (.int .i64 a.minp) := hK.cell 3
  have c4 : W.cell? ⟨w.heap.size, 4, none⟩ = some (.int .i64 a.maxp) := hK.cell 4
  have c5 : W.cell? ⟨w.heap.size, 5, none⟩ = some (.bool a.burst) := hK.cell 5
  have c6 : W.cell? ⟨w.heap.size, 6, none⟩ = some (.bool a.ib) := hK.cell 6
  have HB : Hid (Below w.heap.size w W ∧ w.heap.size < W.heap.size) := ⟨by rw [hW.out]; exact (Below.refl _ _).alloc (Nat.le_refl _) _, hK.lt⟩
  clear hW hK
  rw [hR.out]
  clear hR
  go_wp2
  go_region_held3 (fun w' => w'.cell? ⟨w.heap.size, 3, none⟩ = some (.int .i64 a.minp) ∧ w'.cell? ⟨w.heap.size, 4, none⟩ = some (.int .i64 a.maxp) ∧ w'.cell? ⟨w.heap.size, 5, none⟩ = some (.bool a.burst) ∧ w'.cell? ⟨w.heap.size, 6, none⟩ = some (.bool a.ib)) (first | exact ⟨c3, c4, c5, c6⟩ | go_keep) ((go_at_call 21; refine (counted_any _ _).mono ?_; rintro e w' ⟨rfl, rfl⟩))
  all_goals
    go_wp2
    rw [hQ.out]
    go_ret2
    refine ⟨_, rfl, ?_, Nat.le_of_lt HB.out.2, ?_⟩
    · exact Bk.new W _ _
    · exact HB.out.1.trans ((((Below.refl _ _).alloc (Nat.le_refl _) _).drew).mono HB.out.1.size)
set_option maxHeartbeats 1000000 in
theorem new_bad (a : As) (now draw : Int) (w : World) (ha : ¬ okA a) : Calls Try.prog 9 #[.agg (asL a).toArray, .int .i64 now, .int .i64 draw] w fun e w' => e = .returned (.tuple #[.pointer none, .int .i64 1]) ∧ Below w.heap.size w w' := by
  have hb : (decide (a.minp < 3) || decide (10 < a.maxp) || decide (a.maxp < a.minp)) = true := by
    unfold okA at ha
    simp only [Bool.or_eq_true, decide_eq_true_eq]
    omega
  unfold asL
  go_enter Try.func9, Try.ntmps9
  refine post_hid fun Q hQ => ?_
  refine seq_hid fun R hR => ?_
  go_wp2
  refine world_hid fun W hW => ?_
  have hK : Bk w.heap.size W (asL a).toArray 25 := by rw [hW.out]; exact Bk.new _ _ _
  have c3 : W.cell? ⟨w.heap.size, 3, none⟩ = some (.int .i64 a.minp) := hK.cell 3
  have c4 : W.cell? ⟨w.heap.size, 4, none⟩ = some (.int .i64 a.maxp) := hK.cell 4
  have HB : Hid (Below w.heap.size w W) := by rw [hW.out]; exact (Below.refl _ _).alloc (Nat.le_refl _) _
  clear hW hK
  rw [hR.out]
  clear hR
  have Hb : Hid (¬ okA a) := ha
  clear ha
  go_wp2
  all_goals first
    | (exfalso; exact Hb.out (by unfold okA; omega))
    | (rw [hQ.out]
       go_ret2
       exact ⟨rfl, HB.out⟩)
end Go.Proofs.Ytocaiimhbmhakaa
