/- What the law holds two packets against one another with: same, at equal packets. -/
import Derived.Test.YtmgphfdieekpdabGM
namespace Go.Proofs.Ytmgphfdieekpdab
open Go Go.RowKit
set_option maxRecDepth 20000 in
set_option maxHeartbeats 1000000 in
theorem same_any (p : Pk) (w : World) : Calls Try.prog 10 #[.agg (pkC p).toArray, .agg (pkC p).toArray] w fun e w' => e = .returned (.bool true) ∧ Below w.heap.size w w' := by
  obtain ⟨a0, a1, a2, a3, a4, a5, a6, a7, a8, a9, a10, a11, a12, eo, en, ec, key, nak, mo, mn, mc⟩ := p
  unfold pkC
  simp only
  go_enter Try.func10, Try.ntmps10
  refine post_hid fun Q hQ => ?_
  refine seq_hid fun R hR => ?_
  go_wp2
  refine world_hid fun W0 hW0 => ?_
  have k0 : W0.cell? ⟨w.heap.size, 0, none⟩ = some (.int .i64 a0) := by rw [hW0.out]; simp
  have k1 : W0.cell? ⟨w.heap.size, 1, none⟩ = some (.int .i64 a1) := by rw [hW0.out]; simp
  have k2 : W0.cell? ⟨w.heap.size, 2, none⟩ = some (.int .i64 a2) := by rw [hW0.out]; simp
  have k3 : W0.cell? ⟨w.heap.size, 3, none⟩ = some (.int .i64 a3) := by rw [hW0.out]; simp
  have k4 : W0.cell? ⟨w.heap.size, 4, none⟩ = some (.int .i64 a4) := by rw [hW0.out]; simp
  have k5 : W0.cell? ⟨w.heap.size, 5, none⟩ = some (.int .i64 a5) := by rw [hW0.out]; simp
  have k6 : W0.cell? ⟨w.heap.size, 6, none⟩ = some (.int .i64 a6) := by rw [hW0.out]; simp
  have k7 : W0.cell? ⟨w.heap.size, 7, none⟩ = some (.int .i64 a7) := by rw [hW0.out]; simp
  have k8 : W0.cell? ⟨w.heap.size, 8, none⟩ = some (.int .u32 a8) := by rw [hW0.out]; simp
  have k9 : W0.cell? ⟨w.heap.size, 9, none⟩ = some (.int .u64 a9) := by rw [hW0.out]; simp
  have k10 : W0.cell? ⟨w.heap.size, 10, none⟩ = some (.int .u64 a10) := by rw [hW0.out]; simp
  have k11 : W0.cell? ⟨w.heap.size, 11, none⟩ = some (.int .u64 a11) := by rw [hW0.out]; simp
  have k12 : W0.cell? ⟨w.heap.size, 12, none⟩ = some (.int .u64 a12) := by rw [hW0.out]; simp
  have k13 : W0.cell? ⟨w.heap.size, 13, none⟩ = some (.slice eo en ec) := by rw [hW0.out]; simp
  have k14 : W0.cell? ⟨w.heap.size, 14, none⟩ = some (.int .i64 key) := by rw [hW0.out]; simp
  have k15 : W0.cell? ⟨w.heap.size, 15, none⟩ = some (.bool nak) := by rw [hW0.out]; simp
  have k16 : W0.cell? ⟨w.heap.size, 16, none⟩ = some (.slice mo mn mc) := by rw [hW0.out]; simp
  have l0 : W0.cell? ⟨w.heap.size + 1, 0, none⟩ = some (.int .i64 a0) := by rw [hW0.out]; simp
  have l1 : W0.cell? ⟨w.heap.size + 1, 1, none⟩ = some (.int .i64 a1) := by rw [hW0.out]; simp
  have l2 : W0.cell? ⟨w.heap.size + 1, 2, none⟩ = some (.int .i64 a2) := by rw [hW0.out]; simp
  have l3 : W0.cell? ⟨w.heap.size + 1, 3, none⟩ = some (.int .i64 a3) := by rw [hW0.out]; simp
  have l4 : W0.cell? ⟨w.heap.size + 1, 4, none⟩ = some (.int .i64 a4) := by rw [hW0.out]; simp
  have l5 : W0.cell? ⟨w.heap.size + 1, 5, none⟩ = some (.int .i64 a5) := by rw [hW0.out]; simp
  have l6 : W0.cell? ⟨w.heap.size + 1, 6, none⟩ = some (.int .i64 a6) := by rw [hW0.out]; simp
  have l7 : W0.cell? ⟨w.heap.size + 1, 7, none⟩ = some (.int .i64 a7) := by rw [hW0.out]; simp
  have l8 : W0.cell? ⟨w.heap.size + 1, 8, none⟩ = some (.int .u32 a8) := by rw [hW0.out]; simp
  have l9 : W0.cell? ⟨w.heap.size + 1, 9, none⟩ = some (.int .u64 a9) := by rw [hW0.out]; simp
  have l10 : W0.cell? ⟨w.heap.size + 1, 10, none⟩ = some (.int .u64 a10) := by rw [hW0.out]; simp
  have l11 : W0.cell? ⟨w.heap.size + 1, 11, none⟩ = some (.int .u64 a11) := by rw [hW0.out]; simp
  have l12 : W0.cell? ⟨w.heap.size + 1, 12, none⟩ = some (.int .u64 a12) := by rw [hW0.out]; simp
  have l13 : W0.cell? ⟨w.heap.size + 1, 13, none⟩ = some (.slice eo en ec) := by rw [hW0.out]; simp
  have l14 : W0.cell? ⟨w.heap.size + 1, 14, none⟩ = some (.int .i64 key) := by rw [hW0.out]; simp
  have l15 : W0.cell? ⟨w.heap.size + 1, 15, none⟩ = some (.bool nak) := by rw [hW0.out]; simp
  have l16 : W0.cell? ⟨w.heap.size + 1, 16, none⟩ = some (.slice mo mn mc) := by rw [hW0.out]; simp
  have HB : Hid (Below w.heap.size w W0) := by show Below _ _ _; rw [hW0.out]; exact ((Below.refl _ _).alloc (Nat.le_refl _) _).alloc (by simp) _
  clear hW0
  rw [hR.out]
  clear hR
  go_wp2
  rw [hQ.out]
  exact bodyPost_ret (v := .bool true) (by simp [results, Try.results10]) rfl ⟨rfl, HB.out⟩
end Go.Proofs.Ytmgphfdieekpdab
