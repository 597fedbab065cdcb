/- same, of a packet and itself. -/
import Derived.Test.YtlggademcmkihaaIA
namespace Go.Proofs.Ytlggademcmkihaa
open Go Go.RowKit Go.Sort
set_option maxRecDepth 20000 in
set_option maxHeartbeats 1000000 in
theorem same_any (q : Pk) (w : World) : Calls Try.prog 15 #[.agg (pkC q).toArray, .agg (pkC q).toArray] w fun e w' => e = .returned (.bool true) ∧ Below w.heap.size w w' := by
  go_enter Try.func15, Try.ntmps15
  refine post_hid fun Q hQ => ?_
  refine seq_hid fun R hR => ?_
  go_wp2_with fail
  refine world_hid fun W hW => ?_
  have HW : Hid (Bk w.heap.size W (pkC q).toArray 44 ∧ Bk (w.heap.size + 1) W (pkC q).toArray 44 ∧ Below w.heap.size w W) := by
    rw [hW.out]
    have h1 := Bk.new w (pkC q).toArray 44
    have h2 := Bk.new (w.alloc (.cells (pkC q).toArray 44)) (pkC q).toArray 44
    rw [size_alloc1] at h2
    exact ⟨h1.kept (((Below.refl _ _).alloc (Nat.le_refl _) _).block _ (by simp)), h2, ((Below.refl _ _).alloc (Nat.le_refl _) _).alloc (by simp) _⟩
  clear hW
  rw [hR.out]
  clear hR
  have a0 : W.cell? ⟨w.heap.size, 0, none⟩ = some (.int .i64 q.leap) := HW.out.1.cell 0
  have b0 : W.cell? ⟨w.heap.size + 1, 0, none⟩ = some (.int .i64 q.leap) := HW.out.2.1.cell 0
  have a1 : W.cell? ⟨w.heap.size, 1, none⟩ = some (.int .i64 q.ver) := HW.out.1.cell 1
  have b1 : W.cell? ⟨w.heap.size + 1, 1, none⟩ = some (.int .i64 q.ver) := HW.out.2.1.cell 1
  have a2 : W.cell? ⟨w.heap.size, 2, none⟩ = some (.int .i64 q.mode) := HW.out.1.cell 2
  have b2 : W.cell? ⟨w.heap.size + 1, 2, none⟩ = some (.int .i64 q.mode) := HW.out.2.1.cell 2
  have a3 : W.cell? ⟨w.heap.size, 3, none⟩ = some (.int .i64 q.str) := HW.out.1.cell 3
  have b3 : W.cell? ⟨w.heap.size + 1, 3, none⟩ = some (.int .i64 q.str) := HW.out.2.1.cell 3
  have a4 : W.cell? ⟨w.heap.size, 4, none⟩ = some (.int .i64 q.poll) := HW.out.1.cell 4
  have b4 : W.cell? ⟨w.heap.size + 1, 4, none⟩ = some (.int .i64 q.poll) := HW.out.2.1.cell 4
  have a5 : W.cell? ⟨w.heap.size, 5, none⟩ = some (.int .i64 q.prec) := HW.out.1.cell 5
  have b5 : W.cell? ⟨w.heap.size + 1, 5, none⟩ = some (.int .i64 q.prec) := HW.out.2.1.cell 5
  have a6 : W.cell? ⟨w.heap.size, 6, none⟩ = some (.int .i64 q.del) := HW.out.1.cell 6
  have b6 : W.cell? ⟨w.heap.size + 1, 6, none⟩ = some (.int .i64 q.del) := HW.out.2.1.cell 6
  have a7 : W.cell? ⟨w.heap.size, 7, none⟩ = some (.int .i64 q.dis) := HW.out.1.cell 7
  have b7 : W.cell? ⟨w.heap.size + 1, 7, none⟩ = some (.int .i64 q.dis) := HW.out.2.1.cell 7
  have a8 : W.cell? ⟨w.heap.size, 8, none⟩ = some (.int .u32 q.rid) := HW.out.1.cell 8
  have b8 : W.cell? ⟨w.heap.size + 1, 8, none⟩ = some (.int .u32 q.rid) := HW.out.2.1.cell 8
  have a9 : W.cell? ⟨w.heap.size, 9, none⟩ = some (.int .u64 q.ref) := HW.out.1.cell 9
  have b9 : W.cell? ⟨w.heap.size + 1, 9, none⟩ = some (.int .u64 q.ref) := HW.out.2.1.cell 9
  have a10 : W.cell? ⟨w.heap.size, 10, none⟩ = some (.int .u64 q.org) := HW.out.1.cell 10
  have b10 : W.cell? ⟨w.heap.size + 1, 10, none⟩ = some (.int .u64 q.org) := HW.out.2.1.cell 10
  have a11 : W.cell? ⟨w.heap.size, 11, none⟩ = some (.int .u64 q.rc) := HW.out.1.cell 11
  have b11 : W.cell? ⟨w.heap.size + 1, 11, none⟩ = some (.int .u64 q.rc) := HW.out.2.1.cell 11
  have a12 : W.cell? ⟨w.heap.size, 12, none⟩ = some (.int .u64 q.xmt) := HW.out.1.cell 12
  have b12 : W.cell? ⟨w.heap.size + 1, 12, none⟩ = some (.int .u64 q.xmt) := HW.out.2.1.cell 12
  have a13 : W.cell? ⟨w.heap.size, 13, none⟩ = some (.slice q.eo q.en q.ec) := HW.out.1.cell 13
  have b13 : W.cell? ⟨w.heap.size + 1, 13, none⟩ = some (.slice q.eo q.en q.ec) := HW.out.2.1.cell 13
  have a14 : W.cell? ⟨w.heap.size, 14, none⟩ = some (.int .i64 q.key) := HW.out.1.cell 14
  have b14 : W.cell? ⟨w.heap.size + 1, 14, none⟩ = some (.int .i64 q.key) := HW.out.2.1.cell 14
  have a15 : W.cell? ⟨w.heap.size, 15, none⟩ = some (.bool q.nak) := HW.out.1.cell 15
  have b15 : W.cell? ⟨w.heap.size + 1, 15, none⟩ = some (.bool q.nak) := HW.out.2.1.cell 15
  have a16 : W.cell? ⟨w.heap.size, 16, none⟩ = some (.slice q.mo q.mn q.mc) := HW.out.1.cell 16
  have b16 : W.cell? ⟨w.heap.size + 1, 16, none⟩ = some (.slice q.mo q.mn q.mc) := HW.out.2.1.cell 16
  go_wp2_with fail
  rw [hQ.out]
  go_ret
  exact ⟨rfl, HW.out.2.2⟩
end Go.Proofs.Ytlggademcmkihaa
