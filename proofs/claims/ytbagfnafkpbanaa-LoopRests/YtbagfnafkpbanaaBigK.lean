/- What Abs and Clamp of the reference return, and Abs of package fixed. -/
import Derived.Test.YtbagfnafkpbanaaBigJ
import Derived.Test.YtbagfnafkpbanaaFixA
import Derived.WalkKit
import Derived.WalkSpells
import Derived.WalkLawsBesides
import Derived.Handy
import Derived.Deep.RegionHeld3
namespace Go.Proofs.Ytbagfnafkpbanaa
open Go.RowKit
set_option maxRecDepth 20000 in
set_option maxHeartbeats 400000 in
theorem abs_any (a : Int) (w : World) (ha0 : -9223372036854775808 ≤ a) (ha1 : a ≤ 9223372036854775807) :
    Calls Try.prog 26 #[.int .i64 a] w fun e w' => e = .returned (.int .i64 (Fx.cl 4611686018427387904 (a.natAbs : Int))) ∧ w' = w := by
  by_cases h : a < 0
  · go_enter Try.func26, Try.ntmps26
    go_wp2_with (go_at_call 45; refine (neg_any _ _ (by omega) (by omega)).mono ?_; rintro e w' ⟨rfl, rfl⟩)
    go_ret
    exact ⟨ret_i64 (by rw [show ((a.natAbs : Nat) : Int) = -a from by omega]), rfl⟩
  · go_enter Try.func26, Try.ntmps26
    go_wp2_with (go_at_call 44; refine (bound_any _ _ _ (by omega) (by omega)).mono ?_; rintro e w' ⟨rfl, rfl⟩)
    go_ret
    exact ⟨ret_i64 (by rw [show ((a.natAbs : Nat) : Int) = a from by omega]), rfl⟩
set_option maxRecDepth 20000 in
set_option maxHeartbeats 400000 in
theorem rabs_any (a : Int) (w : World) (ha0 : -9223372036854775808 ≤ a) (ha1 : a ≤ 9223372036854775807) :
    Calls Try.prog 33 #[.int .i64 a] w fun e w' => e = .returned (.int .i64 (Fx.cl 4611686018427387904 (a.natAbs : Int))) ∧ Below w.heap.size w w' := by
  have hfd := field_run
  go_enter Try.func33, Try.ntmps33
  go_wp2_with fail
  refine (s_any a _ ha0 ha1).mono ?_
  rintro e w1 ⟨v1, rfl, ⟨o, ds, c, m, rfl, t1, t2, t3, t4, t5⟩, k1⟩
  have F : Hid (Rd w1 o ds ∧ Bg.can ds ∧ a = sgn m (Bg.val ds) ∧ Below w.heap.size w w1) := ⟨t2, t3, t4, k1⟩
  have hl : (ds.length : Int) ≤ 1000 := by have := sm_len t3 t4 (Sm.word ha0 ha1); omega
  clear t1 t2 t3 t4 t5 k1
  go_wp2_with fail
  refine (rspan_any o ds c false w1 hl F.out.1 F.out.2.1).mono ?_
  rintro e w2 ⟨rfl, k2⟩
  have hv : sgn false (Bg.val ds) = ((a.natAbs : Nat) : Int) := by rw [F.out.2.2.1, natAbs_sgn]; rfl
  have K2 : Hid (Below w.heap.size w w2) := Below.then F.out.2.2.2 k2
  rw [hv]
  clear k2 hv hfd
  go_wp2
  go_ret
  exact ⟨rfl, K2.out⟩
theorem one_size {w w1 : World} {x : Obj} {n : Nat} (h : Below (w.alloc x).heap.size ((w.alloc x).drewN n) w1) : w.heap.size + 1 ≤ w1.heap.size := by
  have h1 := h.size
  have h2 : ((w.alloc x).drewN n).heap.size = w.heap.size + 1 := by simp [World.drewN]
  omega
theorem one_free {w w1 : World} {x0 x1 : Value} {t : TypeId} {n : Nat} (h : Below (w.alloc (.cells #[x0, x1] t)).heap.size ((w.alloc (.cells #[x0, x1] t)).drewN n) w1) : w1.frozen? ⟨w.heap.size, 0, none⟩ = false := by
  have b0 : w1.heap[w.heap.size]? = some (.cells #[x0, x1] t (0, 0)) := (h.block _ (by simp)).trans (heap_alloc_new w (.cells #[x0, x1] t))
  exact (two_cells b0).2.2.1
theorem cl_cl (m a : Int) (h : 0 ≤ m) : Fx.cl 4611686018427387904 (Fx.cl m a) = Fx.cl (min m 4611686018427387904) a := by unfold Fx.cl; omega
end Go.Proofs.Ytbagfnafkpbanaa
