/- What Abs and Clamp of the reference return, and Abs of package fixed. -/
import Derived.Test.YtlggademcmkihaaBigJ
import Derived.Test.YtlggademcmkihaaFixA
import Derived.WalkKit
import Derived.WalkSpells
import Derived.WalkLawsBesides
import Derived.Handy
import Derived.Deep.RegionHeld3
namespace Go.Proofs.Ytlggademcmkihaa
open Go.RowKit
theorem one_size {w w1 : World} {x : Obj} {n : Nat} (h : Below (w.alloc x).heap.size ((w.alloc x).drewN n) w1) : w.heap.size + 1 ≤ w1.heap.size := by
  have h1 := h.size
  have h2 : ((w.alloc x).drewN n).heap.size = w.heap.size + 1 := by simp [World.drewN]
  omega
theorem one_free {w w1 : World} {x0 x1 : Value} {t : TypeId} {n : Nat} (h : Below (w.alloc (.cells #[x0, x1] t)).heap.size ((w.alloc (.cells #[x0, x1] t)).drewN n) w1) : w1.frozen? ⟨w.heap.size, 0, none⟩ = false := by
  have b0 : w1.heap[w.heap.size]? = some (.cells #[x0, x1] t (0, 0)) := (h.block _ (by simp)).trans (heap_alloc_new w (.cells #[x0, x1] t))
  exact (two_cells b0).2.2.1
theorem cl_cl (m a : Int) (h : 0 ≤ m) : Fx.cl 4611686018427387904 (Fx.cl m a) = Fx.cl (min m 4611686018427387904) a := by unfold Fx.cl; omega
end Go.Proofs.Ytlggademcmkihaa
