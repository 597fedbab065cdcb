/- What OfDate tells, both ways in one, for the law StampNext. -/
import Derived.Test.YtifaneckfnjgiabStH
import Derived.Test.YtifaneckfnjgiabCalN
import Derived.WalkKit
import Derived.WalkSpells
import Derived.WalkLawsBesides
import Derived.Handy
import Derived.Below
namespace Go.Proofs.Ytifaneckfnjgiab
open Go.RowKit
/-- what OfDate may tell -/
def OfIs (era t y m d h n s f c : Int) : Prop := (c = 20 ∧ (ds era t < 0 ∨ 66269577600 ≤ ds era t)) ∨ (c = 0 ∧ f = t % 4294967296 ∧ Cal.Day y m d ∧ Cal.Time h n s ∧ Cal.sec y m d h n s = ds era t)
theorem ofDate_any (era t : Int) (w : World) (t0 : 0 ≤ t) (t1 : t < 18446744073709551616) :
    Calls Try.prog 8 #[.agg #[.int .i64 era, .int .u64 t]] w fun e w' => ∃ y m d h n s f c : Int, e = .returned (.tuple #[.agg #[.int .i64 y, .int .i64 m, .int .i64 d, .int .i64 h, .int .i64 n, .int .i64 s, .int .u32 f], .int .i64 c]) ∧ OfIs era t y m d h n s f c ∧ Below w.heap.size w w' := by
  by_cases g : ds era t < 0 ∨ 66269577600 ≤ ds era t
  · refine (ofDate_no era t w t0 t1 g).mono ?_
    rintro e w' ⟨rfl, hb⟩
    exact ⟨0, 0, 0, 0, 0, 0, 0, 20, rfl, Or.inl ⟨rfl, g⟩, hb⟩
  · refine (ofDate_yes era t w t0 t1 (by omega) (by omega)).mono ?_
    rintro e w' ⟨y, m, d, h, n, s, rfl, hd, ht, hs, hb⟩
    exact ⟨y, m, d, h, n, s, _, 0, rfl, Or.inr ⟨rfl, rfl, hd, ht, hs⟩, hb⟩
/-- a date that lies boxed in a call's first block stays -/
structure Kd (w v : World) (e p : Int) : Prop where
  bel : Below w.heap.size w v
  top : w.heap.size < v.heap.size
  c0 : v.cell? ⟨w.heap.size, 0, none⟩ = some (.int .i64 e)
  c1 : v.cell? ⟨w.heap.size, 1, none⟩ = some (.int .u64 p)
theorem Kd.step {w v v' : World} {e p : Int} (h : Kd w v e p) (hb : Below v.heap.size v v') : Kd w v' e p :=
  ⟨h.bel.trans (hb.mono (Nat.le_of_lt h.top)), Nat.lt_of_lt_of_le h.top hb.size, by rw [hb.cell h.top]; exact h.c0, by rw [hb.cell h.top]; exact h.c1⟩
theorem Kd.alloc {w v : World} {e p : Int} (h : Kd w v e p) (o : Obj) : Kd w (v.alloc o) e p := h.step ((Below.refl _ _).alloc (Nat.le_refl _) o)
end Go.Proofs.Ytifaneckfnjgiab
