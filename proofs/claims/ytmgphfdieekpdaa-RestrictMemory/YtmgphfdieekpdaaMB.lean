/- The reference's Heard (NOT whole yet). -/
import Derived.Test.YtmgphfdieekpdaaMA
import Derived.Test.YtmgphfdieekpdaaMP
namespace Go.Proofs.Ytmgphfdieekpdaa
open Go Go.RowKit
/-- the reference's memory -/
structure Rm (w : World) (B g : Nat) (lv : Value) (av mn now : Int) (any : Bool) (ss : List Sn) : Prop where
  blk : Bk g w #[lv, .int .i64 av, .int .i64 mn, .int .i64 now, .bool any] 69
  row : OR w B 76 5 lv (ss.map enL)
  low : B ≤ g
theorem Rm.ne {w : World} {B g : Nat} {lv : Value} {av mn now : Int} {any : Bool} {ss : List Sn} (h : Rm w B g lv av mn now any ss) : lv.ownBlock ≠ some g := by
  intro e
  obtain ⟨c, fz, h1⟩ := Lib.ownsRow_kind h.row.row g e
  have h2 := h.blk
  unfold Bk at h2
  rw [h2] at h1
  injection h1 with h1
  injection h1 with _ h1 _
  exact absurd h1 (by decide)
theorem own_set (w : World) (g j : Nat) (x : Value) : w.grownBy (w.setCell ⟨g, j, none⟩ x) (some g) := ⟨rfl, rfl, rfl, by simp, fun k _ hk => Below.heap_setCell _ _ _ _ (by intro e; exact hk (by rw [e]))⟩
theorem Rm.setNow {w : World} {B g : Nat} {lv : Value} {av mn now : Int} {any : Bool} {ss : List Sn} (h : Rm w B g lv av mn now any ss) (n : Int) : Rm ((w.setCell ⟨g, 3, none⟩ (.int .i64 n)).setCell ⟨g, 4, none⟩ (.bool true)) B g lv av mn n true ss :=
  ⟨by have := (h.blk.set (j := 3) (.int .i64 n)).set (j := 4) (.bool true); simpa using this, (h.row.mod (own_set w g 3 _) h.ne).mod (own_set _ g 4 _) h.ne, h.low⟩
theorem Rm.below {w w' : World} {B g : Nat} {lv : Value} {av mn now : Int} {any : Bool} {ss : List Sn} (h : Rm w B g lv av mn now any ss) (hb : Below w.heap.size w w') : Rm w' B g lv av mn now any ss := ⟨h.blk.kept (hb.block _ h.blk.lt), h.row.below hb (Nat.le_refl _), h.low⟩
end Go.Proofs.Ytmgphfdieekpdaa
