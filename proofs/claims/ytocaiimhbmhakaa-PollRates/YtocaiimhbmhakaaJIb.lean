/- More of one poll in a world. -/
import Derived.Test.YtocaiimhbmhakaaJI
namespace Go.Proofs.Ytocaiimhbmhakaa
open Go Go.RowKit Go.Sort
theorem Wd.alloc {w u : World} {a : As} {p : Nat} {s : Pl} (h : Wd w a p s u) (o : Obj) : Wd w a p s (u.alloc o) :=
  have hb : Below u.heap.size u (u.alloc o) := (Below.refl _ _).alloc (Nat.le_refl _) _
  ⟨h.po.below hb (Bk.lt h.po), h.ak.kept (hb.block _ h.ak.lt), h.be.trans (hb.mono h.be.size), h.lt⟩
theorem Wd.row {w u : World} {a : As} {p : Nat} {s : Pl} (h : Wd w a p s u) (g : Nat) (cs : Array Value) (hg : w.heap.size < g) (hne : g ≠ p) : Wd w a p s (u.setRow g cs) :=
  ⟨Bk.kept h.po (setRow_other _ _ _ _ (fun e => hne e.symm)), h.ak.kept (setRow_other _ _ _ _ (by omega)), below_row h.be (Nat.le_of_lt hg) _, h.lt⟩
theorem Wd.cell {w u : World} {a : As} {p : Nat} {s : Pl} (h : Wd w a p s u) (g j : Nat) (v : Value) (hg : w.heap.size < g) (hne : g ≠ p) : Wd w a p s (u.setCell ⟨g, j, none⟩ v) :=
  ⟨Bk.kept h.po (Below.heap_setCell _ _ _ _ (fun e => hne e.symm)), h.ak.kept (Below.heap_setCell _ _ _ _ (fun e => by simp at e; omega)), h.be.setCell (Nat.le_of_lt hg) _, h.lt⟩
theorem w64s {C P : Int} (h : 0 ≤ C ∧ C ≤ 1073741824) (hp : 1 ≤ P ∧ P ≤ 1024) : wrap64 (C + P) = C + P := w64 _ (by omega) (by omega)
end Go.Proofs.Ytocaiimhbmhakaa
