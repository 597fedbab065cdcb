/- Two candidates held against one another. -/
import Derived.Test.YtdgmfpaamjccpaaHRe
namespace Go.Proofs.Ytdgmfpaamjccpaa
open Go Go.RowKit Go.Sort
set_option maxRecDepth 20000 in
theorem eq_cand (c : Cd) (o : Oper) (a : Act) (x y : Operand) (ho : o.op = .binOp .eql 71 x y 71) (hx : a.eval x = .agg (cdL c).toArray) (hy : a.eval y = .agg (cdL c).toArray) (u : World) : (execOp a.eval o).run Try.prog u = .ok (.value (.bool true)) u := by
  obtain ⟨i, p, d, j, s, f, l⟩ := c
  unfold cdL at hx hy
  unfold execOp
  simp only [ho, hx, hy]
  go_simp
end Go.Proofs.Ytdgmfpaamjccpaa
