/- choose: the laws' comparisons, where both are the same. -/
import Derived.Test.YtepbbaeamlimaabUJ
import Derived.Test.YtepbbaeamlimaabGQ
namespace Go.Proofs.Ytepbbaeamlimaab
open Go Go.RowKit Go.Sort Ch Pu
set_option linter.unusedVariables false
theorem qw_ld {ops : Array Oper} {rest : List Oper} {o : Oper} {a : Act} {C : World → Prop} {Q : Act → Prop} (hw : Region.wanted o (yielded ops a.tmps) = true) (ty : TypeId) (x : Operand) (ho : o.op = .load ty x)
    (ad : Addr) (hx : a.eval x = .pointer (some ad)) (cs : List Value) (d : TypeDesc) (hu : Try.prog.underlying ty = some d) (hd : d.isRow = true) (hi : (Try.prog.info? ty).map (·.size) = some cs.length)
    (hc : ∀ w, C w → ∀ j u, cs[j]? = some u → w.cell? (ad.add j) = some u)
    (h : QW Try.prog ops C Q rest (a.put o.dst (.agg cs.toArray))) : QW Try.prog ops C Q (o :: rest) a := ⟨quiet_ld6 hw ty x ho ad hx cs d hu hd hi hc h.out⟩
set_option maxRecDepth 20000 in
theorem neq_cn (c : Cn) (u : World) : (binOp .neq 25 (.agg (cnL c).toArray) (.agg (cnL c).toArray)).run Try.prog u = .ok (.bool false) u := by
  obtain ⟨i, p, d, j, s, f, l⟩ := c
  unfold cnL
  go_simp
end Go.Proofs.Ytepbbaeamlimaab
