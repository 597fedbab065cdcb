/- What the reference's DecodeControl returns. -/
import Derived.Test.YtoljhmnghhhggaaWN
import Derived.Test.YtoljhmnghhhggaaWOb
namespace Go.Proofs.Ytoljhmnghhhggaa
open Go.RowKit
theorem rdecodeControl_any (v : Value) (bs : List Int) (w : World) (hl : bs.length ≤ 10000000) (h : Sv w.heap.size w v bs) :
    Calls Try.prog 31 #[v] w fun e' w' => ∃ (ver : Int) (r e m : Bool) (op seq sta ass off : Int) (dv : Value) (data : List Int) (key : Int) (mv : Value) (mac : List Int) (E : Int), e' = .returned (.tuple #[ctV ver r e m op seq sta ass off dv key mv, .int .i64 E]) ∧ Below w.heap.size w w' ∧ Own w' w.heap.size dv data ∧ Own w' w.heap.size mv mac ∧ DE bs E ∧ (E = 0 → DV bs ver r e m op seq sta ass off data key mac) ∧ (E ≠ 0 → ctV ver r e m op seq sta ass off dv key mv = zC) := by
  obtain ⟨ao, cap, hv, -⟩ := id h
  subst hv
  by_cases hc : cap = 12
  · exact rdec_B ao _ cap bs w hl h hc
  · exact rdec_A ao _ cap bs w hl h hc
end Go.Proofs.Ytoljhmnghhhggaa
