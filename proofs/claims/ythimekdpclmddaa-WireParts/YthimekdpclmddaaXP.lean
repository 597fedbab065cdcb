/- The law WireParts, as its row asks it. -/
import Derived.Test.YthimekdpclmddaaXN
namespace Go.Proofs.Ythimekdpclmddaa
open Go.RowKit
theorem WireParts_row (h : Hd) (ev : Value) (key : Int) (nak : Bool) (mv : Value) (xs : List Xt) (mac : List Int) (w : World) (he : Es w.heap.size w ev xs) (hm : Sv w.heap.size w mv mac) (_l0 : xs.length ≤ maxLen) (l1 : ∀ x ∈ xs, x.dat.length ≤ maxLen) (l2 : mac.length ≤ maxLen) (r0 : 0 ≤ h.rid) (r1 : h.rid < 4294967296) (hk : xs.length * 32 ≤ 140737488351232) :
    Calls Try.prog 3 #[pkV h ev key nak mv] w fun e' w' => e' = .returned (.bool true) ∧ Below w.heap.size w w' := by
  have hM : maxLen = 9223372036854775807 := by decide
  have a1 : (xs.length : Int) ≤ 140737488355328 := by omega
  have a2 : ∀ x ∈ xs, (x.dat.length : Int) ≤ 9223372036854775807 := fun x hx => by have := l1 x hx; omega
  have a3 : (mac.length : Int) ≤ 9223372036854775807 := by omega
  by_cases hC : ckE h xs key nak mac.length = 0
  · exact parts_ok h ev mv xs key nak mac w he hm a1 a2 a3 r0 r1 hC
  · obtain ⟨ma, mc, rfl, -⟩ := hm
    exact parts_err h ev xs key nak ma _ mc w he a1 a2 a3 (.inl hC)
end Go.Proofs.Ythimekdpclmddaa
