/- arguments opened: a slice without an array has no room. -/
import Derived.Test.YtepbbaeamlimaabUO
namespace Go.Proofs.Ytepbbaeamlimaab
open Go.ChangeShapes Go.WideShapes Go.ChangeAt Go.RowKit Go.Deep Ch
set_option linter.unusedVariables false
theorem open_ra {H : Type} {enc : TypeId × Value → H} {w : World} {base : Nat} {spare : Nat → Bool} {held : Bool} {fuel : Nat} {c : Value} {x : DataW H × List MemPlace}
    (h : DataW.trod enc Try.prog w base spare held fuel 22 [c] = some x) : Ra c := by
  have ht := Try.underlying22
  rcases open_slice ht h with ⟨hcs, _⟩ | ⟨a, len, cap, m, n, D, Pl, hcs, hb, hl, hm, hmm, hxd, hx⟩
  · simp at hcs
    intro n' cap' e
    rw [hcs] at e
    injection e with _ _ e
    exact e.symm
  · simp at hcs
    intro n' cap' e
    rw [hcs] at e
    injection e with e
    cases e
end Go.Proofs.Ytepbbaeamlimaab
