/- ChooseCounts. -/
import Derived.Test.YtepbbaeamlimaabUK
import Derived.Test.YtepbbaeamlimaabUO
namespace Go.Proofs.Ytepbbaeamlimaab
open Go Go.RowKit Go.Sort Ch Pu
set_option linter.unusedVariables false
/-- a row of candidates that the law has made, and what came in -/
structure Kp (w u : World) (v3 : Value) (xs : List Cn) : Prop where
  ow : OR u w.heap.size 25 7 v3 (xs.map cnL)
  be : Below w.heap.size w u
theorem Kp.next {w u u' : World} {v3 : Value} {xs : List Cn} (h : Kp w u v3 xs) (hb : Below u.heap.size u u') : Kp w u' v3 xs := ⟨h.ow.below hb (Nat.le_refl _), below_thru h.be hb⟩
theorem mtL_th {l l' : List Cn} (h : th l' = th l) : mtL l' = mtL l := by unfold mtL E; rw [h]
theorem E_th {l l' : List Cn} (h : th l' = th l) : E l' = E l := by unfold E; rw [h]
theorem sv_th {l l' : List Cn} (h : th l' = th l) : sv l' = sv l := by unfold sv E; rw [h]
theorem sv_le (l : List Cn) : (sv l).length ≤ 64 := by
  have h1 := th_len l
  unfold sv
  split
  · simp
  · exact Nat.le_trans (List.length_filter_le _ _) h1
end Go.Proofs.Ytepbbaeamlimaab
