/- Small facts on packets that were read. -/
import Derived.Test.YtdobghhjlfffpaaZB
import Derived.Test.YtdobghhjlfffpaaYD
import Derived.Test.YtdobghhjlfffpaaYG
namespace Go.Proofs.Ytdobghhjlfffpaa
open Go.RowKit
set_option linter.unusedVariables false
theorem Es.nil3 (N : Nat) (w : World) : Es N w (.slice none 0 0) [] := ⟨none, 0, rfl, Nat.le_refl _, fun _ => rfl, fun i hi => absurd hi (Nat.not_lt_zero i)⟩
theorem Sv.nil3 (N : Nat) (w : World) : Sv N w (.slice none 0 0) [] := ⟨none, 0, rfl, Nat.le_refl _, fun _ => rfl, fun i hi => absurd hi (Nat.not_lt_zero i), fun b hb => by cases hb⟩
theorem ox_slice {w : World} {B : Nat} {v : Value} {xs : List Xt} (h : OX w B v xs) : ∃ a n c, v = .slice a n c := by
  rcases h.row.2 with ⟨h1, _⟩ | ⟨g, cap, cur, h1, _⟩
  · exact ⟨_, _, _, h1⟩
  · exact ⟨_, _, _, h1⟩
end Go.Proofs.Ytdobghhjlfffpaa
