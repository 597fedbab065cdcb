/- An act whose slots from one on, so many, may be others. -/
import Derived.Test.YtdobghhjlfffpaaGX
namespace Go.Proofs.Ytdobghhjlfffpaa
open Go Go.RowKit Go.Sort
set_option linter.unusedVariables false
def setsFrom (A : Array Value) (lo : Nat) : List Value → Array Value
  | [] => A
  | y :: t => setsFrom (A.setIfInBounds lo y) (lo + 1) t
theorem setsFrom_get : ∀ (ys : List Value) (A : Array Value) (lo j : Nat), lo + ys.length ≤ A.size → (setsFrom A lo ys)[j]? = if lo ≤ j ∧ j < lo + ys.length then ys[j - lo]? else A[j]?
  | [], A, lo, j, h => by
    rw [if_neg (by simp only [List.length_nil]; omega)]
    rfl
  | y :: t, A, lo, j, h => by
    have ih := setsFrom_get t (A.setIfInBounds lo y) (lo + 1) j (by simp at h ⊢; omega)
    show (setsFrom (A.setIfInBounds lo y) (lo + 1) t)[j]? = _
    rw [ih]
    simp only [List.length_cons] at h ⊢
    by_cases h1 : lo + 1 ≤ j ∧ j < lo + 1 + t.length
    · rw [if_pos h1, if_pos (by omega)]
      have e : j - lo = (j - (lo + 1)) + 1 := by omega
      rw [e, List.getElem?_cons_succ]
    · rw [if_neg h1]
      by_cases h2 : j = lo
      · subst h2
        rw [if_pos (by omega), Nat.sub_self, Array.getElem?_setIfInBounds_self_of_lt (by omega)]
        rfl
      · rw [if_neg (by omega), Array.getElem?_setIfInBounds_ne (by omega)]
theorem act_keep {a0 a' : Act} {n lo k : Nat} (h0 : a0.tmps.size = n) (hs : a'.tmps.size = n) (hd : a'.defers = a0.defers) (hk : ∀ j, j < lo ∨ lo + k ≤ j → a'.tmps.getD j undef = a0.tmps.getD j undef) (hn : lo + k ≤ n) : a' = { tmps := setsFrom a0.tmps lo ((List.range k).map fun i => a'.tmps.getD (lo + i) undef), defers := a0.defers } := by
  obtain ⟨tm, df⟩ := a'
  simp only at hs hd hk ⊢
  subst hd
  congr 1
  refine Array.ext_getElem? fun j => ?_
  rw [setsFrom_get _ _ _ _ (by simp; omega)]
  simp only [List.length_map, List.length_range]
  by_cases hj : j < n
  · by_cases h1 : lo ≤ j ∧ j < lo + k
    · rw [if_pos h1, List.getElem?_map, List.getElem?_range (by omega)]
      simp only [Option.map_some]
      have e : lo + (j - lo) = j := by omega
      rw [e, Array.getD_eq_getD_getElem?, Array.getElem?_eq_getElem (show j < tm.size by omega)]
      rfl
    · rw [if_neg h1]
      have := hk j (by omega)
      rw [Array.getD_eq_getD_getElem?, Array.getD_eq_getD_getElem?, Array.getElem?_eq_getElem (show j < tm.size by omega), Array.getElem?_eq_getElem (show j < a0.tmps.size by omega)] at this
      rw [Array.getElem?_eq_getElem (show j < tm.size by omega), Array.getElem?_eq_getElem (show j < a0.tmps.size by omega)]
      exact congrArg some this
  · rw [if_neg (by omega), Array.getElem?_eq_none (by omega), Array.getElem?_eq_none (by omega)]
theorem act_ys {a0 a' : Act} {n lo : Nat} (h0 : a0.tmps.size = n) (hs : a'.tmps.size = n) (hd : a'.defers = a0.defers) (hk : ∀ j, j < lo ∨ lo + 14 ≤ j → a'.tmps.getD j undef = a0.tmps.getD j undef) (hn : lo + 14 ≤ n) : ∃ y0 y1 y2 y3 y4 y5 y6 y7 y8 y9 y10 y11 y12 y13, a' = { tmps := setsFrom a0.tmps lo [y0, y1, y2, y3, y4, y5, y6, y7, y8, y9, y10, y11, y12, y13], defers := a0.defers } := by
  have h := act_keep h0 hs hd hk hn
  rw [show List.range 14 = [0, 1, 2, 3, 4, 5, 6, 7, 8, 9, 10, 11, 12, 13] from rfl] at h
  simp only [List.map_cons, List.map_nil] at h
  exact ⟨_, _, _, _, _, _, _, _, _, _, _, _, _, _, h⟩
end Go.Proofs.Ytdobghhjlfffpaa
