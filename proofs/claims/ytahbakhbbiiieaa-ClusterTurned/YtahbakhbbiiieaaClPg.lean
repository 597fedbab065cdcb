/- IDs written one by one; two places' contents changed: pure. -/
import Derived.Test.YtahbakhbbiiieaaClPf
import Derived.Test.YtahbakhbbiiieaaClQ
namespace Go.Proofs.Ytahbakhbbiiieaa
open Go Go.Sort
set_option linter.unusedVariables false
/-- the first k have their IDs -/
def nm (k : Nat) (l : List Cn) : List Cn := l.mapIdx fun i c => if i < k then { c with id := ((i + 1 : Nat) : Int) } else c
theorem nm_len (k : Nat) (l : List Cn) : (nm k l).length = l.length := by unfold nm; simp
theorem nm_get (k : Nat) (l : List Cn) (i : Nat) : (nm k l)[i]? = l[i]?.map (fun c => if i < k then { c with id := ((i + 1 : Nat) : Int) } else c) := by unfold nm; rw [List.getElem?_mapIdx]
theorem nm_zero (l : List Cn) : nm 0 l = l := by
  apply List.ext_getElem?
  intro i
  rw [nm_get]
  cases l[i]? <;> simp
theorem nm_set {l : List Cn} {k : Nat} {c : Cn} (h : l[k]? = some c) : (nm k l).set k { c with id := ((k + 1 : Nat) : Int) } = nm (k + 1) l := by
  have hk : k < l.length := by
    rcases Nat.lt_or_ge k l.length with h' | h'
    · exact h'
    · rw [List.getElem?_eq_none h'] at h; cases h
  apply List.ext_getElem?
  intro i
  by_cases e : i = k
  · subst e
    rw [List.getElem?_set_self (by rw [nm_len]; exact hk), nm_get, h]
    simp
  · rw [List.getElem?_set_ne (Ne.symm e), nm_get, nm_get]
    have : (i < k) ↔ (i < k + 1) := by omega
    simp only [this]
theorem nm_at {l : List Cn} {k : Nat} {c : Cn} (h : l[k]? = some c) : (nm k l)[k]? = some c := by rw [nm_get, h]; simp
theorem nm_unl (l : List Cn) (k : Nat) (hk : l.length ≤ k) : Unl (nm k l) := by
  refine List.pairwise_iff_getElem.2 fun i j hi hj hij => ?_
  have hi' : i < l.length := by rw [nm_len] at hi; exact hi
  have hj' : j < l.length := by rw [nm_len] at hj; exact hj
  have e1 : (nm k l)[i].id = ((i + 1 : Nat) : Int) := by
    have := nm_get k l i
    rw [List.getElem?_eq_getElem hi, List.getElem?_eq_getElem hi', Option.map_some, if_pos (by omega)] at this
    rw [Option.some.inj this]
  have e2 : (nm k l)[j].id = ((j + 1 : Nat) : Int) := by
    have := nm_get k l j
    rw [List.getElem?_eq_getElem hj, List.getElem?_eq_getElem hj', Option.map_some, if_pos (by omega)] at this
    rw [Option.some.inj this]
  rw [e1, e2]
  omega
theorem nm_ok {l : List Cn} (h : ∀ c ∈ l, okC c) (hl : l.length ≤ 1000) (k : Nat) : ∀ c ∈ nm k l, okC c := by
  intro c hc
  obtain ⟨i, hi, rfl⟩ := List.mem_iff_getElem.1 hc
  have hi' : i < l.length := by rw [nm_len] at hi; exact hi
  have := nm_get k l i
  rw [List.getElem?_eq_getElem hi, List.getElem?_eq_getElem hi', Option.map_some] at this
  rw [Option.some.inj this]
  have ho := h _ (List.getElem_mem hi')
  split
  · exact ⟨⟨by simp only; omega, by simp only; omega⟩, ho.o, ho.d, ho.j, ho.s⟩
  · exact ho
theorem swp_perm [Inhabited Cn] (ys : List Cn) (i j : Nat) (hi : i < ys.length) (hj : j < ys.length) : (Sort.swp ys.toArray i j).toList.Perm ys := by
  have h := Array.swap_perm (xs := ys.toArray) (i := i) (j := j) (by simpa using hi) (by simpa using hj)
  have h2 := h.toList
  rw [Array.toList_swap] at h2
  unfold Sort.swp
  simp only [List.setIfInBounds_toArray]
  have e1 : ys.toArray[i]! = ys[i] := by simp [getElem!_pos, hi]
  have e2 : ys.toArray[j]! = ys[j] := by simp [getElem!_pos, hj]
  rw [e1, e2]
  simpa using h2
end Go.Proofs.Ytahbakhbbiiieaa
