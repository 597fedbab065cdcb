/- What a binary search in a sorted row finds; one moved through a row. Pure. -/
import Derived.Test.YtdlipponajilbaaClQ
namespace Go.Proofs.Ytdlipponajilbaa.St
open Go Go.Sort
set_option linter.unusedVariables false
variable {α : Type}
theorem so_le {lt : α → α → Bool} {V : List α} (h : So lt V) (hS : SWO lt) {i j : Nat} {x y : α} (hij : i ≤ j) (hi : V[i]? = some x) (hj : V[j]? = some y) : lt y x = false := by
  rcases Nat.lt_or_ge i j with h1 | h1
  · obtain ⟨hi', rfl⟩ := List.getElem?_eq_some_iff.1 hi
    obtain ⟨hj', rfl⟩ := List.getElem?_eq_some_iff.1 hj
    exact List.pairwise_iff_getElem.1 h i j hi' hj' h1
  · have : i = j := by omega
    subst this
    rw [hi] at hj
    rw [Option.some.inj hj]
    exact hS.irrefl _
theorem mem_take {V : List α} {n : Nat} {v : α} (h : v ∈ V.take n) : ∃ i, i < n ∧ V[i]? = some v := by
  obtain ⟨i, hi⟩ := List.getElem?_of_mem h
  have hl : i < (V.take n).length := by
    rcases Nat.lt_or_ge i (V.take n).length with h | h
    · exact h
    · rw [List.getElem?_eq_none h] at hi; cases hi
  rw [List.length_take] at hl
  refine ⟨i, by omega, ?_⟩
  rw [List.getElem?_take_of_lt (by omega)] at hi
  exact hi
theorem mem_drop {V : List α} {n : Nat} {v : α} (h : v ∈ V.drop n) : ∃ i, n ≤ i ∧ V[i]? = some v := by
  obtain ⟨i, hi⟩ := List.getElem?_of_mem h
  rw [List.getElem?_drop] at hi
  exact ⟨n + i, by omega, hi⟩
/-- a right one that is less than x: all ahead of it are -/
theorem s1_lt {lt : α → α → Bool} (hS : SWO lt) {V : List α} (h : So lt V) {i : Nat} {x y : α} (hy : V[i]? = some y) (hl : lt y x = true) : ∀ v ∈ V.take (i + 1), lt v x = true := by
  intro v hv
  obtain ⟨j, hj, hjv⟩ := mem_take hv
  cases hc : lt v x with
  | true => rfl
  | false => have := hS.ntrans y v x (so_le h hS (by omega) hjv hy) hc; rw [hl] at this; cases this
theorem s1_ge {lt : α → α → Bool} (hS : SWO lt) {V : List α} (h : So lt V) {i : Nat} {x y : α} (hy : V[i]? = some y) (hl : lt y x = false) : ∀ v ∈ V.drop i, lt v x = false := by
  intro v hv
  obtain ⟨j, hj, hjv⟩ := mem_drop hv
  exact hS.ntrans v y x (so_le h hS hj hy hjv) hl
/-- a left one that y is not less than: all ahead of it are -/
theorem s2_ge {lt : α → α → Bool} (hS : SWO lt) {U : List α} (h : So lt U) {i : Nat} {y u : α} (hu : U[i]? = some u) (hl : lt y u = false) : ∀ v ∈ U.take (i + 1), lt y v = false := by
  intro v hv
  obtain ⟨j, hj, hjv⟩ := mem_take hv
  exact hS.ntrans y u v hl (so_le h hS (by omega) hjv hu)
theorem s2_lt {lt : α → α → Bool} (hS : SWO lt) {U : List α} (h : So lt U) {i : Nat} {y u : α} (hu : U[i]? = some u) (hl : lt y u = true) : ∀ v ∈ U.drop i, lt y v = true := by
  intro v hv
  obtain ⟨j, hj, hjv⟩ := mem_drop hv
  cases hc : lt y v with
  | true => rfl
  | false => have := hS.ntrans y v u hc (so_le h hS hj hu hjv); rw [hl] at this; cases this
theorem so_take {lt : α → α → Bool} {V : List α} (h : So lt V) (n : Nat) : So lt (V.take n) := List.Pairwise.sublist (List.take_sublist n V) h
theorem so_drop {lt : α → α → Bool} {V : List α} (h : So lt V) (n : Nat) : So lt (V.drop n) := List.Pairwise.sublist (List.drop_sublist n V) h
/-- one is moved through a row, from its front -/
def thr (P : List α) (x : α) (V Z : List α) (t : Nat) : List α := P ++ (V.take t ++ x :: (V.drop t ++ Z))
theorem thr_len (P : List α) (x : α) (V Z : List α) (t : Nat) : (thr P x V Z t).length = P.length + 1 + V.length + Z.length := by
  unfold thr
  simp only [List.length_append, List.length_cons, List.length_take, List.length_drop]
  omega
theorem thr_swp [Inhabited α] (P : List α) (x : α) (V Z : List α) {t : Nat} (ht : t < V.length) (i : Nat) (hi : i = P.length + t) : swp (thr P x V Z t).toArray i (i + 1) = (thr P x V Z (t + 1)).toArray := by
  obtain ⟨a1, a2⟩ := take_drop_at (l := V) (i := t) ht
  have e := swp_list (P ++ V.take t) [] (V.drop (t + 1) ++ Z) x V[t] i (i + 1) (by rw [List.length_append, List.length_take]; omega) (by rw [List.length_append, List.length_take, List.length_nil]; omega)
  have e1 : thr P x V Z t = (P ++ V.take t) ++ x :: ([] ++ V[t] :: (V.drop (t + 1) ++ Z)) := by unfold thr; rw [a1]; simp only [List.append_assoc, List.cons_append, List.nil_append]
  have e2 : thr P x V Z (t + 1) = (P ++ V.take t) ++ V[t] :: ([] ++ x :: (V.drop (t + 1) ++ Z)) := by unfold thr; rw [a2]; simp only [List.append_assoc, List.cons_append, List.nil_append]
  rw [e1, e, e2]
theorem thr_swp' [Inhabited α] (P : List α) (x : α) (V Z : List α) {t : Nat} (ht : t < V.length) (i : Nat) (hi : i = P.length + t) : swp (thr P x V Z (t + 1)).toArray (i + 1) i = (thr P x V Z t).toArray := by
  obtain ⟨a1, a2⟩ := take_drop_at (l := V) (i := t) ht
  have e := swp_list (P ++ V.take t) [] (V.drop (t + 1) ++ Z) V[t] x i (i + 1) (by rw [List.length_append, List.length_take]; omega) (by rw [List.length_append, List.length_take, List.length_nil]; omega)
  have e1 : thr P x V Z t = (P ++ V.take t) ++ x :: ([] ++ V[t] :: (V.drop (t + 1) ++ Z)) := by unfold thr; rw [a1]; simp only [List.append_assoc, List.cons_append, List.nil_append]
  have e2 : thr P x V Z (t + 1) = (P ++ V.take t) ++ V[t] :: ([] ++ x :: (V.drop (t + 1) ++ Z)) := by unfold thr; rw [a2]; simp only [List.append_assoc, List.cons_append, List.nil_append]
  rw [swp_comm _ _ _ (by rw [List.size_toArray, thr_len]; omega) (by rw [List.size_toArray, thr_len]; omega), e2, e, e1]
theorem thr_0 (P : List α) (x : α) (V Z : List α) : thr P x V Z 0 = P ++ x :: (V ++ Z) := by unfold thr; simp
theorem thr_n (P : List α) (x : α) (V Z : List α) (n : Nat) (h : n = V.length) : thr P x V Z n = P ++ (V ++ x :: Z) := by subst h; unfold thr; simp
theorem get_some [Inhabited α] {l : List α} {i : Nat} {x : α} (h : l[i]? = some x) : l.toArray[i]! = x := by
  obtain ⟨hi, rfl⟩ := List.getElem?_eq_some_iff.1 h
  simp [hi]
end Go.Proofs.Ytdlipponajilbaa.St
