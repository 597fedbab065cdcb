/- What is left of a clustering: pure. -/
import Derived.Test.YtahbakhbbiiieaaClPd
namespace Go.Proofs.Ytahbakhbbiiieaa
open Go Go.Sort
set_option linter.unusedVariables false
theorem sub_erase {l : List Cn} (i : Nat) : (l.eraseIdx i).Sublist l := List.eraseIdx_sublist l i
theorem clN_sub : ∀ (n : Nat) (X : List Cn), (clN n X).Sublist X := by
  intro n
  induction n with
  | zero => intro X; exact List.Sublist.refl _
  | succ n ih =>
    intro X
    unfold clN
    split
    · exact List.Sublist.refl _
    · split
      · exact List.Sublist.refl _
      · exact (ih _).trans (sub_erase _)
theorem clu_so (l : List Cn) : St.So ltc (clu l) := by
  unfold St.So clu
  exact (St.st_so ltc_swo l).sublist ((clN_sub _ _).trans (List.take_sublist _ _))
theorem clN_ge : ∀ (n : Nat) (X : List Cn), min X.length 3 ≤ (clN n X).length := by
  intro n
  induction n with
  | zero => intro X; exact Nat.min_le_left _ _
  | succ n ih =>
    intro X
    unfold clN
    split
    · exact Nat.min_le_left _ _
    · rename_i h3
      split
      · exact Nat.min_le_left _ _
      · rename_i i hi
        have h1 := ih (X.eraseIdx i)
        have h2 := List.length_eraseIdx_of_lt (goes_lt hi)
        omega
theorem clu_ge (l : List Cn) : min l.length 3 ≤ (clu l).length := by
  unfold clu
  have := clN_ge 10 ((St.st ltc l).take 10)
  rw [List.length_take, St.st_len] at this
  omega
theorem clN_fix : ∀ (n : Nat) (X : List Cn), X.length ≤ n + 3 → (clN n X).length ≤ 3 ∨ goes (clN n X) = none := by
  intro n
  induction n with
  | zero => intro X h; exact .inl (show X.length ≤ 3 by omega)
  | succ n ih =>
    intro X h
    by_cases h3 : X.length ≤ 3
    · exact .inl (by rw [clN_small h3]; exact h3)
    · cases hg : goes X with
      | none => exact .inr (by rw [clN_stay hg]; exact hg)
      | some i =>
        rw [clN_go (by omega) hg]
        refine ih _ ?_
        rw [List.length_eraseIdx_of_lt (goes_lt hg)]
        omega
theorem clN_idem (m : Nat) {Y : List Cn} (h : Y.length ≤ 3 ∨ goes Y = none) : clN m Y = Y := by
  rcases h with h | h
  · exact clN_small h
  · exact clN_stay h
theorem clu_clu (l : List Cn) : clu (clu l) = clu l := by
  have h1 := St.st_self ltc_swo (clu_so l)
  have h2 := clN_len 10 ((St.st ltc l).take 10)
  have h3 : ((St.st ltc l).take 10).length ≤ 10 := by rw [List.length_take]; omega
  have h4 := clN_fix 10 ((St.st ltc l).take 10) (by omega)
  show clN 10 ((St.st ltc (clu l)).take 10) = clu l
  rw [h1, List.take_of_length_le (by unfold clu; omega)]
  exact clN_idem 10 h4
theorem wst_pf (l : List Cn) : ∀ k, (wst l k).1 < 0 ∨ (l.getD (wst l k).1.toNat zCn).pf = false := by
  intro k
  induction k with
  | zero => exact .inl (by unfold wst; simp)
  | succ k ih =>
    unfold wst
    split
    · rename_i h
      exact .inr (by simpa using h.1)
    · exact ih
theorem goes_pf {l : List Cn} {i : Nat} (h : goes l = some i) : (l.getD i zCn).pf = false := by
  unfold goes at h
  split at h
  · cases h
  · rename_i hn
    injection h with h
    rcases wst_pf l l.length with h1 | h1
    · exact absurd (.inl h1) hn
    · rw [← h]; exact h1
theorem mem_erase {l : List Cn} {c : Cn} {i : Nat} (hc : c ∈ l) (hi : i < l.length) (hne : (l.getD i zCn) ≠ c) : c ∈ l.eraseIdx i := by
  obtain ⟨k, hk, rfl⟩ := List.mem_iff_getElem.1 hc
  have : k ≠ i := fun e => by
    subst e
    rw [List.getD_eq_getElem?_getD, List.getElem?_eq_getElem hk] at hne
    exact hne rfl
  rw [List.mem_eraseIdx_iff_getElem]
  exact ⟨k, hk, this, rfl⟩
theorem clN_pf : ∀ (n : Nat) (X : List Cn) (c : Cn), c ∈ X → c.pf = true → c ∈ clN n X := by
  intro n
  induction n with
  | zero => intro X c hc _; exact hc
  | succ n ih =>
    intro X c hc hp
    unfold clN
    split
    · exact hc
    · split
      · exact hc
      · rename_i i hi
        refine ih _ c (mem_erase hc (goes_lt hi) fun e => ?_) hp
        have := goes_pf hi
        rw [e, hp] at this
        cases this
theorem clu_pf {l : List Cn} {c : Cn} (h : c ∈ l) (hl : l.length ≤ 10) (hp : c.pf = true) : c ∈ clu l := by
  unfold clu
  rw [List.take_of_length_le (by rw [St.st_len]; exact hl)]
  exact clN_pf _ _ _ ((St.st_perm ltc l).mem_iff.2 h) hp
theorem so_mer {l : List Cn} (h : St.So ltc l) {i : Nat} {a b : Cn} (ha : l[i]? = some a) (hb : l[i + 1]? = some b) : mer a ≤ mer b := by
  have hi : i + 1 < l.length := by
    rcases Nat.lt_or_ge (i + 1) l.length with h | h
    · exact h
    · rw [List.getElem?_eq_none h] at hb; cases hb
  have := List.pairwise_iff_getElem.1 h i (i + 1) (by omega) hi (by omega)
  rw [List.getElem?_eq_getElem (by omega)] at ha
  rw [List.getElem?_eq_getElem hi] at hb
  rw [Option.some.inj ha, Option.some.inj hb, ltc_no] at this
  omega
end Go.Proofs.Ytahbakhbbiiieaa
