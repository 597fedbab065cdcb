/- Whom mitigation follows: pure. -/
import Derived.Test.YtahbakhbbiiieaaClZa
namespace Go.Proofs.Ytahbakhbbiiieaa
open Go Go.Sort
set_option linter.unusedVariables false
def prB (p o j : Int) (c : Cn) : Bool := c.pf && !c.pu && (c.id == p) && (c.o == o) && (c.j == j)
def plB (p o j : Int) (c : Cn) : Bool := c.pu && (c.id == p) && (c.o == o) && (c.j == j)
def fnB (p : Int) (c : Cn) : Bool := (c.id == p) && !c.pu
def pdB (c : Cn) : Bool := c.pf && !c.pu
def plN (l : List Cn) : Nat := (plF l).length
theorem any_snoc' {α : Type} (f : α → Bool) (l : List α) (x : α) : (l ++ [x]).any f = (l.any f || f x) := by rw [List.any_append]; simp
theorem plN_snoc (l : List Cn) (c : Cn) : plN (l ++ [c]) = plN l + if c.pu = true then 0 else 1 := by
  unfold plN
  rw [plF_snoc, List.length_append]
  cases c.pu <;> rfl
theorem clN_mem : ∀ (n : Nat) (X : List Cn) (c : Cn), c ∈ clN n X → c ∈ X := by
  intro n
  induction n with
  | zero => intro X c hc; exact hc
  | succ n ih =>
    intro X c hc
    unfold clN at hc
    split at hc
    · exact hc
    · split at hc
      · exact hc
      · exact List.mem_of_mem_eraseIdx (ih _ c hc)
theorem clu_mem {l : List Cn} {c : Cn} (h : c ∈ clu l) : c ∈ l := (St.st_perm ltc l).mem_iff.1 (List.mem_of_mem_take (clN_mem _ _ _ h))
theorem clu_few {l : List Cn} (h : l.length ≤ 3) : (clu l).Perm l := by
  have hp := St.st_perm ltc l
  have hl := hp.length_eq
  unfold clu
  rw [List.take_of_length_le (by omega), clN_small (by omega)]
  exact hp
theorem any_of {l : List Cn} {f : Cn → Bool} {c : Cn} (hc : c ∈ l) (hf : f c = true) : l.any f = true := List.any_eq_true.2 ⟨c, hc, hf⟩
theorem plF_mem {l : List Cn} {c : Cn} (h : c ∈ plF l) : c ∈ l ∧ c.pu = false := by
  unfold plF at h
  have := List.mem_filter.1 h
  exact ⟨this.1, by simpa using this.2⟩
theorem puF_mem {l : List Cn} {c : Cn} (h : c ∈ puF l) : c ∈ l ∧ c.pu = true := by
  unfold puF at h
  have := List.mem_filter.1 h
  exact ⟨this.1, by simpa using this.2⟩
theorem plN_pos {l : List Cn} {c : Cn} (h : c ∈ l) (hp : c.pu = false) : 0 < plN l := by
  unfold plN plF
  exact List.length_pos_of_mem (List.mem_filter.2 ⟨h, by simp [hp]⟩)
theorem idxP_pos {p : Cn → Bool} {l : List Cn} {c : Cn} (hc : c ∈ l) (hp : p c = true) : 0 ≤ idxP p l := by
  induction l with
  | nil => cases hc
  | cons x l ih =>
    unfold idxP
    split
    · omega
    · rename_i h
      rcases List.mem_cons.1 hc with rfl | h2
      · exact absurd hp h
      · have := ih h2
        rw [if_neg (by omega)]
        omega
theorem idxP_at {p : Cn → Bool} : ∀ {l : List Cn}, 0 ≤ idxP p l → p (l.getD (idxP p l).toNat zCn) = true
  | [], h => by unfold idxP at h; omega
  | x :: l, h => by
    unfold idxP at h ⊢
    split
    · rename_i hx; exact hx
    · rename_i hx
      rw [if_neg hx] at h
      split at h
      · omega
      · rename_i h2
        rw [if_neg h2]
        have := idxP_at (p := p) (l := l) (by omega)
        rw [show (idxP p l + 1).toNat = (idxP p l).toNat + 1 from by omega]
        exact this
theorem getD_mem {l : List Cn} {i : Nat} (h : i < l.length) : l.getD i zCn ∈ l := by
  rw [List.getD_eq_getElem?_getD, List.getElem?_eq_getElem h]
  exact List.getElem_mem h
theorem peers (l : List Cn) (was : Int) : ((mit l was).ok = false → mit l was = zRs ∧ (plN l = 0 ∨ 3 < l.length)) ∧
    ((mit l was).ok = true → (mit l was).pu = true → l.any (plB (mit l was).p (mit l was).o (mit l was).j) = true ∧ 0 < plN l) ∧
    ((mit l was).ok = true → (mit l was).pu = false → (clu l).any (fnB (mit l was).p) = true ∧ ((clu l).any pdB = true → l.any (prB (mit l was).p (mit l was).o (mit l was).j) = true)) := by
  rw [mit_eq]
  obtain ⟨P, hP⟩ : ∃ P, puF (clu l) = P := ⟨_, rfl⟩
  obtain ⟨R, hR⟩ : ∃ R, plF (clu l) = R := ⟨_, rfl⟩
  rw [hP, hR]
  by_cases h0 : R = []
  · have e : mtg P R was = zRs := by unfold mtg; rw [if_pos h0]; rfl
    rw [e]
    refine ⟨fun _ => ⟨rfl, ?_⟩, fun h => (by cases h), fun h => (by cases h)⟩
    by_cases h3 : 3 < l.length
    · exact .inr h3
    · refine .inl ?_
      have hp : (plF (clu l)).Perm (plF l) := (clu_few (by omega)).filter _
      rw [hR, h0] at hp
      unfold plN
      rw [← hp.length_eq]; rfl
  · have hRl : 0 < R.length := List.length_pos_iff.2 h0
    have hb := bsI_bd was hRl
    have hn : R.getD (bsI R was).toNat zCn ∈ R := getD_mem (by omega)
    obtain ⟨n, hne⟩ : ∃ n, R.getD (bsI R was).toNat zCn = n := ⟨_, rfl⟩
    have hn2 : n ∈ clu l ∧ n.pu = false := plF_mem (by rw [hR, ← hne]; exact hn)
    have hpos : 0 < plN l := plN_pos (clu_mem hn2.1) hn2.2
    have hfn : (clu l).any (fnB n.id) = true := any_of hn2.1 (by unfold fnB; simp [hn2.2])
    have hpf : (clu l).any pdB = true → n.pf = true := fun h => by
      obtain ⟨c, hc, hd⟩ := List.any_eq_true.1 h
      unfold pdB at hd
      simp only [Bool.and_eq_true, Bool.not_eq_true'] at hd
      have hcR : c ∈ R := by rw [← hR]; unfold plF; exact List.mem_filter.2 ⟨hc, by simp [hd.2]⟩
      have h1 := idxP_pos (p := isPf) hcR hd.1
      have e : bsI R was = idxP isPf R := by unfold bsI; rw [if_pos h1]
      have := idxP_at h1
      rw [← e, hne] at this
      exact this
    by_cases hq : P ≠ [] ∧ -1073741824 ≤ n.o ∧ n.o ≤ 1073741824
    · have e : mtg P R was = alo (fs P) true := by
        unfold mtg
        rw [if_neg h0]
        simp only [hne]
        rw [if_pos hq]
      rw [e]
      have hf : fs P ∈ P := getD_mem (List.length_pos_iff.2 hq.1)
      rw [← hP] at hf
      have hf2 := puF_mem hf
      rw [hP] at hf2
      refine ⟨fun h => (by cases h), fun _ _ => ⟨any_of (clu_mem hf2.1) ?_, hpos⟩, fun _ h => (by cases h)⟩
      unfold plB alo
      simp [hf2.2]
    · by_cases hp : n.pf = true
      · have e : mtg P R was = alo n false := by
          unfold mtg
          rw [if_neg h0]
          simp only [hne]
          rw [if_neg hq, if_pos hp]
        rw [e]
        refine ⟨fun h => (by cases h), fun _ h => (by cases h), fun _ _ => ⟨hfn, fun _ => any_of (clu_mem hn2.1) ?_⟩⟩
        unfold prB alo
        simp [hn2.2, hp]
      · have e : mtg P R was = ⟨n.id, cmO (ahd R (bsI R was).toNat), cmJ (ahd R (bsI R was).toNat), true, false⟩ := by
          unfold mtg
          rw [if_neg h0]
          simp only [hne]
          rw [if_neg hq, if_neg hp]
        rw [e]
        exact ⟨fun h => (by cases h), fun _ h => (by cases h), fun _ _ => ⟨hfn, fun h => absurd (hpf h) hp⟩⟩
end Go.Proofs.Ytahbakhbbiiieaa
