/- Candidates of unlike IDs, in whatever order: pure. -/
import Derived.Test.YtahbakhbbiiieaaClPe
namespace Go.Proofs.Ytahbakhbbiiieaa
open Go Go.Sort
set_option linter.unusedVariables false
/-- unlike IDs -/
def Unl (l : List Cn) : Prop := l.Pairwise fun a b => a.id ≠ b.id
theorem Unl.perm {l m : List Cn} (h : Unl l) (p : l.Perm m) : Unl m := (p.pairwise_iff (fun {x y} h => Ne.symm h)).1 h
theorem Unl.one {l : List Cn} (h : Unl l) {a b : Cn} (ha : a ∈ l) (hb : b ∈ l) (e : a.id = b.id) : a = b := by
  induction l with
  | nil => cases ha
  | cons x l ih =>
    have h1 := List.pairwise_cons.1 h
    rcases List.mem_cons.1 ha with rfl | ha'
    · rcases List.mem_cons.1 hb with rfl | hb'
      · rfl
      · exact absurd e (h1.1 b hb')
    · rcases List.mem_cons.1 hb with rfl | hb'
      · exact absurd e.symm (h1.1 a ha')
      · exact ih h1.2 ha' hb'
/-- sorted rows of the same ones, of unlike IDs, are one row -/
theorem so_one : ∀ {A B : List Cn}, St.So ltc A → St.So ltc B → A.Perm B → Unl A → A = B := by
  intro A
  induction A with
  | nil => intro B _ _ p _; exact (List.Perm.nil_eq p)
  | cons a A ih =>
    intro B hA hB p hU
    cases B with
    | nil => exact absurd p.length_eq (by simp)
    | cons b B =>
      have hA1 := List.pairwise_cons.1 hA
      have hB1 := List.pairwise_cons.1 hB
      have hab : a = b := by
        have ha : a ∈ b :: B := p.mem_iff.1 (List.mem_cons_self ..)
        have hb : b ∈ a :: A := p.mem_iff.2 (List.mem_cons_self ..)
        rcases List.mem_cons.1 ha with e | ha'
        · exact e
        · rcases List.mem_cons.1 hb with e | hb'
          · exact e.symm
          · have h1 := hA1.1 b hb'
            have h2 := hB1.1 a ha'
            rw [ltc_no] at h1 h2
            exact hU.one (List.mem_cons_self ..) hb (by omega)
      subst hab
      rw [ih hA1.2 hB1.2 (List.Perm.cons_inv p) (List.pairwise_cons.1 hU).2]
theorem st_perm_eq {l m : List Cn} (p : l.Perm m) (h : Unl l) : St.st ltc l = St.st ltc m := by
  refine so_one (St.st_so ltc_swo l) (St.st_so ltc_swo m) ((St.st_perm ltc l).trans (p.trans (St.st_perm ltc m).symm)) ?_
  exact h.perm (St.st_perm ltc l).symm
theorem clu_perm {l m : List Cn} (p : l.Perm m) (h : Unl l) : clu l = clu m := by
  unfold clu
  rw [st_perm_eq p h]
theorem mit_perm {l m : List Cn} (was : Int) (p : l.Perm m) (h : Unl l) : mit l was = mit m was := by
  unfold mit
  rw [clu_perm p h]
/-- IDs written: 1, 2, .. -/
def num : Nat → List Cn → List Cn
  | _, [] => []
  | i, c :: l => { c with id := ((i + 1 : Nat) : Int) } :: num (i + 1) l
theorem num_ge : ∀ (l : List Cn) (i : Nat) (c : Cn), c ∈ num i l → (i : Int) < c.id
  | [], i, c, h => by cases h
  | x :: l, i, c, h => by
    rcases List.mem_cons.1 h with rfl | h
    · simp only; omega
    · have := num_ge l (i + 1) c h
      omega
theorem num_unl : ∀ (l : List Cn) (i : Nat), Unl (num i l)
  | [], i => List.Pairwise.nil
  | x :: l, i => by
    refine List.pairwise_cons.2 ⟨fun c hc => ?_, num_unl l (i + 1)⟩
    have := num_ge l (i + 1) c hc
    simp only
    omega
/-- two places' contents changed for one another -/
def swp (l : List Cn) (i k : Nat) : List Cn := (l.set i (l.getD k zCn)).set k (l.getD i zCn)
end Go.Proofs.Ytahbakhbbiiieaa
