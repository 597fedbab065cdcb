/- assoc: what is dropped, of both tables: the same. -/
import Derived.Test.YtnjdmkgkpdebdaaOV
namespace Go.Proofs.Ytnjdmkgkpdebdaa
open Go Go.RowKit Go.Sort
set_option linter.unusedVariables false
theorem mem_rows {T : List (Option Mb)} {m : Mb} : m ∈ rowsOf T ↔ ∃ i, at0 T i = some m := by
  unfold rowsOf
  rw [List.mem_filterMap]
  constructor
  · rintro ⟨x, hx, rfl⟩
    obtain ⟨i, hi⟩ := List.getElem?_of_mem hx
    exact ⟨i, at0_some.2 hi⟩
  · rintro ⟨i, hi⟩
    exact ⟨some m, List.mem_of_getElem? (at0_some.1 hi), rfl⟩
/-- what begins with R, and is closed -/
structure Blx (l : List Mb) (R : Int → Prop) (xs : List Int) : Prop where
  own : ∀ x, R x → x ∈ xs
  snd : ∀ x ∈ xs, ∀ Q : Int → Prop, (∀ i, R i → Q i) → (∀ m ∈ l, Q m.par → Q m.id) → Q x
  clo : ∀ m ∈ l, m.par ∈ xs → m.id ∈ xs
theorem Bl.x {l : List Mb} {id : Int} {xs : List Int} (h : Bl l id xs) : Blx l (fun x => x = id) xs :=
  ⟨fun x hx => by rw [hx]; exact h.own, fun x hx Q q0 q1 => h.snd x hx Q (q0 id rfl) q1, h.clo⟩
theorem Blx.iff {T T' : List (Option Mb)} {S : Nat → Prop} {R : Int → Prop} {xs : List Int} (hI : Ids T 0) (hT : SpS T S T') (h : Blx (rowsOf T) R xs) (hS : ∀ i : Nat, S i → R ((i : Int) + 1)) (hR : ∀ x, R x → ∃ (i : Nat) (m : Mb), x = (i : Int) + 1 ∧ at0 T i = some m ∧ S i) (i : Nat) (m : Mb) (hm : at0 T i = some m) : m.id ∈ xs ↔ at0 T' i = none := by
  have hid : ∀ (i : Nat) m, at0 T i = some m → m.id = (i : Int) + 1 := fun i m hm => by have := hI i m (at0_some.1 hm); simpa using this
  constructor
  · intro hx
    obtain ⟨j, n, h1, h2, h3⟩ := h.snd m.id hx (fun x => ∃ (j : Nat) (n : Mb), x = (j : Int) + 1 ∧ at0 T j = some n ∧ at0 T' j = none) (fun x hx => by
      obtain ⟨j, n, h1, h2, h3⟩ := hR x hx
      exact ⟨j, n, h1, h2, hT.gone j h3⟩) (fun n hn ⟨j, p, h1, h2, h3⟩ => by
      obtain ⟨k, hk⟩ := mem_rows.1 hn
      refine ⟨k, n, hid k n hk, hk, ?_⟩
      rcases hT.sub k with e | e
      · rw [hk] at e
        exact absurd h1 (hT.clo j p h2 h3 k n e)
      · exact e)
    have : j = i := by have := hid i m hm; omega
    rw [← this]
    exact h3
  · intro hx
    have hr := hT.snd i m hm hx
    rw [hid i m hm]
    exact hr (fun i => (i : Int) + 1 ∈ xs) (fun i m _ h2 => h.own _ (hS i h2)) (fun i j m h1 h2 ih => by
      rw [← hid i m h1]
      exact h.clo m (mem_rows.2 ⟨i, h1⟩) (by rw [h2]; exact ih))
theorem rest_eq (xs : List Int) : ∀ (T T' : List (Option Mb)) (k : Nat), Ids T k → T'.length = T.length → (∀ i, at0 T' i = at0 T i ∨ at0 T' i = none) → (∀ (i : Nat) m, at0 T i = some m → (m.id ∈ xs ↔ at0 T' i = none)) → drRest xs (rowsOf T) = rowsOf T' ∧ drGone xs (rowsOf T) = gnF T T' k
  | [], [], _, _, _, _, _ => ⟨rfl, rfl⟩
  | [], _ :: _, _, _, h, _, _ => by simp at h
  | _ :: _, [], _, _, h, _, _ => by simp at h
  | x :: t, y :: u, k, hI, hl, hs, hx => by
    have ih := rest_eq xs t u (k + 1) hI.tail (by simpa using hl) (fun i => by simpa [at0] using hs (i + 1)) (fun i m hm => by simpa [at0] using hx (i + 1) m (by simpa [at0] using hm))
    have h0 := hs 0
    simp only [at0, List.getD_cons_zero] at h0
    cases x with
    | none =>
      have hy : y = none := by rcases h0 with h | h <;> exact h
      subst hy
      exact ih
    | some m =>
      have h1 := hx 0 m rfl
      simp only [at0, List.getD_cons_zero] at h1
      have hid : m.id = (k : Int) + 1 := by have := hI 0 m rfl; simpa using this
      have e1 : rowsOf (some m :: t) = m :: rowsOf t := rfl
      cases y with
      | none =>
        have e2 : rowsOf (none :: u) = rowsOf u := rfl
        have hm : m.id ∈ xs := h1.2 rfl
        rw [e1, e2, gnF]
        unfold drRest drGone at ih ⊢
        rw [List.filter_cons, List.filter_cons, if_neg (by simp [hm]), if_pos (by simp [hm]), List.map_cons, hid, ih.1, ih.2]
        exact ⟨rfl, rfl⟩
      | some n =>
        have e2 : rowsOf (some n :: u) = n :: rowsOf u := rfl
        have hm : ¬ m.id ∈ xs := fun h => by have := h1.1 h; cases this
        have hn : n = m := by rcases h0 with h | h <;> simp at h; exact h
        rw [e1, e2, gnF, hn]
        unfold drRest drGone at ih ⊢
        rw [List.filter_cons, List.filter_cons, if_pos (by simp [hm]), if_neg (by simp [hm]), ih.1, ih.2]
        exact ⟨rfl, rfl⟩
theorem rest_all {T T' : List (Option Mb)} {S : Nat → Prop} {R : Int → Prop} {xs : List Int} (hI : Ids T 0) (hT : SpS T S T') (h : Blx (rowsOf T) R xs) (hS : ∀ i : Nat, S i → R ((i : Int) + 1)) (hR : ∀ x, R x → ∃ (i : Nat) (m : Mb), x = (i : Int) + 1 ∧ at0 T i = some m ∧ S i) : drRest xs (rowsOf T) = rowsOf T' ∧ drGone xs (rowsOf T) = gnF T T' 0 :=
  rest_eq xs T T' 0 hI hT.len hT.sub (h.iff hI hT hS hR)
end Go.Proofs.Ytnjdmkgkpdebdaa
