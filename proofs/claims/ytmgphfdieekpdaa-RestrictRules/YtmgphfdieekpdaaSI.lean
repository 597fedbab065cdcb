/- Insertion in order, and joining what is in order, are the same. -/
import Derived.Test.YtmgphfdieekpdaaSE
namespace Go.Proofs.Ytmgphfdieekpdaa
open Go Go.RowKit
def mgR (a r : Ru) : Ru := ⟨a.addr, a.bits, orI a.flags r.flags⟩
def insR : List Ru → Ru → List Ru
  | [], r => [r]
  | a :: t, r => if ltR a r = true then a :: insR t r else if ltR r a = true then r :: a :: t else mgR a r :: t
theorem insR_nil (r : Ru) : insR [] r = [r] := rfl
theorem insR_lt {a r : Ru} (t : List Ru) (h : ltK a r) : insR (a :: t) r = a :: insR t r := by rw [insR, if_pos ((ltK_iff a r).2 h)]
theorem insR_gt {a r : Ru} (t : List Ru) (h : ltK r a) : insR (a :: t) r = r :: a :: t := by
  rw [insR, if_neg (fun hh => by have := (ltK_iff a r).1 hh; unfold ltK at *; omega), if_pos ((ltK_iff r a).2 h)]
theorem insR_eq {a r : Ru} (t : List Ru) (h1 : ¬ ltK a r) (h2 : ¬ ltK r a) : insR (a :: t) r = mgR a r :: t := by rw [insR, if_neg (fun h => h1 ((ltK_iff a r).1 h)), if_neg (fun h => h2 ((ltK_iff r a).1 h))]
theorem mgR_lt {a r s : Ru} : ltK (mgR a r) s ↔ ltK a s := Iff.rfl
theorem lt_mgR {a r s : Ru} : ltK s (mgR a r) ↔ ltK s a := Iff.rfl
theorem ltK_trans {a b c : Ru} (h : ltK a b) (k : ltK b c) : ltK a c := by unfold ltK at *; omega
theorem ltK_same {a b : Ru} (h : ¬ ltK a b) (k : ¬ ltK b a) : a.addr = b.addr ∧ a.bits = b.bits := by unfold ltK at *; omega
theorem ltK_asym {a b : Ru} (h : ltK a b) : ¬ ltK b a := by unfold ltK at *; omega
theorem ltK_irr (a : Ru) : ¬ ltK a a := by unfold ltK; omega
theorem ltK_l {a b c : Ru} (h : ¬ ltK a b) (k : ¬ ltK b a) : (ltK a c ↔ ltK b c) ∧ (ltK c a ↔ ltK c b) := by unfold ltK at *; omega
theorem mgR_comm {a b : Ru} (h : ¬ ltK a b) (k : ¬ ltK b a) : mgR a b = mgR b a := by
  obtain ⟨e1, e2⟩ := ltK_same h k
  unfold mgR; rw [e1, e2, orI_comm]
theorem mgR_swap (a b c : Ru) : mgR (mgR a b) c = mgR (mgR a c) b := by
  unfold mgR; simp only [Ru.mk.injEq, true_and]
  rw [orI_assoc, orI_comm b.flags, ← orI_assoc]
theorem insR_swap : ∀ (z : List Ru) (r s : Ru), insR (insR z r) s = insR (insR z s) r := by
  intro z
  induction z with
  | nil =>
    intro r s
    rw [insR_nil, insR_nil]
    by_cases h1 : ltK r s
    · rw [insR_lt _ h1, insR_gt _ h1, insR_nil]
    · by_cases h2 : ltK s r
      · rw [insR_gt _ h2, insR_lt _ h2, insR_nil]
      · rw [insR_eq _ h1 h2, insR_eq _ h2 h1, mgR_comm h1 h2]
  | cons a t ih =>
    intro r s
    by_cases h1 : ltK a r
    · rw [insR_lt t h1]
      by_cases h2 : ltK a s
      · rw [insR_lt _ h2, insR_lt _ h2, insR_lt _ h1, ih r s]
      · by_cases h3 : ltK s a
        · rw [insR_gt _ h3, insR_gt _ h3, insR_lt _ (ltK_trans h3 h1), insR_lt _ h1]
        · rw [insR_eq _ h2 h3, insR_eq _ h2 h3, insR_lt (a := mgR a s) _ h1]
    · by_cases h1' : ltK r a
      · rw [insR_gt t h1']
        by_cases h2 : ltK a s
        · rw [insR_lt t h2, insR_gt _ h1', insR_lt _ (ltK_trans h1' h2), insR_lt _ h2]
        · by_cases h3 : ltK s a
          · rw [insR_gt t h3]
            by_cases h4 : ltK r s
            · rw [insR_lt _ h4, insR_gt _ h3, insR_gt _ h4]
            · by_cases h5 : ltK s r
              · rw [insR_gt _ h5, insR_lt _ h5, insR_gt _ h1']
              · rw [insR_eq _ h4 h5, insR_eq _ h5 h4, mgR_comm h4 h5]
          · rw [insR_eq t h2 h3, insR_gt (a := mgR a s) _ h1', insR_lt _ ((ltK_l h2 h3).2.1 h1'), insR_eq _ h2 h3]
      · rw [insR_eq t h1 h1']
        by_cases h2 : ltK a s
        · rw [insR_lt t h2, insR_lt (a := mgR a r) _ h2, insR_eq _ h1 h1']
        · by_cases h3 : ltK s a
          · rw [insR_gt t h3, insR_gt (a := mgR a r) _ h3, insR_lt _ ((ltK_l h1 h1').2.1 h3), insR_eq _ h1 h1']
          · rw [insR_eq t h2 h3, insR_eq (a := mgR a r) _ h2 h3, insR_eq (a := mgR a s) _ h1 h1', mgR_swap]
def insF (xs : List Ru) : List Ru := xs.foldl insR []
theorem insF_perm {xs ys : List Ru} (h : ys.Perm xs) : insF ys = insF xs := by
  unfold insF
  exact h.foldl_eq' (fun x _ y _ z => insR_swap z x y) []
theorem insR_end : ∀ (js : List Ru) (r : Ru), js.Pairwise ltK → (∀ a ∈ js, ¬ ltK r a) → insR js r = jnS js r := by
  intro js
  induction js with
  | nil => intro r _ _; rfl
  | cons a t ih =>
    intro r hp hr
    have ha := hr a (List.mem_cons_self ..)
    cases t with
    | nil =>
      rw [jnS_last [a] (by simp)]
      by_cases h1 : ltK a r
      · rw [insR_lt _ h1, if_neg]
        · rfl
        · intro h2; rw [List.getLast_singleton, crI_zero] at h2; unfold ltK at h1; omega
      · rw [insR_eq _ h1 ha, if_pos]
        · rfl
        · rw [List.getLast_singleton, crI_zero]; exact ltK_same h1 ha
    | cons b u =>
      have h1 : ltK a b := (List.pairwise_cons.1 hp).1 b (List.mem_cons_self ..)
      have h2 : ¬ ltK r b := hr b (List.mem_cons_of_mem _ (List.mem_cons_self ..))
      have h3 : ltK a r := by unfold ltK at *; omega
      have e : (a :: b :: u).getLast (by simp) = (b :: u).getLast (by simp) := List.getLast_cons (by simp)
      rw [insR_lt _ h3, ih r (List.pairwise_cons.1 hp).2 (fun x hx => hr x (List.mem_cons_of_mem _ hx)), jnS_last (b :: u) (by simp), jnS_last (a :: b :: u) (by simp), e]
      by_cases hc : crI ((b :: u).getLast (by simp)) r = 0
      · rw [if_pos hc, if_pos hc]; rfl
      · rw [if_neg hc, if_neg hc]; rfl
theorem ins_jn : ∀ (ys js : List Ru), js.Pairwise ltK → (∀ a ∈ js, ∀ b ∈ ys, ¬ ltK b a) → ys.Pairwise (fun a b => ¬ ltK b a) → ys.foldl insR js = ys.foldl jnS js := by
  intro ys
  induction ys with
  | nil => intro js _ _ _; rfl
  | cons y t ih =>
    intro js hj hl hp
    rw [List.foldl_cons, List.foldl_cons, insR_end js y hj (fun a ha => hl a ha y (List.mem_cons_self ..))]
    obtain ⟨hp1, hp2⟩ := List.pairwise_cons.1 hp
    refine ih (jnS js y) ?_ ?_ hp2
    · exact jn_strict_aux [y] js hj (fun a ha b hb => by rw [List.mem_singleton] at hb; rw [hb]; exact hl a ha y (List.mem_cons_self ..)) (by simp)
    · by_cases h0 : js = []
      · subst h0; intro a ha b hb; rw [jnS_nil, List.mem_singleton] at ha; rw [ha]; exact hp1 b hb
      · rw [jnS_last js h0]
        have hlt : ∀ a ∈ js, ∀ b ∈ t, ¬ ltK b a := fun a ha b hb => hl a ha b (List.mem_cons_of_mem _ hb)
        split
        · intro a ha b hb
          rcases List.mem_append.1 ha with h1 | h1
          · exact hlt a (List.dropLast_subset _ h1) b hb
          · rw [List.mem_singleton] at h1
            rw [h1]; exact hlt _ (List.getLast_mem h0) b hb
        · intro a ha b hb
          rcases List.mem_append.1 ha with h1 | h1
          · exact hlt a h1 b hb
          · rw [List.mem_singleton] at h1; rw [h1]; exact hp1 b hb
/-- both ways to sort -/
theorem jn_ins {xs ys : List Ru} (hp : ys.Perm xs) (hs : ys.Pairwise (fun a b => ltR b a = false)) : jn ys = insF xs := by
  rw [← insF_perm hp]
  unfold jn insF
  refine (ins_jn ys [] List.Pairwise.nil (by simp) (hs.imp fun {a b} h => ?_)).symm
  intro h2
  rw [← ltK_iff] at h2
  rw [h2] at h; cases h
end Go.Proofs.Ytmgphfdieekpdaa
