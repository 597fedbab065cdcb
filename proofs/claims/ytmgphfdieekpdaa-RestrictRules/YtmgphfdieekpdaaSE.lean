/- Rules in order: what they match; in order already. -/
import Derived.Test.YtmgphfdieekpdaaSC
namespace Go.Proofs.Ytmgphfdieekpdaa
open Go Go.RowKit Go.Sort
theorem crI_zero (a b : Ru) : crI a b = 0 ↔ (a.addr = b.addr ∧ a.bits = b.bits) := by
  unfold crI cmI
  (repeat' split) <;> omega
theorem mtS_yes (x : Int) (s : Int × Int) (r : Ru) (h1 : okB r = true) (h2 : spB r x = true) : mtS x s r = if s.1 < r.bits then (r.bits, r.flags) else if r.bits < s.1 then s else (s.1, orI s.2 r.flags) := by unfold mtS; rw [if_pos ⟨h1, h2⟩]
theorem mtS_no (x : Int) (s : Int × Int) (r : Ru) (h : ¬ spB r x = true) : mtS x s r = s := by unfold mtS; rw [if_neg (fun h' => h h'.2)]
/-- two rules of one range are one -/
theorem mtS_join (x : Int) (s : Int × Int) (l r : Ru) (hl : okB l = true) (hr : okB r = true) (hc : crI l r = 0) : okB ⟨l.addr, l.bits, orI l.flags r.flags⟩ = true ∧ mtS x (mtS x s l) r = mtS x s ⟨l.addr, l.bits, orI l.flags r.flags⟩ := by
  obtain ⟨ha, hb⟩ := (crI_zero l r).1 hc
  obtain ⟨l0, l1, l2, l3⟩ := ok_bd hl
  obtain ⟨r0, r1, r2, r3⟩ := ok_bd hr
  have hob := orI_bd l.flags r.flags l2 l3 r2 r3
  have hok : okB ⟨l.addr, l.bits, orI l.flags r.flags⟩ = true := by
    unfold okB at hl ⊢
    simp only [Bool.and_eq_true] at hl ⊢
    refine ⟨⟨hl.1.1, ?_⟩, hl.2⟩
    unfold inB
    rw [decide_eq_true_eq]; exact hob
  refine ⟨hok, ?_⟩
  have hsp1 : spB r x = spB l x := by unfold spB; rw [ha, hb]
  have hsp2 : spB ⟨l.addr, l.bits, orI l.flags r.flags⟩ x = spB l x := rfl
  obtain ⟨m, f⟩ := s
  by_cases hs : spB l x = true
  · rw [mtS_yes x (m, f) l hl hs, mtS_yes x (m, f) ⟨l.addr, l.bits, orI l.flags r.flags⟩ hok (by rw [hsp2]; exact hs), mtS_yes x _ r hr (by rw [hsp1]; exact hs)]
    simp only
    rcases Int.lt_trichotomy m l.bits with h | h | h
    · simp only [if_pos h]
      rw [if_neg (by omega), if_neg (by omega)]
    · have n1 : ¬ m < l.bits := by omega
      have n2 : ¬ l.bits < m := by omega
      simp only [if_neg n1, if_neg n2]
      rw [if_neg (by omega), if_neg (by omega), orI_assoc]
    · have n1 : ¬ m < l.bits := by omega
      simp only [if_neg n1, if_pos h]
      rw [if_neg (by omega), if_pos (by omega)]
  · rw [mtS_no x (m, f) l hs, mtS_no x (m, f) r (by rw [hsp1]; exact hs), mtS_no x (m, f) ⟨l.addr, l.bits, orI l.flags r.flags⟩ (by rw [hsp2]; exact hs)]
theorem jnS_ok (js : List Ru) (r : Ru) (hj : ∀ a ∈ js, okB a = true) (hr : okB r = true) : ∀ a ∈ jnS js r, okB a = true := by
  by_cases h : js = []
  · subst h; intro a ha; rw [jnS_nil, List.mem_singleton] at ha; rw [ha]; exact hr
  · rw [jnS_last js h]
    split
    · rename_i hc
      intro a ha
      rcases List.mem_append.1 ha with h1 | h1
      · exact hj a (List.dropLast_subset _ h1)
      · rw [List.mem_singleton] at h1
        rw [h1]
        exact (mtS_join 0 (0, 0) (js.getLast h) r (hj _ (List.getLast_mem h)) hr hc).1
    · intro a ha
      rcases List.mem_append.1 ha with h1 | h1
      · exact hj a h1
      · rw [List.mem_singleton] at h1; rw [h1]; exact hr
theorem mt_jnS (x : Int) (s : Int × Int) (js : List Ru) (r : Ru) (hj : ∀ a ∈ js, okB a = true) (hr : okB r = true) : (jnS js r).foldl (mtS x) s = mtS x (js.foldl (mtS x) s) r := by
  by_cases h : js = []
  · subst h; rfl
  · rw [jnS_last js h]
    split
    · rename_i hc
      conv => rhs; rw [← List.dropLast_concat_getLast h]
      rw [List.foldl_append, List.foldl_append]
      simp only [List.foldl_cons, List.foldl_nil]
      exact (mtS_join x _ (js.getLast h) r (hj _ (List.getLast_mem h)) hr hc).2.symm
    · rw [List.foldl_append]; rfl
theorem jn_all (x : Int) (s : Int × Int) : ∀ (ys js : List Ru), (∀ a ∈ js, okB a = true) → (∀ a ∈ ys, okB a = true) → (∀ a ∈ ys.foldl jnS js, okB a = true) ∧ (ys.foldl jnS js).foldl (mtS x) s = ys.foldl (mtS x) (js.foldl (mtS x) s) := by
  intro ys
  induction ys with
  | nil => intro js hj _; exact ⟨hj, rfl⟩
  | cons y t ih =>
    intro js hj hy
    have hy0 := hy y (List.mem_cons_self ..)
    have h1 := ih (jnS js y) (jnS_ok js y hj hy0) (fun a ha => hy a (List.mem_cons_of_mem _ ha))
    rw [List.foldl_cons]
    refine ⟨h1.1, ?_⟩
    rw [h1.2, mt_jnS x s js y hj hy0, List.foldl_cons]
theorem mtF_jn (x : Int) (ys : List Ru) (h : ∀ a ∈ ys, okB a = true) : mtF x (jn ys) = mtF x ys := by
  unfold mtF jn
  rw [(jn_all x (0, 0) ys [] (by simp) h).2]; rfl
theorem jn_ok (ys : List Ru) (h : ∀ a ∈ ys, okB a = true) : ∀ a ∈ jn ys, okB a = true := (jn_all 0 (0, 0) ys [] (by simp) h).1
/-- strictly in order -/
def ltK (a b : Ru) : Prop := a.addr < b.addr ∨ (a.addr = b.addr ∧ a.bits < b.bits)
theorem ltK_iff (a b : Ru) : ltR a b = true ↔ ltK a b := ltR_iff a b
/-- what is joined is strictly in order: each later one stands behind the last -/
theorem jn_strict_aux : ∀ (ys js : List Ru), js.Pairwise ltK → (∀ a ∈ js, ∀ b ∈ ys, ¬ ltK b a) → ys.Pairwise (fun a b => ¬ ltK b a) → (ys.foldl jnS js).Pairwise ltK := by
  intro ys
  induction ys with
  | nil => intro js h _ _; exact h
  | cons y t ih =>
    intro js hj hjy hy
    rw [List.foldl_cons]
    rw [List.pairwise_cons] at hy
    by_cases h : js = []
    · subst h
      refine ih _ (by rw [jnS_nil]; exact List.pairwise_singleton _ _) (fun a ha b hb => ?_) hy.2
      rw [jnS_nil, List.mem_singleton] at ha
      subst ha
      exact hy.1 b hb
    · have hlm := List.getLast_mem h
      have hdj : js.dropLast ++ [js.getLast h] = js := List.dropLast_concat_getLast h
      rw [← hdj, List.pairwise_append] at hj
      rw [jnS_last js h]
      split
      · rename_i hc
        obtain ⟨ha, hb⟩ := (crI_zero _ _).1 hc
        refine ih _ ?_ (fun a ha' b hb' => ?_) hy.2
        · rw [List.pairwise_append]
          refine ⟨hj.1, List.pairwise_singleton _ _, fun a ha' b hb' => ?_⟩
          rw [List.mem_singleton] at hb'
          have h9 : ltK a (js.getLast h) := hj.2.2 a ha' _ (List.mem_singleton.2 rfl)
          subst hb'
          exact h9
        · rcases List.mem_append.1 ha' with h1 | h1
          · exact hjy a (List.dropLast_subset _ h1) b (List.mem_cons_of_mem _ hb')
          · rw [List.mem_singleton] at h1
            subst h1
            exact hjy _ hlm b (List.mem_cons_of_mem _ hb')
      · rename_i hc
        have hly : ltK (js.getLast h) y := by
          have h1 := hjy _ hlm y (List.mem_cons_self ..)
          have h2 : ¬ ((js.getLast h).addr = y.addr ∧ (js.getLast h).bits = y.bits) := fun e => hc ((crI_zero _ _).2 e)
          unfold ltK at h1 ⊢
          omega
        refine ih _ ?_ (fun a ha' b hb' => ?_) hy.2
        · rw [List.pairwise_append]
          refine ⟨by rw [← hdj, List.pairwise_append]; exact hj, List.pairwise_singleton _ _, fun a ha' b hb' => ?_⟩
          rw [List.mem_singleton] at hb'
          subst hb'
          rw [← hdj] at ha'
          rcases List.mem_append.1 ha' with h1 | h1
          · have h2 := hj.2.2 a h1 _ (List.mem_singleton.2 rfl)
            unfold ltK at h2 hly ⊢
            omega
          · rw [List.mem_singleton] at h1
            subst h1
            exact hly
        · rcases List.mem_append.1 ha' with h1 | h1
          · exact hjy a h1 b (List.mem_cons_of_mem _ hb')
          · rw [List.mem_singleton] at h1
            subst h1
            exact hy.1 b hb'
theorem jn_strict (ys : List Ru) (h : ys.Pairwise (fun a b => ltR b a = false)) : (jn ys).Pairwise ltK := by
  refine jn_strict_aux ys [] List.Pairwise.nil (by simp) (h.imp fun {a b} hab hk => ?_)
  rw [(ltK_iff b a).2 hk] at hab; cases hab
/-- a permutation in order of what is strictly in order is the same -/
theorem strict_perm : ∀ (zs ys : List Ru), ys.Perm zs → zs.Pairwise ltK → ys.Pairwise (fun a b => ltR b a = false) → ys = zs := by
  intro zs
  induction zs with
  | nil => intro ys hp _ _; exact hp.eq_nil
  | cons z t ih =>
    intro ys hp hz hy
    rw [List.pairwise_cons] at hz
    cases ys with
    | nil => exact absurd hp.symm.eq_nil (by simp)
    | cons y s =>
      rw [List.pairwise_cons] at hy
      have hyz : y = z := by
        have h1 : y ∈ z :: t := hp.mem_iff.1 (List.mem_cons_self ..)
        rcases List.mem_cons.1 h1 with h2 | h2
        · exact h2
        · have h3 : z ∈ y :: s := hp.mem_iff.2 (List.mem_cons_self ..)
          rcases List.mem_cons.1 h3 with h4 | h4
          · exact h4.symm
          · have h5 := hz.1 y h2
            have h6 := hy.1 z h4
            rw [(ltK_iff z y).2 h5] at h6; cases h6
      subst hyz
      rw [ih s ((List.perm_cons y).1 hp) hz.2 hy.2]
theorem jn_same_aux : ∀ (ys js : List Ru), (js ++ ys).Pairwise ltK → ys.foldl jnS js = js ++ ys := by
  intro ys
  induction ys with
  | nil => intro js _; simp
  | cons y t ih =>
    intro js h
    rw [List.foldl_cons]
    have e : jnS js y = js ++ [y] := by
      by_cases h0 : js = []
      · subst h0; rfl
      · rw [jnS_last js h0, if_neg]
        intro hc
        obtain ⟨ha, hb⟩ := (crI_zero _ _).1 hc
        have := (List.pairwise_append.1 h).2.2 _ (List.getLast_mem h0) y (List.mem_cons_self ..)
        unfold ltK at this
        omega
    rw [e, ih (js ++ [y]) (by rw [List.append_assoc]; exact h), List.append_assoc]; rfl
theorem jn_same (zs : List Ru) (h : zs.Pairwise ltK) : jn zs = zs := by
  unfold jn
  rw [jn_same_aux zs [] (by simpa using h)]; rfl
end Go.Proofs.Ytmgphfdieekpdaa
