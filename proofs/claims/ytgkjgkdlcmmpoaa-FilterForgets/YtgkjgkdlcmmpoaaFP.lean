/- Samples in lists: put by rising delay, the newest first of one; how dispersion grows; what is told of them. -/
import Derived.Test.YtgkjgkdlcmmpoaaNum
namespace Fi
/-- a sample: offset, delay, dispersion, time -/
structure Smp where
  o : Int
  d : Int
  p : Int
  a : Int
def z0 : Smp := ⟨0, 0, 0, 0⟩
/-- one put behind those of its delay and less -/
def ins (l : List Smp) (s : Smp) : List Smp := l.takeWhile (fun x => decide (x.d ≤ s.d)) ++ s :: l.dropWhile (fun x => decide (x.d ≤ s.d))
def srt (xs : List Smp) : List Smp := xs.foldl ins []
/-- rising delays -/
def Up (l : List Smp) : Prop := l.Pairwise (fun a b => a.d ≤ b.d)
theorem ins_perm (l : List Smp) (s : Smp) : (ins l s).Perm (s :: l) := by
  unfold ins
  refine List.perm_middle.trans ?_
  rw [List.takeWhile_append_dropWhile]
theorem tw_all (l : List Smp) (s : Smp) : ∀ x ∈ l.takeWhile (fun x => decide (x.d ≤ s.d)), x.d ≤ s.d := fun x hx => by
  have := List.all_takeWhile (l := l) (p := fun x => decide (x.d ≤ s.d))
  have := List.all_eq_true.1 this x hx
  simpa using this
theorem dw_all {l : List Smp} (h : Up l) (s : Smp) : ∀ x ∈ l.dropWhile (fun x => decide (x.d ≤ s.d)), s.d < x.d := by
  induction l with
  | nil => intro x hx; cases hx
  | cons y r ih =>
    have h' := List.pairwise_cons.1 h
    intro x hx
    by_cases hy : y.d ≤ s.d
    · rw [List.dropWhile_cons_of_pos (by simpa using hy)] at hx
      exact ih h'.2 x hx
    · rw [List.dropWhile_cons_of_neg (by simpa using hy)] at hx
      rcases List.mem_cons.1 hx with rfl | hx
      · omega
      · have := h'.1 x hx; omega
theorem ins_up {l : List Smp} (h : Up l) (s : Smp) : Up (ins l s) := by
  have h1 : Up (l.takeWhile (fun x => decide (x.d ≤ s.d))) := h.sublist (List.takeWhile_sublist _)
  have h2 : Up (l.dropWhile (fun x => decide (x.d ≤ s.d))) := h.sublist (List.dropWhile_sublist _)
  unfold ins
  refine List.pairwise_append.2 ⟨h1, List.pairwise_cons.2 ⟨fun x hx => Int.le_of_lt (dw_all h s x hx), h2⟩, fun a ha b hb => ?_⟩
  have ha := tw_all l s a ha
  rcases List.mem_cons.1 hb with rfl | hb
  · exact ha
  · have := dw_all h s b hb; omega
/-- where it goes, looked for from the end -/
theorem ins_at {l : List Smp} (s : Smp) (hu : Up l) (k : Nat) (hk : k ≤ l.length) (hd : ∀ j (hj : j < l.length), k ≤ j → s.d < l[j].d) (h0 : ∀ (h : 0 < k), l[k - 1].d ≤ s.d) : ins l s = l.take k ++ s :: l.drop k := by
  have key : ∀ x ∈ l.take k, x.d ≤ s.d := fun x hx => by
    obtain ⟨j, hj, rfl⟩ := List.getElem_of_mem hx
    rw [List.length_take] at hj
    rw [List.getElem_take]
    have hk0 : 0 < k := by omega
    have h1 := h0 hk0
    by_cases e : j = k - 1
    · subst e; exact h1
    · have := List.pairwise_iff_getElem.1 hu j (k - 1) (by omega) (by omega) (by omega)
      omega
  have kd : ∀ x ∈ l.drop k, s.d < x.d := fun x hx => by
    obtain ⟨j, hj, rfl⟩ := List.getElem_of_mem hx
    rw [List.length_drop] at hj
    rw [List.getElem_drop]
    exact hd _ (by omega) (by omega)
  have h1 : l.takeWhile (fun x => decide (x.d ≤ s.d)) = l.take k := by
    conv => lhs; rw [← List.take_append_drop k l]
    rw [List.takeWhile_append_of_pos (by intro x hx; simpa using key x hx)]
    have : (l.drop k).takeWhile (fun x => decide (x.d ≤ s.d)) = [] := by
      cases hq : l.drop k with
      | nil => rfl
      | cons y r =>
        rw [List.takeWhile_cons_of_neg]
        have := kd y (by rw [hq]; exact List.mem_cons_self ..)
        simp; omega
    rw [this, List.append_nil]
  have h2 : l.dropWhile (fun x => decide (x.d ≤ s.d)) = l.drop k := by
    conv => lhs; rw [← List.take_append_drop k l]
    rw [List.dropWhile_append_of_pos (by intro x hx; simpa using key x hx)]
    cases hq : l.drop k with
    | nil => rfl
    | cons y r =>
      rw [List.dropWhile_cons_of_neg]
      have := kd y (by rw [hq]; exact List.mem_cons_self ..)
      simp; omega
  unfold ins
  rw [h1, h2]
theorem snoc_ind {P : List Smp → Prop} (h0 : P []) (h1 : ∀ r s, P r → P (r ++ [s])) (l : List Smp) : P l := by
  have key : ∀ l : List Smp, P l.reverse := fun l => by
    induction l with
    | nil => exact h0
    | cons x r ih => rw [List.reverse_cons]; exact h1 _ _ ih
  have := key l.reverse
  rwa [List.reverse_reverse] at this
theorem srt_snoc (xs : List Smp) (s : Smp) : srt (xs ++ [s]) = ins (srt xs) s := by unfold srt; rw [List.foldl_append]; rfl
theorem srt_up (xs : List Smp) : Up (srt xs) := by
  induction xs using snoc_ind with
  | h0 => exact List.Pairwise.nil
  | h1 r s ih => rw [srt_snoc]; exact ins_up ih s
theorem srt_perm (xs : List Smp) : (srt xs).Perm xs := by
  induction xs using snoc_ind with
  | h0 => exact List.Perm.refl _
  | h1 r s ih =>
    rw [srt_snoc]
    exact (ins_perm _ s).trans ((List.Perm.cons s ih).trans (List.perm_append_comm (l₁ := [s]) (l₂ := r)))
theorem srt_len (xs : List Smp) : (srt xs).length = xs.length := (srt_perm xs).length_eq
/-- the last eight, the newest first -/
def adS (xs : List Smp) (s : Smp) : List Smp := (s :: xs).take 8
theorem adS_len (xs : List Smp) (s : Smp) (_h : xs.length ≤ 8) : (adS xs s).length = min 8 (xs.length + 1) := by unfold adS; rw [List.length_take, List.length_cons]
/-- the first of them -/
def fst (l : List Smp) : Smp := l.headD z0
theorem least (xs : List Smp) (h : 0 < xs.length) : fst (srt xs) ∈ xs ∧ ∀ x ∈ xs, (fst (srt xs)).d ≤ x.d := by
  have hl := srt_len xs
  have hu := srt_up xs
  have hp := srt_perm xs
  unfold fst
  cases hq : srt xs with
  | nil => rw [hq] at hl; simp at hl; omega
  | cons y r =>
    rw [hq] at hu hp
    refine ⟨hp.mem_iff.1 (List.mem_cons_self ..), fun x hx => ?_⟩
    rcases List.mem_cons.1 (hp.mem_iff.2 hx) with rfl | hx
    · exact Int.le_refl _
    · exact (List.pairwise_cons.1 hu).1 x hx
/-- all of one delay: they stay in their order -/
theorem ins_one (l : List Smp) (s : Smp) (h : ∀ x ∈ l, x.d = s.d) : ins l s = l ++ [s] := by
  have h1 := List.takeWhile_append_of_pos (p := fun x : Smp => decide (x.d ≤ s.d)) (l₁ := l) (l₂ := []) (by intro x hx; have := h x hx; simp; omega)
  have h2 := List.dropWhile_append_of_pos (p := fun x : Smp => decide (x.d ≤ s.d)) (l₁ := l) (l₂ := []) (by intro x hx; have := h x hx; simp; omega)
  rw [List.append_nil] at h1 h2
  unfold ins
  rw [h1, h2]
  simp
theorem srt_one (xs : List Smp) (D : Int) (h : ∀ x ∈ xs, x.d = D) : srt xs = xs := by
  induction xs using snoc_ind with
  | h0 => rfl
  | h1 r s ih =>
    have hr : ∀ x ∈ r, x.d = D := fun x hx => h x (List.mem_append_left _ hx)
    rw [srt_snoc, ih hr, ins_one]
    intro x hx
    rw [hr x hx, h s (by simp)]
/-- how far a lies behind b -/
def sn (a b : Int) : Int := Fx.cl 4611686018427387904 ((a - b + 9223372036854775808) % 18446744073709551616 - 9223372036854775808)
/-- the dispersion of a sample at a time -/
def dr (age : Int) : Int := Fx.cl 4611686018427387904 (4222124650 * age / 281474976710656)
def gr (s : Smp) (now : Int) : Int := min (max (Fx.cl 4611686018427387904 (s.p + dr (max (sn now s.a) 0))) 0) 68719476736
theorem gr_bd (s : Smp) (now : Int) : 0 ≤ gr s now ∧ gr s now ≤ 68719476736 := by unfold gr; omega
def pt (l : List Smp) (now : Int) (k : Nat) : Int := match l[k]? with | some s => gr s now | none => 68719476736
theorem pt_bd (l : List Smp) (now : Int) (k : Nat) : 0 ≤ pt l now k ∧ pt l now k ≤ 68719476736 := by
  unfold pt
  cases l[k]? with
  | none => simp
  | some s => exact gr_bd s now
/-- of the first n stages -/
def ds (l : List Smp) (now : Int) : Nat → Int
  | 0 => 0
  | k + 1 => ds l now k + pt l now k / 2 ^ (k + 1)
theorem ds_bd (l : List Smp) (now : Int) : ∀ n, n ≤ 8 → 0 ≤ ds l now n ∧ ds l now n ≤ 68719476736 * n
  | 0, _ => by simp [ds]
  | n + 1, h => by
    have ih := ds_bd l now n (by omega)
    have hp := pt_bd l now n
    have hpos : (0 : Int) < 2 ^ (n + 1) := Int.pow_pos (by decide)
    have h1 : 0 ≤ pt l now n / 2 ^ (n + 1) := Int.ediv_nonneg hp.1 (Int.le_of_lt hpos)
    have h2 : pt l now n / 2 ^ (n + 1) ≤ pt l now n := Int.ediv_le_self _ hp.1
    rw [ds]
    constructor
    · omega
    · have : (68719476736 : Int) * ((n + 1 : Nat) : Int) = 68719476736 * n + 68719476736 := by rw [Int.natCast_add]; omega
      omega
theorem ds_le (l : List Smp) (now : Int) : ds l now 8 ≤ 68719476736 := by
  have h0 := pt_bd l now 0
  have h1 := pt_bd l now 1
  have h2 := pt_bd l now 2
  have h3 := pt_bd l now 3
  have h4 := pt_bd l now 4
  have h5 := pt_bd l now 5
  have h6 := pt_bd l now 6
  have h7 := pt_bd l now 7
  simp only [ds]
  omega
end Fi
