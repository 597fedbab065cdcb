/- Exchanges in a row, as lists; blocks of a row, sorted. Pure. -/
import Derived.Test.YtdlipponajilbaaClP
namespace Go.Proofs.Ytdlipponajilbaa.St
open Go Go.Sort
set_option linter.unusedVariables false
variable {α : Type}
/-- each block of s sorted -/
def Dk (lt : α → α → Bool) (s : Nat) : Nat → List α → List α
  | 0, _ => []
  | n + 1, l => st lt (l.take s) ++ Dk lt s n (l.drop s)
theorem Dk_nil (lt : α → α → Bool) (s n : Nat) : Dk lt s n [] = [] := by
  induction n with
  | zero => rfl
  | succ n ih => show st lt (([] : List α).take s) ++ Dk lt s n (([] : List α).drop s) = []; rw [List.take_nil, List.drop_nil, ih]; rfl
theorem Dk_more (lt : α → α → Bool) (s : Nat) (hs : 0 < s) : ∀ (n m : Nat) (l : List α), l.length ≤ n → l.length ≤ m → Dk lt s n l = Dk lt s m l := by
  intro n
  induction n with
  | zero =>
    intro m l h _
    have : l = [] := List.length_eq_zero_iff.1 (by omega)
    subst this
    rw [Dk_nil, Dk_nil]
  | succ n ih =>
    intro m l h h2
    cases m with
    | zero =>
      have : l = [] := List.length_eq_zero_iff.1 (by omega)
      subst this
      rw [Dk_nil, Dk_nil]
    | succ m =>
      show st lt (l.take s) ++ Dk lt s n (l.drop s) = st lt (l.take s) ++ Dk lt s m (l.drop s)
      rw [ih m (l.drop s) (by rw [List.length_drop]; omega) (by rw [List.length_drop]; omega)]
def Df (lt : α → α → Bool) (s : Nat) (l : List α) : List α := Dk lt s l.length l
theorem Df_step (lt : α → α → Bool) {s : Nat} (hs : 0 < s) (l : List α) : Df lt s l = st lt (l.take s) ++ Df lt s (l.drop s) := by
  unfold Df
  cases hl : l with
  | nil => simp only [List.take_nil, List.drop_nil]; rfl
  | cons x t =>
    rw [← hl]
    have e : l.length = t.length + 1 := by rw [hl]; rfl
    rw [e]
    show st lt (l.take s) ++ Dk lt s t.length (l.drop s) = _
    rw [Dk_more lt s hs t.length (l.drop s).length (l.drop s) (by rw [List.length_drop, e]; omega) (Nat.le_refl _)]
theorem Df_all (lt : α → α → Bool) {s : Nat} (hs : 0 < s) {l : List α} (h : l.length ≤ s) : Df lt s l = st lt l := by
  rw [Df_step lt hs, List.take_of_length_le h, List.drop_of_length_le h]
  show st lt l ++ [] = _
  rw [List.append_nil]
theorem Df_len (lt : α → α → Bool) {s : Nat} (hs : 0 < s) : ∀ (l : List α), (Df lt s l).length = l.length := by
  intro l
  suffices h : ∀ n (l : List α), l.length ≤ n → (Df lt s l).length = l.length from h _ l (Nat.le_refl _)
  intro n
  induction n with
  | zero =>
    intro l h
    have : l = [] := List.length_eq_zero_iff.1 (by omega)
    subst this; rfl
  | succ n ih =>
    intro l h
    rcases Nat.lt_or_ge s l.length with h1 | h1
    · rw [Df_step lt hs, List.length_append, st_len, ih (l.drop s) (by rw [List.length_drop]; omega), List.length_take, List.length_drop]; omega
    · rw [Df_all lt hs h1, st_len]
/-- two blocks of s are one of twice that -/
theorem st_two {lt : α → α → Bool} (hS : SWO lt) (s : Nat) (l : List α) : mg lt (st lt (l.take s)) (st lt ((l.drop s).take s)) = st lt (l.take (2 * s)) := by
  rw [← st_append hS]
  congr 1
  rw [show 2 * s = s + s from by omega, List.take_add]
theorem get_at [Inhabited α] (l P Z : List α) (x : α) (i : Nat) (hl : l = P ++ x :: Z) (hi : i = P.length) : l.toArray[i]! = x := by
  subst hi
  subst hl
  simp
theorem swp_list [Inhabited α] (P M Z : List α) (x y : α) (i j : Nat) (hi : i = P.length) (hj : j = P.length + 1 + M.length) : swp (P ++ x :: (M ++ y :: Z)).toArray i j = (P ++ y :: (M ++ x :: Z)).toArray := by
  unfold swp
  have e1 : (P ++ x :: (M ++ y :: Z)).toArray[i]! = x := get_at _ P _ _ _ rfl hi
  have e2 : (P ++ x :: (M ++ y :: Z)).toArray[j]! = y := get_at _ (P ++ x :: M) Z y j (by simp) (by rw [List.length_append, List.length_cons]; omega)
  rw [e1, e2]
  simp only [List.setIfInBounds_toArray]
  congr 1
  subst hi
  rw [List.set_append_right _ _ (Nat.le_refl _), Nat.sub_self, List.set_cons_zero, List.set_append_right _ _ (by omega), show j - P.length = M.length + 1 from by omega, List.set_cons_succ, List.set_append_right _ _ (Nat.le_refl _), Nat.sub_self, List.set_cons_zero]
theorem swp_comm [Inhabited α] (d : Array α) (i j : Nat) (hi : i < d.size) (hj : j < d.size) : swp d i j = swp d j i := by
  apply Array.ext
  · rw [size_swp, size_swp]
  intro k h1 h2
  have h1' : k < d.size := by rw [size_swp] at h1; exact h1
  have a1 := swp_get d hi hj k
  have a2 := swp_get d hj hi k
  rw [← getElem!_pos (swp d i j) k h1, ← getElem!_pos (swp d j i) k h2, a1, a2]
  by_cases e1 : k = i
  · subst e1
    by_cases e2 : k = j
    · subst e2; rfl
    · simp [e2]
  · by_cases e2 : k = j
    · subst e2; simp [e1]
    · simp [e1, e2]
/-- two ranges, exchanged as far as i -/
def swS (P A Y B Z : List α) (i : Nat) : List α := P ++ ((B.take i ++ A.drop i) ++ (Y ++ ((A.take i ++ B.drop i) ++ Z)))
theorem swS_0 (P A Y B Z : List α) : swS P A Y B Z 0 = P ++ (A ++ (Y ++ (B ++ Z))) := by unfold swS; simp
theorem swS_n {P A Y B Z : List α} {n : Nat} (hA : A.length = n) (hB : B.length = n) : swS P A Y B Z n = P ++ (B ++ (Y ++ (A ++ Z))) := by
  unfold swS
  rw [List.take_of_length_le (l := B) (by omega), List.take_of_length_le (l := A) (by omega), List.drop_of_length_le (l := A) (by omega), List.drop_of_length_le (l := B) (by omega), List.append_nil, List.append_nil]
theorem swS_len {P A Y B Z : List α} {n : Nat} (hA : A.length = n) (hB : B.length = n) (i : Nat) : (swS P A Y B Z i).length = P.length + n + Y.length + n + Z.length := by
  unfold swS
  simp only [List.length_append, List.length_take, List.length_drop]
  omega
theorem take_drop_at {l : List α} {i : Nat} (h : i < l.length) : l.drop i = l[i] :: l.drop (i + 1) ∧ l.take (i + 1) = l.take i ++ [l[i]] := ⟨List.drop_eq_getElem_cons h, List.take_succ_eq_append_getElem h⟩
theorem swS_step [Inhabited α] {P A Y B Z : List α} {n : Nat} (hA : A.length = n) (hB : B.length = n) {i : Nat} (hi : i < n) : swp (swS P A Y B Z i).toArray (P.length + i) (P.length + n + Y.length + i) = (swS P A Y B Z (i + 1)).toArray := by
  obtain ⟨a1, a2⟩ := take_drop_at (l := A) (i := i) (by omega)
  obtain ⟨b1, b2⟩ := take_drop_at (l := B) (i := i) (by omega)
  have e := swp_list (P ++ B.take i) (A.drop (i + 1) ++ (Y ++ A.take i)) (B.drop (i + 1) ++ Z) A[i] B[i] (P.length + i) (P.length + n + Y.length + i) (by rw [List.length_append, List.length_take]; omega) (by simp only [List.length_append, List.length_take, List.length_drop]; omega)
  have e1 : swS P A Y B Z i = (P ++ B.take i) ++ A[i] :: ((A.drop (i + 1) ++ (Y ++ A.take i)) ++ B[i] :: (B.drop (i + 1) ++ Z)) := by
    unfold swS
    rw [a1, b1]
    simp only [List.append_assoc, List.cons_append]
  have e2 : swS P A Y B Z (i + 1) = (P ++ B.take i) ++ B[i] :: ((A.drop (i + 1) ++ (Y ++ A.take i)) ++ A[i] :: (B.drop (i + 1) ++ Z)) := by
    unfold swS
    rw [a2, b2]
    simp only [List.append_assoc, List.cons_append, List.nil_append]
  rw [e1, e, e2]
/-- one is moved down to its place -/
theorem insInner_st [Inhabited α] {lt : α → α → Bool} (hS : SWO lt) (X R : List α) (x : α) : ∀ (k : Nat) (S1 S2 : List α), S1.length = k → So lt S1 → (∀ s ∈ S2, lt x s = true) → insInner lt X.length (X.length + k) (X ++ (S1 ++ x :: (S2 ++ R))).toArray = (X ++ (mg lt (S1 ++ S2) [x] ++ R)).toArray := by
  intro k
  induction k with
  | zero =>
    intro S1 S2 h0 _ h2
    have : S1 = [] := List.length_eq_zero_iff.1 h0
    subst this
    rw [insInner_stop _ _ _ _ (.inl (by omega)), mg_put (S1 := []) (fun s hs => by cases hs) h2]
    simp
  | succ k ih =>
    intro S1 S2 h0 hs h2
    obtain ⟨T, s, rfl⟩ : ∃ T s, S1 = T ++ [s] := by
      rcases List.eq_nil_or_concat S1 with h | ⟨T, s, h⟩
      · subst h; simp at h0
      · exact ⟨T, s, by rw [h, List.concat_eq_append]⟩
    have hT : T.length = k := by simpa using h0
    have hp := List.pairwise_append.1 hs
    have eL : X ++ ((T ++ [s]) ++ x :: (S2 ++ R)) = (X ++ T) ++ s :: ([] ++ x :: (S2 ++ R)) := by simp
    have g1 : (X ++ ((T ++ [s]) ++ x :: (S2 ++ R))).toArray[X.length + (k + 1)]! = x := get_at _ (X ++ T ++ [s]) (S2 ++ R) x (X.length + (k + 1)) (by simp) (by simp; omega)
    have g2 : (X ++ ((T ++ [s]) ++ x :: (S2 ++ R))).toArray[X.length + (k + 1) - 1]! = s := get_at _ (X ++ T) (x :: (S2 ++ R)) s (X.length + (k + 1) - 1) (by simp) (by simp; omega)
    cases hl : lt x s with
    | true =>
      rw [insInner_go _ _ _ _ (by omega) (by rw [g1, g2]; exact hl)]
      have e := swp_list (X ++ T) [] (S2 ++ R) s x (X.length + k) (X.length + (k + 1)) (by simp; omega) (by simp; omega)
      rw [show X.length + (k + 1) - 1 = X.length + k from by omega, swp_comm _ _ _ (by simp; omega) (by simp; omega), eL, e]
      have e3 : (X ++ T) ++ x :: ([] ++ s :: (S2 ++ R)) = X ++ (T ++ x :: ((s :: S2) ++ R)) := by simp
      rw [e3, ih T (s :: S2) hT hp.1 (fun z hz => by
        rcases List.mem_cons.1 hz with rfl | h
        · exact hl
        · exact h2 z h)]
      have e4 : T ++ [s] ++ S2 = T ++ s :: S2 := by simp
      rw [e4]
    | false =>
      rw [insInner_stop _ _ _ _ (.inr (by rw [g1, g2]; exact hl)), mg_put (S1 := T ++ [s]) (fun z hz => by
        rcases List.mem_append.1 hz with h | h
        · exact hS.ntrans x s z hl (hp.2.2 z h s (List.mem_singleton.2 rfl))
        · rw [List.mem_singleton.1 h]; exact hl) h2]
      simp
theorem insOuter_st [Inhabited α] {lt : α → α → Bool} (hS : SWO lt) (X Z : List α) (b : Nat) : ∀ (R L : List α), b = X.length + L.length + R.length → 0 < L.length ∨ R = [] → insOuter lt X.length b (X.length + L.length) (X ++ (st lt L ++ (R ++ Z))).toArray = (X ++ (st lt (L ++ R) ++ Z)).toArray := by
  intro R
  induction R with
  | nil =>
    intro L hb _
    rw [insOuter_stop _ _ _ _ _ (by simp at hb; omega), List.append_nil, List.nil_append]
  | cons x R ih =>
    intro L hb h0
    have h1 : 0 < L.length := by
      rcases h0 with h | h
      · exact h
      · cases h
    rw [insOuter_go _ _ _ _ _ (by simp at hb; omega)]
    have e := insInner_st hS X (R ++ Z) x L.length (st lt L) [] (st_len lt L) (st_so hS L) (fun s hs => by cases hs)
    rw [List.nil_append, List.append_nil, ← st_snoc] at e
    rw [List.cons_append, e]
    have e2 := ih (L ++ [x]) (by simp at hb ⊢; omega) (.inl (by simp))
    rw [List.length_append, List.length_singleton, ← Nat.add_assoc] at e2
    rw [e2]
    simp
/-- the insertion sort of a range -/
theorem ins_st [Inhabited α] {lt : α → α → Bool} (hS : SWO lt) (X L Z : List α) (a b : Nat) (ha : a = X.length) (hb : b = X.length + L.length) : insertionSort lt (X ++ (L ++ Z)).toArray a b = (X ++ (st lt L ++ Z)).toArray := by
  subst ha
  unfold insertionSort
  cases L with
  | nil => rw [insOuter_stop _ _ _ _ _ (by simp at hb; omega)]; rfl
  | cons x L =>
    have e := insOuter_st hS X Z b L [x] (by simp at hb ⊢; omega) (.inl (by simp))
    rw [st_one] at e
    exact e
end Go.Proofs.Ytdlipponajilbaa.St
