/- Spans in order, their middle, how far it spreads (no run of the model in this text). -/
import Derived.Test.YtogloknoaeackaaNum
namespace Pu
def srt (xs : List Int) : List Int := xs.mergeSort fun x y => decide (x ≤ y)
def cls (xs : List Int) : List Int := (xs.take 64).map (Fx.cl 4294967296)
/-- without the lowest quarter and the highest one -/
def mdl (s : List Int) : List Int := (s.drop (s.length / 4)).take (s.length - s.length / 4 - s.length / 4)
def mid (xs : List Int) : List Int := mdl (srt (cls xs))
def mdM (xs : List Int) : Int := (mid xs).sum / ((mid xs).length : Int)
def mdW (xs : List Int) : Int := (mid xs).getD ((mid xs).length - 1) 0 - (mid xs).getD 0 0
theorem srt_len (xs : List Int) : (srt xs).length = xs.length := by unfold srt; exact List.length_mergeSort xs
theorem srt_perm (xs : List Int) : (srt xs).Perm xs := List.mergeSort_perm _ _
theorem srt_mem {xs : List Int} {x : Int} : x ∈ srt xs ↔ x ∈ xs := (srt_perm xs).mem_iff
theorem srt_sorted (xs : List Int) : (srt xs).Pairwise (· ≤ ·) := by
  have h := List.pairwise_mergeSort (le := fun x y : Int => decide (x ≤ y)) (fun a b c => by simp; omega) (fun a b => by simp; omega) xs
  refine h.imp ?_
  intro a b hab
  simpa using hab
theorem srt_eq {xs ys : List Int} (hp : ys.Perm xs) (hs : ys.Pairwise (· ≤ ·)) : srt xs = ys :=
  List.Perm.eq_of_pairwise (le := fun a b : Int => a ≤ b) (fun a b _ _ h1 h2 => by omega) (srt_sorted xs) hs ((srt_perm xs).trans hp.symm)
theorem cls_len (xs : List Int) : (cls xs).length = min 64 xs.length := by unfold cls; simp
theorem cls_bd {xs : List Int} {x : Int} (h : x ∈ cls xs) : -4294967296 ≤ x ∧ x ≤ 4294967296 := by
  unfold cls at h
  obtain ⟨y, _, rfl⟩ := List.mem_map.1 h
  exact Fx.cl_bd (by decide) y
theorem mdl_len (s : List Int) : (mdl s).length = s.length - s.length / 4 - s.length / 4 := by unfold mdl; simp
theorem mdl_mem {s : List Int} {x : Int} (h : x ∈ mdl s) : x ∈ s := List.mem_of_mem_drop (List.mem_of_mem_take h)
theorem mid_len (xs : List Int) : (mid xs).length = min 64 xs.length - min 64 xs.length / 4 - min 64 xs.length / 4 := by
  unfold mid; rw [mdl_len, srt_len, cls_len]
theorem mid_bd {xs : List Int} {x : Int} (h : x ∈ mid xs) : -4294967296 ≤ x ∧ x ≤ 4294967296 := cls_bd (srt_mem.1 (mdl_mem h))
theorem mid_pos {xs : List Int} (h : xs ≠ []) : 0 < (mid xs).length ∧ (mid xs).length ≤ 64 := by
  rw [mid_len]
  have : 0 < xs.length := List.length_pos_iff.2 h
  omega
theorem mid_getD (xs : List Int) (k : Nat) (h : k < (mid xs).length) : (mid xs).getD k 0 = (srt (cls xs)).getD (min 64 xs.length / 4 + k) 0 := by
  have hl := mid_len xs
  unfold mid mdl
  rw [List.getD_eq_getElem?_getD, List.getElem?_take_of_lt (by rw [srt_len, cls_len]; omega), List.getElem?_drop, srt_len, cls_len, ← List.getD_eq_getElem?_getD]
/-- a sum of spans stays small -/
theorem sum_bd (l : List Int) (h : ∀ x ∈ l, -4294967296 ≤ x ∧ x ≤ 4294967296) : -(4294967296 * (l.length : Int)) ≤ l.sum ∧ l.sum ≤ 4294967296 * (l.length : Int) := by
  induction l with
  | nil => simp
  | cons a l ih =>
    have h1 := h a (by simp)
    have h2 := ih (fun x hx => h x (by simp [hx]))
    rw [List.sum_cons, List.length_cons]
    omega
theorem getD_mem (l : List Int) (k : Nat) (h : k < l.length) : l.getD k 0 ∈ l := by
  rw [List.getD_eq_getElem?_getD, List.getElem?_eq_getElem h]; exact List.getElem_mem h
theorem take_sum (l : List Int) (k : Nat) (h : k < l.length) : (l.take (k + 1)).sum = (l.take k).sum + l.getD k 0 := by
  rw [List.take_succ_eq_append_getElem h, List.sum_append_int, List.getD_eq_getElem?_getD, List.getElem?_eq_getElem h]
  simp
theorem mean_bd (l : List Int) (n : Int) (lo hi : Int) (hn : n = (l.length : Int)) (h0 : 0 < l.length) (h : ∀ x ∈ l, lo ≤ x ∧ x ≤ hi) : lo ≤ l.sum / n ∧ l.sum / n ≤ hi := by
  have key : ∀ l : List Int, (∀ x ∈ l, lo ≤ x ∧ x ≤ hi) → lo * (l.length : Int) ≤ l.sum ∧ l.sum ≤ hi * (l.length : Int) := by
    intro l
    induction l with
    | nil => intro _; simp
    | cons a l ih =>
      intro h
      have h1 := h a (by simp)
      have h2 := ih (fun x hx => h x (by simp [hx]))
      rw [List.sum_cons, List.length_cons, Int.natCast_add, Int.mul_add, Int.mul_add]
      constructor <;> omega
  obtain ⟨k1, k2⟩ := key l h
  subst hn
  have hp : (0 : Int) < l.length := by omega
  exact ⟨(Int.le_ediv_iff_mul_le hp).2 k1, Int.le_of_lt_add_one ((Int.ediv_lt_iff_lt_mul hp).2 (by rw [Int.add_mul]; omega))⟩
theorem mdM_bd (xs : List Int) : -4294967296 ≤ mdM xs ∧ mdM xs ≤ 4294967296 := by
  by_cases h : xs = []
  · subst h
    have : mid [] = [] := List.length_eq_zero_iff.1 (by rw [mid_len]; simp)
    unfold mdM; rw [this]; simp
  · exact mean_bd (mid xs) _ _ _ rfl (mid_pos h).1 (fun x hx => mid_bd hx)
end Pu
