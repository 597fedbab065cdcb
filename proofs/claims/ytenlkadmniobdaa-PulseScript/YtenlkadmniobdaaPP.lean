/- Spans in order, their middle, how far it spreads (no run of the model in this text). -/
import Derived.Test.YtenlkadmniobdaaNum
namespace Pu
def srt (xs : List Int) : List Int := xs.mergeSort fun x y => decide (x ≤ y)
def cls (xs : List Int) : List Int := (xs.take 64).map (Fx.cl 4294967296)
/-- without the lowest quarter and the highest one -/
def mdl (s : List Int) : List Int := (s.drop (s.length / 4)).take (s.length - s.length / 4 - s.length / 4)
def mid (xs : List Int) : List Int := mdl (srt (cls xs))
def mdM (xs : List Int) : Int := (mid xs).sum / ((mid xs).length : Int)
def mdW (xs : List Int) : Int := (mid xs).getD ((mid xs).length - 1) 0 - (mid xs).getD 0 0
theorem srt_len (xs : List Int) : (srt xs).length = xs.length := by unfold srt; exact List.length_mergeSort xs
theorem srt_perm (xs : List Int) : (srt xs).Perm xs := List.mergeSort_perm _ _
theorem srt_mem {xs : List Int} {x : Int} : x ∈ srt xs ↔ x ∈ xs := (srt_perm xs).mem_iff
theorem srt_sorted (xs : List Int) : (srt xs).Pairwise (· ≤ ·) := by
  have h := List.pairwise_mergeSort (le := fun x y : Int => decide (x ≤ y)) (fun a b c => by simp; omega) (fun a b => by simp; omega) xs
  refine h.imp ?_
  intro a b hab
  simpa using hab
theorem srt_eq {xs ys : List Int} (hp : ys.Perm xs) (hs : ys.Pairwise (· ≤ ·)) : srt xs = ys :=
  List.Perm.eq_of_pairwise (le := fun a b : Int => a ≤ b) (fun a b _ _ h1 h2 => by omega) (srt_sorted xs) hs ((srt_perm xs).trans hp.symm)
theorem cls_len (xs : List Int) : (cls xs).length = min 64 xs.length := by unfold cls; simp
theorem cls_bd {xs : List Int} {x : Int} (h : x ∈ cls xs) : -4294967296 ≤ x ∧ x ≤ 4294967296 := by
  unfold cls at h
  obtain ⟨y, _, rfl⟩ := List.mem_map.1 h
  exact Fx.cl_bd (by decide) y
theorem mdl_len (s : List Int) : (mdl s).length = s.length - s.length / 4 - s.length / 4 := by unfold mdl; simp
theorem mdl_mem {s : List Int} {x : Int} (h : x ∈ mdl s) : x ∈ s := List.mem_of_mem_drop (List.mem_of_mem_take h)
theorem mid_len (xs : List Int) : (mid xs).length = min 64 xs.length - min 64 xs.length / 4 - min 64 xs.length / 4 := by
  unfold mid; rw [mdl_len, srt_len, cls_len]
theorem mid_bd {xs : List Int} {x : Int} (h : x ∈ mid xs) : -4294967296 ≤ x ∧ x ≤ 4294967296 := cls_bd (srt_mem.1 (mdl_mem h))
theorem mid_pos {xs : List Int} (h : xs ≠ []) : 0 < (mid xs).length ∧ (mid xs).length ≤ 64 := by
  rw [mid_len]
  have : 0 < xs.length := List.length_pos_iff.2 h
  omega
theorem mid_getD (xs : List Int) (k : Nat) (h : k < (mid xs).length) : (mid xs).getD k 0 = (srt (cls xs)).getD (min 64 xs.length / 4 + k) 0 := by
  have hl := mid_len xs
  unfold mid mdl
  rw [List.getD_eq_getElem?_getD, List.getElem?_take_of_lt (by rw [srt_len, cls_len]; omega), List.getElem?_drop, srt_len, cls_len, ← List.getD_eq_getElem?_getD]
/-- a sum of spans stays small -/
theorem sum_bd (l : List Int) (h : ∀ x ∈ l, -4294967296 ≤ x ∧ x ≤ 4294967296) : -(4294967296 * (l.length : Int)) ≤ l.sum ∧ l.sum ≤ 4294967296 * (l.length : Int) := by
  induction l with
  | nil => simp
  | cons a l ih =>
    have h1 := h a (by simp)
    have h2 := ih (fun x hx => h x (by simp [hx]))
    rw [List.sum_cons, List.length_cons]
    omega
theorem getD_mem (l : List Int) (k : Nat) (h : k < l.length) : l.getD k 0 ∈ l := by
  rw [List.getD_eq_getElem?_getD, List.getElem?_eq_getElem h]; exact List.getElem_mem h
theorem take_sum (l : List Int) (k : Nat) (h : k < l.length) : (l.take (k + 1)).sum = (l.take k).sum + l.getD k 0 := by
  rw [List.take_succ_eq_append_getElem h, List.sum_append_int, List.getD_eq_getElem?_getD, List.getElem?_eq_getElem h]
  simp
theorem mean_bd (l : List Int) (n : Int) (lo hi : Int) (hn : n = (l.length : Int)) (h0 : 0 < l.length) (h : ∀ x ∈ l, lo ≤ x ∧ x ≤ hi) : lo ≤ l.sum / n ∧ l.sum / n ≤ hi := by
  have key : ∀ l : List Int, (∀ x ∈ l, lo ≤ x ∧ x ≤ hi) → lo * (l.length : Int) ≤ l.sum ∧ l.sum ≤ hi * (l.length : Int) := by
    intro l
    induction l with
    | nil => intro _; simp
    | cons a l ih =>
      intro h
      have h1 := h a (by simp)
      have h2 := ih (fun x hx => h x (by simp [hx]))
      rw [List.sum_cons, List.length_cons, Int.natCast_add, Int.mul_add, Int.mul_add]
      constructor <;> omega
  obtain ⟨k1, k2⟩ := key l h
  subst hn
  have hp : (0 : Int) < l.length := by omega
  exact ⟨(Int.le_ediv_iff_mul_le hp).2 k1, Int.le_of_lt_add_one ((Int.ediv_lt_iff_lt_mul hp).2 (by rw [Int.add_mul]; omega))⟩
theorem mdM_bd (xs : List Int) : -4294967296 ≤ mdM xs ∧ mdM xs ≤ 4294967296 := by
  by_cases h : xs = []
  · subst h
    have : mid [] = [] := List.length_eq_zero_iff.1 (by rw [mid_len]; simp)
    unfold mdM; rw [this]; simp
  · exact mean_bd (mid xs) _ _ _ rfl (mid_pos h).1 (fun x hx => mid_bd hx)
/-- one more is put into its place -/
theorem srt_ins (zs : List Int) (x : Int) (j : Nat) (hj : j ≤ zs.length) (h1 : ∀ i, i < j → (srt zs).getD i 0 ≤ x) (h2 : j < zs.length → x < (srt zs).getD j 0) : srt (zs ++ [x]) = (srt zs).take j ++ ([x] ++ (srt zs).drop j) := by
  have hs := srt_sorted zs
  have hl := srt_len zs
  have hp := srt_perm zs
  generalize srt zs = s at *
  refine srt_eq ?_ ?_
  · have e1 : (s.take j ++ ([x] ++ s.drop j)).Perm ([x] ++ (s.take j ++ s.drop j)) := by
      rw [← List.append_assoc, ← List.append_assoc]
      exact List.Perm.append_right _ List.perm_append_comm
    rw [List.take_append_drop] at e1
    exact e1.trans (List.perm_append_comm.trans (List.Perm.append_right _ hp))
  · rw [List.pairwise_append]
    refine ⟨hs.take, ?_, ?_⟩
    · rw [List.singleton_append, List.pairwise_cons]
      refine ⟨fun a ha => ?_, hs.drop⟩
      obtain ⟨i, hi, rfl⟩ := List.getElem_of_mem ha
      rw [List.length_drop] at hi
      have hjl : j < s.length := by omega
      have h3 := h2 (by omega)
      rw [List.getD_eq_getElem?_getD, List.getElem?_eq_getElem hjl] at h3
      rw [List.getElem_drop]
      have h4 : s[j] ≤ s[j + i] := by
        rcases Nat.eq_or_lt_of_le (Nat.le_add_right j i) with e | e
        · exact Int.le_of_eq (by congr 1)
        · exact List.pairwise_iff_getElem.1 hs j (j + i) hjl (by omega) e
      simp at h3
      omega
    · intro a ha b hb
      obtain ⟨i, hi, rfl⟩ := List.getElem_of_mem ha
      rw [List.length_take] at hi
      rw [List.getElem_take]
      have h3 := h1 i (by omega)
      rw [List.getD_eq_getElem?_getD, List.getElem?_eq_getElem (show i < s.length by omega)] at h3
      simp at h3
      rw [List.singleton_append, List.mem_cons] at hb
      rcases hb with rfl | hb
      · exact h3
      · obtain ⟨k, hk, rfl⟩ := List.getElem_of_mem hb
        rw [List.length_drop] at hk
        rw [List.getElem_drop]
        exact List.pairwise_iff_getElem.1 hs i (j + k) (by omega) (by omega) (by omega)
theorem cls_take_succ (xs : List Int) (k : Nat) (h : k < min 64 xs.length) : (cls xs).take (k + 1) = (cls xs).take k ++ [Fx.cl 4294967296 (xs.getD k 0)] := by
  have hl := cls_len xs
  rw [List.take_succ_eq_append_getElem (by omega)]
  congr 2
  unfold cls
  rw [List.getElem_map, List.getElem_take, List.getD_eq_getElem?_getD, List.getElem?_eq_getElem (by omega)]
  rfl
theorem floor_of (s n : Int) (hn : 0 < n) : (if s < s.tdiv n * n then s.tdiv n - 1 else s.tdiv n) = s / n := by
  have h := Int.tdiv_mul_add_tmod s n
  rcases Int.lt_or_le s 0 with h0 | h0
  · have e : s.tdiv n = -((-s) / n) := by
      have : s = -(-s) := by omega
      rw [this, Int.neg_tdiv, Int.tdiv_eq_ediv_of_nonneg (by omega), Int.neg_neg]
    rw [e]
    have h1 := Int.mul_ediv_add_emod (-s) n
    have h2 := Int.emod_nonneg (-s) (show n ≠ 0 by omega)
    have h3 := Int.emod_lt_of_pos (-s) hn
    have e2 : -((-s) / n) * n = -(n * ((-s) / n)) := by rw [Int.neg_mul, Int.mul_comm]
    generalize hq : (-s) / n = q at *
    generalize (-s) % n = r at *
    rw [e2]
    by_cases hr : r = 0
    · rw [if_neg (by omega)]
      symm
      rw [Int.ediv_eq_iff_of_pos hn]
      constructor
      · rw [e2]; omega
      · rw [e2]; omega
    · rw [if_pos (by omega)]
      symm
      rw [Int.ediv_eq_iff_of_pos hn]
      have e3 : (-q - 1) * n = -(n * q) - n := by rw [Int.sub_mul, Int.neg_mul, Int.mul_comm]; omega
      constructor
      · rw [e3]; omega
      · rw [e3]; omega
  · rw [Int.tdiv_eq_ediv_of_nonneg h0]
    have h1 := Int.ediv_mul_le s (show n ≠ 0 by omega)
    rw [if_neg (by omega)]
end Pu
