/- Wild ones: what the middle lies between, and that the order changes nothing. -/
import Derived.Test.YtenlkadmniobdaaPP
namespace Pu
theorem mid_perm {xs ys : List Int} (h : xs.Perm ys) (hl : xs.length ≤ 64) : mid xs = mid ys := by
  have e : srt (cls xs) = srt (cls ys) := by
    have hc : (cls xs).Perm (cls ys) := by
      unfold cls
      rw [List.take_of_length_le hl, List.take_of_length_le (by rw [← h.length_eq]; exact hl)]
      exact h.map _
    exact srt_eq ((srt_perm (cls ys)).trans hc.symm) (srt_sorted _)
  unfold mid
  rw [e]
theorem mdM_perm {xs ys : List Int} (h : xs.Perm ys) (hl : xs.length ≤ 64) : mdM xs = mdM ys := by unfold mdM; rw [mid_perm h hl]
theorem mdW_perm {xs ys : List Int} (h : xs.Perm ys) (hl : xs.length ≤ 64) : mdW xs = mdW ys := by unfold mdW; rw [mid_perm h hl]
/-- how many of a row lie below a bound -/
theorem sorted_low (s : List Int) (hs : s.Pairwise (· ≤ ·)) (lo : Int) (q : Nat) (hq : q < s.length) (hc : (s.filter fun x => decide (x < lo)).length ≤ q) : lo ≤ s.getD q 0 := by
  rcases Int.lt_or_le (s.getD q 0) lo with h | h
  · exfalso
    have hsub : (s.take (q + 1)).filter (fun x => decide (x < lo)) = s.take (q + 1) := by
      rw [List.filter_eq_self]
      intro a ha
      obtain ⟨i, hi, rfl⟩ := List.getElem_of_mem ha
      rw [List.length_take] at hi
      rw [List.getElem_take]
      rw [List.getD_eq_getElem?_getD, List.getElem?_eq_getElem hq] at h
      have h4 : s[i] ≤ s[q] := by
        rcases Nat.lt_or_ge i q with e | e
        · exact List.pairwise_iff_getElem.1 hs i q (by omega) hq e
        · have : i = q := by omega
          subst this; exact Int.le_refl _
      simp at h
      simp
      omega
    have hle : ((s.take (q + 1)).filter fun x => decide (x < lo)).length ≤ (s.filter fun x => decide (x < lo)).length := by
      exact ((List.take_sublist (q + 1) s).filter _).length_le
    rw [hsub, List.length_take] at hle
    omega
  · exact h
theorem sorted_high (s : List Int) (hs : s.Pairwise (· ≤ ·)) (hi : Int) (q : Nat) (hq : q < s.length) (hc : (s.filter fun x => decide (hi < x)).length + q < s.length) : s.getD q 0 ≤ hi := by
  rcases Int.lt_or_le hi (s.getD q 0) with h | h
  · exfalso
    have hsub : (s.drop q).filter (fun x => decide (hi < x)) = s.drop q := by
      rw [List.filter_eq_self]
      intro a ha
      obtain ⟨i, hi', rfl⟩ := List.getElem_of_mem ha
      rw [List.length_drop] at hi'
      rw [List.getElem_drop]
      rw [List.getD_eq_getElem?_getD, List.getElem?_eq_getElem hq] at h
      have h4 : s[q] ≤ s[q + i] := by
        rcases Nat.eq_zero_or_pos i with e | e
        · subst e; exact Int.le_refl _
        · exact List.pairwise_iff_getElem.1 hs q (q + i) hq (by omega) (by omega)
      simp at h
      simp
      omega
    have hle : ((s.drop q).filter fun x => decide (hi < x)).length ≤ (s.filter fun x => decide (hi < x)).length := by
      exact ((List.drop_sublist q s).filter _).length_le
    rw [hsub, List.length_drop] at hle
    omega
  · exact h
/-- as long as no more than a quarter are wild, all of the middle lies among the others -/
theorem wild_mid (ts ws : List Int) (lo hi : Int) (hn : ts.length + ws.length ≤ 64) (hw : ws.length ≤ (ts.length + ws.length) / 4) (ht : ∀ x ∈ ts, lo ≤ Fx.cl 4294967296 x ∧ Fx.cl 4294967296 x ≤ hi) :
    ∀ x ∈ mid (ts ++ ws), lo ≤ x ∧ x ≤ hi := by
  have hs := srt_sorted (cls (ts ++ ws))
  have hl : (srt (cls (ts ++ ws))).length = ts.length + ws.length := by rw [srt_len, cls_len, List.length_append]; omega
  have hc : cls (ts ++ ws) = ts.map (Fx.cl 4294967296) ++ ws.map (Fx.cl 4294967296) := by
    unfold cls; rw [List.take_of_length_le (by rw [List.length_append]; exact hn), List.map_append]
  have hlow : ((srt (cls (ts ++ ws))).filter fun x => decide (x < lo)).length ≤ ws.length := by
    rw [((srt_perm (cls (ts ++ ws))).filter _).length_eq, hc, List.filter_append]
    have e : (ts.map (Fx.cl 4294967296)).filter (fun x => decide (x < lo)) = [] := by
      rw [List.filter_eq_nil_iff]
      intro a ha
      obtain ⟨x, hx, rfl⟩ := List.mem_map.1 ha
      have := ht x hx
      simp; omega
    rw [e, List.nil_append]
    have := List.length_filter_le (fun x => decide (x < lo)) (ws.map (Fx.cl 4294967296))
    rwa [List.length_map] at this
  have hhigh : ((srt (cls (ts ++ ws))).filter fun x => decide (hi < x)).length ≤ ws.length := by
    rw [((srt_perm (cls (ts ++ ws))).filter _).length_eq, hc, List.filter_append]
    have e : (ts.map (Fx.cl 4294967296)).filter (fun x => decide (hi < x)) = [] := by
      rw [List.filter_eq_nil_iff]
      intro a ha
      obtain ⟨x, hx, rfl⟩ := List.mem_map.1 ha
      have := ht x hx
      simp; omega
    rw [e, List.nil_append]
    have := List.length_filter_le (fun x => decide (hi < x)) (ws.map (Fx.cl 4294967296))
    rwa [List.length_map] at this
  intro x hx
  obtain ⟨i, hi', rfl⟩ := List.getElem_of_mem hx
  have hml := mid_len (ts ++ ws)
  rw [List.length_append] at hml
  have hg := mid_getD (ts ++ ws) i hi'
  rw [List.getD_eq_getElem?_getD, List.getElem?_eq_getElem hi', List.length_append] at hg
  have hg : (mid (ts ++ ws))[i] = (srt (cls (ts ++ ws))).getD (min 64 (ts.length + ws.length) / 4 + i) 0 := hg
  rw [hg]
  have hm : min 64 (ts.length + ws.length) = ts.length + ws.length := by omega
  rw [hm] at hml ⊢
  exact ⟨sorted_low _ hs lo _ (by omega) (by omega), sorted_high _ hs hi _ (by omega) (by omega)⟩
theorem mid_sorted (xs : List Int) : (mid xs).Pairwise (· ≤ ·) := ((srt_sorted (cls xs)).drop).take
theorem mdW_nonneg (xs : List Int) : 0 ≤ mdW xs := by
  unfold mdW
  rcases Nat.eq_zero_or_pos (mid xs).length with h | h
  · rw [List.length_eq_zero_iff.1 h]; simp
  · have h2 := mid_sorted xs
    rw [List.getD_eq_getElem?_getD, List.getD_eq_getElem?_getD, List.getElem?_eq_getElem (show (mid xs).length - 1 < (mid xs).length by omega), List.getElem?_eq_getElem h]
    rcases Nat.eq_zero_or_pos ((mid xs).length - 1) with e | e
    · simp [e]
    · have := List.pairwise_iff_getElem.1 h2 0 ((mid xs).length - 1) h (by omega) e
      simp
      omega
theorem mdW_le (xs : List Int) (lo hi : Int) (h0 : xs ≠ []) (h : ∀ x ∈ mid xs, lo ≤ x ∧ x ≤ hi) : mdW xs ≤ hi - lo := by
  have hp := (mid_pos h0).1
  have h1 := h _ (getD_mem (mid xs) 0 hp)
  have h2 := h _ (getD_mem (mid xs) ((mid xs).length - 1) (by omega))
  unfold mdW
  omega
end Pu
