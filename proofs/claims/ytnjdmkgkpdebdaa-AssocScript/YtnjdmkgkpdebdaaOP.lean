/- assoc: both tables say the same, in lists. -/
import Derived.Test.YtnjdmkgkpdebdaaOJ
namespace Go.Proofs.Ytnjdmkgkpdebdaa
open Go Go.RowKit Go.Sort
set_option linter.unusedVariables false
/-- numbers are places -/
def Ids (ms : List (Option Mb)) (k : Nat) : Prop := ∀ (i : Nat) m, ms[i]? = some (some m) → m.id = (k : Int) + i + 1
theorem Ids.tail {x : Option Mb} {t : List (Option Mb)} {k : Nat} (h : Ids (x :: t) k) : Ids t (k + 1) := fun i m hm => by
  have := h (i + 1) m (by simpa using hm)
  push_cast at this ⊢
  omega
theorem Tb.ids0 {w : World} {q : Nat} {ms : List (Option Mb)} (h : Tb w q ms) : Ids ms 0 := fun i m hm => by have := h.ids i m hm; simpa using this
theorem fd_fs (p : Mb → Bool) : ∀ ms : List (Option Mb), fdF p (rowsOf ms) = fsF p ms
  | [] => rfl
  | none :: t => by
    have := fd_fs p t
    have e : rowsOf (none :: t) = rowsOf t := rfl
    rw [e, fsF]; exact this
  | some m :: t => by
    have := fd_fs p t
    have e : rowsOf (some m :: t) = m :: rowsOf t := rfl
    rw [e, fdF, fsF, this]
theorem idM_lt (id : Int) : ∀ (ms : List (Option Mb)) (k : Nat), Ids ms k → id ≤ k → idM id (rowsOf ms) = none
  | [], _, _, _ => rfl
  | none :: t, k, h, hk => idM_lt id t (k + 1) h.tail (by push_cast; omega)
  | some m :: t, k, h, hk => by
    have e : rowsOf (some m :: t) = m :: rowsOf t := rfl
    have hm := h 0 m rfl
    rw [e, idM, if_neg (by simp at hm; omega)]
    exact idM_lt id t (k + 1) h.tail (by push_cast; omega)
theorem idM_at : ∀ (ms : List (Option Mb)) (k : Nat), Ids ms k → ∀ i : Nat, idM ((k : Int) + i + 1) (rowsOf ms) = ms.getD i none
  | [], _, _, _ => rfl
  | x :: t, k, h, 0 => by
    cases x with
    | none =>
      have e : rowsOf (none :: t) = rowsOf t := rfl
      rw [e]
      exact idM_lt _ t (k + 1) h.tail (by push_cast; omega)
    | some m =>
      have e : rowsOf (some m :: t) = m :: rowsOf t := rfl
      have hm := h 0 m rfl
      rw [e, idM, if_pos (by simpa using hm)]
      rfl
  | x :: t, k, h, i + 1 => by
    have ih := idM_at t (k + 1) h.tail i
    have e2 : ((k + 1 : Nat) : Int) + i + 1 = (k : Int) + (i + 1 : Nat) + 1 := by push_cast; omega
    rw [e2] at ih
    cases x with
    | none =>
      have e : rowsOf (none :: t) = rowsOf t := rfl
      rw [e, ih]
      rfl
    | some m =>
      have e : rowsOf (some m :: t) = m :: rowsOf t := rfl
      have hm := h 0 m rfl
      rw [e, idM, if_neg (by simp at hm; push_cast; omega), ih]
      rfl
theorem idM_ge (id : Int) : ∀ (ms : List (Option Mb)) (k : Nat), Ids ms k → (k : Int) + ms.length < id → idM id (rowsOf ms) = none
  | [], _, _, _ => rfl
  | none :: t, k, h, hk => idM_ge id t (k + 1) h.tail (by simp at hk; push_cast; omega)
  | some m :: t, k, h, hk => by
    have e : rowsOf (some m :: t) = m :: rowsOf t := rfl
    have hm := h 0 m rfl
    simp at hk
    rw [e, idM, if_neg (by simp at hm; omega)]
    exact idM_ge id t (k + 1) h.tail (by push_cast; omega)
/-- whoever stands under a number -/
theorem id_atM {ms : List (Option Mb)} (hl : ms.length = 16) (h : Ids ms 0) (id : Int) : idM id (rowsOf ms) = atM ms id := by
  unfold atM
  split
  · rename_i hi
    have := idM_at ms 0 h (id - 1).toNat
    have e : ((0 : Nat) : Int) + ((id - 1).toNat : Nat) + 1 = id := by omega
    rw [e] at this
    exact this
  · rename_i hi
    rcases (show id ≤ 0 ∨ 16 < id by omega) with h1 | h1
    · exact idM_lt id ms 0 h (by simpa using h1)
    · exact idM_ge id ms 0 h (by rw [hl]; simpa using h1)
theorem kn_any {ms : List (Option Mb)} (h : Ids ms 0) (a : As) : (rowsOf ms).any (fun m => clB m.ac a) = knB ms a := by
  unfold knB
  rw [Bool.eq_iff_iff, decide_eq_true_eq, fsF_ne, List.any_eq_true]
  · constructor
    · rintro ⟨m, hm, hp⟩
      obtain ⟨i, hi⟩ := rows_mem hm
      exact ⟨m, List.mem_of_getElem? hi, hp⟩
    · rintro ⟨m, hm, hp⟩
      refine ⟨m, ?_, hp⟩
      unfold rowsOf
      exact List.mem_filterMap.2 ⟨some m, hm, rfl⟩
  · intro m hm
    obtain ⟨i, hi⟩ := List.getElem?_of_mem hm
    have := h i m hi
    simp at this
    omega
theorem full_fr {ms : List (Option Mb)} (hl : ms.length = 16) : 16 ≤ (rowsOf ms).length ↔ frF ms 0 = 0 := by
  constructor
  · intro h
    by_cases hf : frF ms 0 = 0
    · exact hf
    · have := fr_rows hl hf
      omega
  · intro h
    rcases frF_spec ms 0 with ⟨-, h2⟩ | ⟨i, h1, -, -⟩
    · have : (rowsOf ms).length = ms.length := by
        clear h hl
        induction ms with
        | nil => rfl
        | cons x t ih =>
          cases x with
          | none => exact absurd rfl (h2 none (by simp))
          | some m =>
            have e : rowsOf (some m :: t) = m :: rowsOf t := rfl
            rw [e, List.length_cons, List.length_cons, ih (fun x hx => h2 x (by simp [hx]))]
      omega
    · rw [h1] at h
      simp at h
      omega
theorem ra_ad {ms : List (Option Mb)} (hl : ms.length = 16) (h : Ids ms 0) (a : As) (par : Int) : raE (rowsOf ms) a par = adE ms a par := by
  unfold raE adE
  rw [id_atM hl h, kn_any h]
  have := full_fr hl
  by_cases hf : frF ms 0 = 0
  · rw [if_pos (this.2 hf), if_pos hf]
  · rw [if_neg (fun hh => hf (this.1 hh)), if_neg hf]
theorem lf_fr {ms : List (Option Mb)} (hl : ms.length = 16) (h : Ids ms 0) (hf : frF ms 0 ≠ 0) : Lf (rowsOf ms) (frF ms 0).toNat := by
  rcases frF_spec ms 0 with ⟨h1, _⟩ | ⟨i, h1, h2, h3⟩
  · exact absurd h1 hf
  · have hi : i < 16 := by
      rcases Nat.lt_or_ge i 16 with h' | h'
      · exact h'
      · rw [List.getElem?_eq_none (by omega)] at h2; cases h2
    have e : (frF ms 0).toNat = i + 1 := by rw [h1]; simp
    rw [e]
    refine ⟨by omega, by omega, ?_, fun j j1 j2 => ?_⟩
    · rw [id_atM hl h]
      have := atM_at (T := ms) i hi
      push_cast
      rw [this]
      unfold at0
      rw [List.getD_eq_getElem?_getD, h2]
      rfl
    · obtain ⟨m, hm⟩ := h3 (j - 1) (by omega)
      rw [id_atM hl h]
      have := atM_at (T := ms) (j - 1) (by omega)
      have e2 : ((j - 1 : Nat) : Int) + 1 = (j : Int) := by omega
      rw [e2] at this
      rw [this, at0_some.2 hm]
      simp
theorem low_all (F : Int) : ∀ (l : List Mb), (∀ m ∈ l, m.id < F) → lowR l F = l ∧ topR l F = [] := by
  intro l h
  unfold lowR topR
  refine ⟨List.filter_eq_self.2 fun m hm => decide_eq_true (h m hm), List.filter_eq_nil_iff.2 fun m hm => ?_⟩
  have := h m hm
  simp
  omega
theorem top_all (F : Int) : ∀ (l : List Mb), (∀ m ∈ l, F < m.id) → lowR l F = [] ∧ topR l F = l := by
  intro l h
  unfold lowR topR
  refine ⟨List.filter_eq_nil_iff.2 fun m hm => ?_, List.filter_eq_self.2 fun m hm => decide_eq_true (h m hm)⟩
  have := h m hm
  simp
  omega
theorem rows_cut (ms : List (Option Mb)) (i : Nat) (hi : i < ms.length) (x : Option Mb) : rowsOf (ms.set i x) = rowsOf (ms.take i) ++ x.toList ++ rowsOf (ms.drop (i + 1)) := by
  have e : ms.set i x = ms.take i ++ x :: ms.drop (i + 1) := by
    rw [List.set_eq_take_append_cons_drop, if_pos hi]
  unfold rowsOf
  rw [e, List.filterMap_append, List.filterMap_cons]
  cases x <;> simp
theorem rows_here (ms : List (Option Mb)) (i : Nat) (h : ms[i]? = some none) : rowsOf ms = rowsOf (ms.take i) ++ rowsOf (ms.drop (i + 1)) := by
  have hi : i < ms.length := by
    rcases Nat.lt_or_ge i ms.length with h' | h'
    · exact h'
    · rw [List.getElem?_eq_none h'] at h; cases h
  have e : ms.set i none = ms := by
    refine List.ext_getElem? fun j => ?_
    rw [List.getElem?_set]
    split
    · rename_i e; subst e; rw [h]
    · rfl
  have := rows_cut ms i hi none
  rw [e] at this
  simpa using this
/-- what is added is added to both -/
theorem ra_rows {ms : List (Option Mb)} (hl : ms.length = 16) (h : Ids ms 0) (a : As) (par now : Int) (b : Nat) : (rowsOf (adT ms a par now b)).map mbL = (raR (rowsOf ms) a par now (frF ms 0).toNat).map mbL := by
  unfold adT raR
  rw [ra_ad hl h]
  by_cases he : adE ms a par = 0
  · rw [if_pos he, if_pos he]
    obtain ⟨_, i, hi, hf, hn⟩ := ad_ok hl he
    have e1 : (frF ms 0 - 1).toNat = i := by omega
    have e2 : (frF ms 0).toNat = i + 1 := by omega
    have hil : i < ms.length := by omega
    rw [e1, e2, rows_cut ms i hil]
    have t1 : ∀ m ∈ rowsOf (ms.take i), m.id < ((i + 1 : Nat) : Int) := fun m hm => by
      obtain ⟨j, hj⟩ := rows_mem hm
      rw [List.getElem?_take] at hj
      split at hj
      · have := h j m hj; simp at this; push_cast; omega
      · cases hj
    have t2 : ∀ m ∈ rowsOf (ms.drop (i + 1)), ((i + 1 : Nat) : Int) < m.id := fun m hm => by
      obtain ⟨j, hj⟩ := rows_mem hm
      rw [List.getElem?_drop] at hj
      have := h _ m hj
      push_cast at this ⊢
      omega
    have l1 := low_all ((i + 1 : Nat) : Int) _ t1
    have l2 := top_all ((i + 1 : Nat) : Int) _ t2
    have c1 : lowR (rowsOf ms) ((i + 1 : Nat) : Int) = rowsOf (ms.take i) := by
      rw [rows_here ms i hn]
      unfold lowR at *
      rw [List.filter_append, l1.1, l2.1, List.append_nil]
    have c2 : topR (rowsOf ms) ((i + 1 : Nat) : Int) = rowsOf (ms.drop (i + 1)) := by
      rw [rows_here ms i hn]
      unfold topR at *
      rw [List.filter_append, l1.2, l2.2, List.nil_append]
    rw [c1, c2]
    simp only [List.map_append, Option.toList_some]
    congr 1
    congr 1
    unfold adM raM mbL
    rw [hf]
    simp
  · rw [if_neg he, if_neg he]
end Go.Proofs.Ytnjdmkgkpdebdaa
