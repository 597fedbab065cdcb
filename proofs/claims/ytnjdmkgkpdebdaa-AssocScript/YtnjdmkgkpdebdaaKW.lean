/- assoc: what stays, in lists. -/
import Derived.Test.YtnjdmkgkpdebdaaKU
namespace Go.Proofs.Ytnjdmkgkpdebdaa
open Go Go.RowKit Go.Sort
set_option linter.unusedVariables false
/-- those that are configured stand, no two are alike -/
structure Bp (xs : List As) (ms : List (Option Mb)) : Prop where
  conf : ∀ (i : Nat) a, xs[i]? = some a → ∃ m, ms[i]? = some (some m) ∧ m.ac = a ∧ m.par = 0 ∧ m.ends = 0
  apart : ∀ (i j : Nat) m n, ms[i]? = some (some m) → ms[j]? = some (some n) → i ≠ j → clB m.ac n.ac = false
theorem cl_symm (a b : As) : clB a b = clB b a := by
  unfold clB
  rw [Bool.eq_iff_iff]
  simp only [Bool.and_eq_true, decide_eq_true_eq, beq_iff_eq]
  constructor
  · rintro ⟨h1, h2⟩; exact ⟨h1.symm, h2.symm⟩
  · rintro ⟨h1, h2⟩; exact ⟨h1.symm, h2.symm⟩
theorem dup_apart : ∀ (xs seen : List As), dupB seen xs = false → ∀ (j : Nat) a, xs[j]? = some a → (∀ b ∈ seen, clB b a = false) ∧ ∀ (i : Nat) b, i < j → xs[i]? = some b → clB b a = false
  | [], seen, _, j, a, hj => by simp at hj
  | x :: t, seen, h, j, a, hj => by
    rw [dupB] at h
    split at h
    · cases h
    · rename_i hs
      have hs : ∀ b ∈ seen, clB b x = false := fun b hb => by
        cases hc : clB b x with
        | false => rfl
        | true => exact absurd (List.any_eq_true.2 ⟨b, hb, hc⟩) hs
      cases j with
      | zero =>
        simp at hj
        subst hj
        exact ⟨hs, fun i b hi => by omega⟩
      | succ j =>
        obtain ⟨h1, h2⟩ := dup_apart t (seen ++ [x]) h j a (by simpa using hj)
        refine ⟨fun b hb => h1 b (by simp [hb]), fun i b hi hb => ?_⟩
        cases i with
        | zero => simp at hb; subst hb; exact h1 x (by simp)
        | succ i => exact h2 i b (by omega) (by simpa using hb)
theorem Bp.start {xs : List As} (h : nwE xs = 0) (bs : Nat → Nat) : Bp xs (tbL xs bs) := by
  unfold nwE at h
  split at h
  · cases h
  · rename_i hl
    split at h
    · cases h
    · rename_i hd
      have hd : dupB [] xs = false := by simpa using hd
      refine ⟨fun i a ha => ?_, fun i j m n hi hj hne => ?_⟩
      · have hi : i < 16 := by
          rcases Nat.lt_or_ge i xs.length with h | h
          · omega
          · rw [List.getElem?_eq_none h] at ha; cases ha
        exact ⟨⟨bs i, (i : Int) + 1, a, 0, 0, 0⟩, by rw [tb_at xs bs i hi, ha]; rfl, rfl, rfl, rfl⟩
      · obtain ⟨_, a, ha, rfl⟩ := tb_some hi
        obtain ⟨_, b, hb, rfl⟩ := tb_some hj
        rcases Nat.lt_or_ge i j with h | h
        · exact (dup_apart xs [] hd j b hb).2 i a h ha
        · rw [cl_symm]
          exact (dup_apart xs [] hd i a ha).2 j b (by omega) hb
theorem kn_no {ms : List (Option Mb)} {a : As} (hid : ∀ (i : Nat) m, ms[i]? = some (some m) → m.id = (i : Int) + 1) (h : knB ms a = false) : ∀ (i : Nat) m, ms[i]? = some (some m) → clB m.ac a = false := fun i m hm => by
  cases hc : clB m.ac a with
  | false => rfl
  | true =>
    have : fsF (nkP a.addr (decide (a.kind = 6))) ms ≠ 0 := (fsF_ne _ ms (fun n hn => by
      obtain ⟨j, hj⟩ := List.getElem?_of_mem hn
      have := hid j n hj
      omega)).2 ⟨m, List.mem_of_getElem? hm, by rw [nk_cl]; exact hc⟩
    unfold knB at h
    rw [decide_eq_true this] at h
    cases h
theorem ad_ok {ms : List (Option Mb)} {a : As} {p : Int} (hl : ms.length = 16) (h : adE ms a p = 0) : knB ms a = false ∧ ∃ i : Nat, i < 16 ∧ frF ms 0 = (i : Int) + 1 ∧ ms[i]? = some none := by
  unfold adE at h
  split at h
  · cases h
  · split at h
    · cases h
    · rename_i hk
      split at h
      · cases h
      · rename_i hf
        refine ⟨by simpa using hk, ?_⟩
        rcases frF_spec ms 0 with ⟨h1, _⟩ | ⟨i, h1, h2, _⟩
        · exact absurd h1 hf
        · refine ⟨i, ?_, by rw [h1]; omega, h2⟩
          rcases Nat.lt_or_ge i 16 with h' | h'
          · exact h'
          · rw [List.getElem?_eq_none (by omega)] at h2; cases h2
theorem Bp.ad {xs : List As} {ms : List (Option Mb)} (h : Bp xs ms) (hl : ms.length = 16) (hid : ∀ (i : Nat) m, ms[i]? = some (some m) → m.id = (i : Int) + 1) (a : As) (p now : Int) (b : Nat) : Bp xs (adT ms a p now b) := by
  unfold adT
  split
  · rename_i he
    obtain ⟨hk, i, hi, hf, hn⟩ := ad_ok hl he
    have e : (frF ms 0 - 1).toNat = i := by omega
    rw [e]
    have hno := kn_no hid hk
    have hlt : i < ms.length := by omega
    refine ⟨fun j c hc => ?_, fun j l m n hj hl' hne => ?_⟩
    · obtain ⟨m, h1, h2⟩ := h.conf j c hc
      refine ⟨m, ?_, h2⟩
      rw [List.getElem?_set, if_neg]
      · exact h1
      · rintro rfl; rw [hn] at h1; cases h1
    · rw [List.getElem?_set] at hj hl'
      split at hj
      · rename_i e1
        rw [if_neg (by omega)] at hl'
        injection hj with hj
        injection hj with hj
        subst hj
        rw [cl_symm]
        exact hno l n hl'
      · split at hl'
        · injection hl' with hl'
          injection hl' with hl'
          subst hl'
          exact hno j m hj
        · exact h.apart j l m n hj hl' hne
  · exact h
theorem Bp.mo {xs : List As} {ms : List (Option Mb)} (h : Bp xs ms) (hl : ms.length = 16) (hid : ∀ (i : Nat) m, ms[i]? = some (some m) → m.id = (i : Int) + 1) (act par poll key frm now : Int) (b : Nat) : Bp xs (moT ms act par poll key frm now b) := by
  unfold moT
  split
  · exact h
  · exact h.ad hl hid _ _ _ _
theorem Bp.ex {xs : List As} {T T' : List (Option Mb)} (h : Bp xs T) {now : Int} (hs : SpS T (exS T now) T') : Bp xs T' := by
  have hh : ∀ (i : Nat) m, T'[i]? = some (some m) → T[i]? = some (some m) := fun i m hm => at0_some.1 (hs.same i m (at0_some.2 hm))
  refine ⟨fun i a ha => ?_, fun i j m n hi hj hne => h.apart i j m n (hh i m hi) (hh j n hj) hne⟩
  obtain ⟨m, h1, h2, h3, h4⟩ := h.conf i a ha
  refine ⟨m, ?_, h2, h3, h4⟩
  have h0 := at0_some.2 h1
  rcases hs.sub i with e | e
  · rw [h0] at e; exact at0_some.1 e
  · have r := hs.snd i m h0 e
    exfalso
    rcases r.by_last with ⟨m', k1, k2⟩ | ⟨j, m', k1, k2, _⟩
    · obtain ⟨m2, k3, k4, _⟩ := k2
      rw [h0] at k3
      injection k3 with k3
      subst k3
      exact k4 h4
    · rw [h0] at k1
      injection k1 with k1
      subst k1
      omega
theorem rows_cnt : ∀ ms : List (Option Mb), (rowsOf ms).length = cnt ms
  | [] => rfl
  | none :: t => by have := rows_cnt t; simpa [rowsOf, cnt] using this
  | some m :: t => by have := rows_cnt t; simp [rowsOf, cnt] at this ⊢; exact this
theorem cnt_new : ∀ (T : List (Option Mb)) (i : Nat) (m : Mb), T[i]? = some none → cnt (T.set i (some m)) = cnt T + 1
  | [], i, m, h => by simp at h
  | x :: t, 0, m, h => by simp at h; subst h; simp [cnt]
  | x :: t, i + 1, m, h => by
    have := cnt_new t i m (by simpa using h)
    cases x <;> simp [cnt] <;> omega
theorem gn_cnt : ∀ (T U : List (Option Mb)) (k : Nat), U.length = T.length → (∀ i, at0 U i = at0 T i ∨ at0 U i = none) → (gnF T U k).length + cnt U = cnt T
  | [], [], _, _, _ => rfl
  | [], _ :: _, _, h, _ => by simp at h
  | _ :: _, [], _, h, _ => by simp at h
  | x :: t, y :: u, k, h, hs => by
    have := gn_cnt t u (k + 1) (by simpa using h) (fun i => by simpa [at0] using hs (i + 1))
    have h0 := hs 0
    simp [at0] at h0
    cases x <;> cases y <;> simp [cnt, gnF] at h0 ⊢ <;> omega
theorem rows_rise : ∀ (ms : List (Option Mb)) (k : Nat), (∀ (i : Nat) m, ms[i]? = some (some m) → m.id = (k : Int) + i + 1) → (rowsOf ms).Pairwise (fun m n => m.id < n.id) ∧ ∀ m ∈ rowsOf ms, (k : Int) + 1 ≤ m.id
  | [], k, _ => ⟨List.Pairwise.nil, fun m hm => by cases hm⟩
  | none :: t, k, h => by
    obtain ⟨h1, h2⟩ := rows_rise t (k + 1) (fun i m hm => by have := h (i + 1) m (by simpa using hm); push_cast at this ⊢; omega)
    refine ⟨h1, fun m hm => ?_⟩
    have := h2 m hm
    push_cast at this
    omega
  | some n :: t, k, h => by
    obtain ⟨h1, h2⟩ := rows_rise t (k + 1) (fun i m hm => by have := h (i + 1) m (by simpa using hm); push_cast at this ⊢; omega)
    have hn : n.id = (k : Int) + 1 := by have := h 0 n rfl; simpa using this
    have e : rowsOf (some n :: t) = n :: rowsOf t := rfl
    rw [e]
    refine ⟨List.pairwise_cons.2 ⟨fun m hm => ?_, h1⟩, fun m hm => ?_⟩
    · have := h2 m hm
      push_cast at this
      omega
    · rcases List.mem_cons.1 hm with rfl | hm
      · omega
      · have := h2 m hm
        push_cast at this
        omega
theorem rows_mem {ms : List (Option Mb)} {m : Mb} (h : m ∈ rowsOf ms) : ∃ i : Nat, ms[i]? = some (some m) := by
  unfold rowsOf at h
  obtain ⟨x, hx, e⟩ := List.mem_filterMap.1 h
  subst e
  exact List.getElem?_of_mem hx
/-- what a list of the table says -/
theorem rows_say {xs : List As} {ms : List (Option Mb)} (h : Bp xs ms) (hl : ms.length = 16) (hid : ∀ (i : Nat) m, ms[i]? = some (some m) → m.id = (i : Int) + 1) (i : Nat) (m : Mb) (hm : (rowsOf ms)[i]? = some m) :
    1 ≤ m.id ∧ m.id ≤ 16 ∧ (∀ (j : Nat) n, j < i → (rowsOf ms)[j]? = some n → n.id < m.id ∧ clB m.ac n.ac = false) := by
  obtain ⟨a, ha⟩ := rows_mem (List.mem_of_getElem? hm)
  have ia := hid a m ha
  have la : a < 16 := by
    rcases Nat.lt_or_ge a 16 with h | h
    · exact h
    · rw [List.getElem?_eq_none (by omega)] at ha; cases ha
  refine ⟨by omega, by omega, fun j n hj hn => ?_⟩
  have hr := (rows_rise ms 0 (fun i m hm => by have := hid i m hm; simpa using this)).1
  have hil : i < (rowsOf ms).length := by
    rcases Nat.lt_or_ge i (rowsOf ms).length with h | h
    · exact h
    · rw [List.getElem?_eq_none h] at hm; cases hm
  have hjl : j < (rowsOf ms).length := by omega
  have hlt := List.pairwise_iff_getElem.1 hr j i hjl hil hj
  rw [List.getElem?_eq_getElem hil] at hm
  rw [List.getElem?_eq_getElem hjl] at hn
  rw [Option.some.inj hm, Option.some.inj hn] at hlt
  refine ⟨hlt, ?_⟩
  have hn2 : n ∈ rowsOf ms := by rw [← Option.some.inj hn]; exact List.getElem_mem hjl
  obtain ⟨b, hb⟩ := rows_mem hn2
  have ib := hid b n hb
  exact h.apart a b m n ha hb (by omega)
end Go.Proofs.Ytnjdmkgkpdebdaa
