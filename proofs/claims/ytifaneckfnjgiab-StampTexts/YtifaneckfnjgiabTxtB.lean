/- A date's text read back and written again, in plain numbers. -/
import Derived.Test.YtifaneckfnjgiabTxt
namespace Tx
theorem fl_lt (p : Nat) (h : p < 26) : fl p < 7 := by have := fl_le p (by omega); omega
/-- what the text of some numbers says is the numbers -/
theorem fin_ok (a : Nat → Int) (k : Nat) : Ok (fin a) k := fun p _ => by
  by_cases h : frm p = 48
  · rw [ok_dig h]
    unfold fin
    rw [if_pos h]
    simp
    omega
  · rw [ok_sep h]
    unfold fin
    rw [if_neg h]
    simp
theorem nv_fin (a : Nat → Int) (h0 : ∀ j, j < 7 → dv (a j) (cn 0 j) = 0) (k : Nat) (hk : k ≤ 26) (j : Nat) (hj : j < 7) : nv (fin a) k j = dv (a j) (cn k j) := by
  induction k with
  | zero => rw [h0 j hj]; rfl
  | succ k ih =>
    have i := ih (by omega)
    by_cases hf : frm k = 48
    · by_cases hj' : j = fl k
      · subst hj'
        rw [nv_dig _ k hf, i, cn_dig k (by omega) hf]
        unfold fin
        rw [if_pos hf]
        show dv _ _ / 10 * 10 + (48 + _ % 10 - 48) = _
        omega
      · rw [nv_dig' _ k j hj', i, cn_dig' k (by omega) hf j hj hj']
    · rw [nv_sep _ k j hf, i, cn_sep k (by omega) hf j hj]
theorem nv_txt (a : Nat → Int) (h0 : ∀ j, j < 7 → dv (a j) (cn 0 j) = 0) (j : Nat) (hj : j < 7) : nv (fin a) 26 j = a j := by
  rw [nv_fin a h0 26 (Nat.le_refl _) j hj, cn_26 j hj]; rfl
/-- what some text says is written as the text -/
theorem dv_nv (b : Nat → Int) (h : Ok b 26) (j : Nat) (hj : j < 7) (i k : Nat) (hk : k + i = 26) : dv (nv b 26 j) (cn k j) = nv b k j := by
  induction i generalizing k with
  | zero =>
    obtain rfl : k = 26 := by omega
    rw [cn_26 j hj]; rfl
  | succ i ih =>
    have e := ih (k + 1) (by omega)
    have hk' : k < 26 := by omega
    by_cases hf : frm k = 48
    · by_cases hj' : j = fl k
      · subst hj'
        have o := h k hk'
        rw [ok_dig hf] at o
        have o' : 48 ≤ b k ∧ b k ≤ 57 := by simpa using o
        rw [cn_dig k hk' hf]
        show dv _ _ / 10 = _
        rw [e, nv_dig b k hf]
        omega
      · rw [cn_dig' k hk' hf j hj hj', e, nv_dig' b k j hj']
    · rw [cn_sep k hk' hf j hj, e, nv_sep b k j hf]
theorem fin_nv (b : Nat → Int) (h : Ok b 26) (p : Nat) (hp : p < 26) : fin (nv b 26) p = b p := by
  have o := h p hp
  unfold fin
  by_cases hf : frm p = 48
  · rw [if_pos hf, dv_nv b h (fl p) (fl_lt p hp) (25 - p) (p + 1) (by omega), nv_dig b p hf]
    rw [ok_dig hf] at o
    have o' : 48 ≤ b p ∧ b p ≤ 57 := by simpa using o
    omega
  · rw [if_neg hf]
    rw [ok_sep hf] at o
    have o' : b p = frm p := by simpa using o
    rw [o']
theorem fin_congr {a c : Nat → Int} (h : ∀ j, j < 7 → a j = c j) (p : Nat) (hp : p < 26) : fin a p = fin c p := by
  unfold fin; rw [h (fl p) (fl_lt p hp)]
theorem nv_congr {b c : Nat → Int} (k : Nat) (h : ∀ p, p < k → b p = c p) (j : Nat) : nv b k j = nv c k j := by
  induction k with
  | zero => rfl
  | succ k ih =>
    have i := ih fun p hp => h p (by omega)
    show (if _ then _ else _) = (if _ then _ else _)
    rw [i, h k (by omega)]
theorem bt_txt (a : Nat → Int) (p : Nat) (hp : p < 26) : bt ⟨(txt a).toArray⟩ p = fin a p := by
  have h := txt_at a p (by rw [txt_len]; exact hp)
  unfold bt
  rw [← h]
  simp [Array.getD, txt_len, hp]
theorem ok_congr {b c : Nat → Int} {k : Nat} (h : ∀ p, p < k → b p = c p) (o : Ok c k) : Ok b k := fun p hp => by
  have := o p hp
  unfold okB at *
  rw [h p hp]; exact this
/-- the text of what a text says is the text -/
theorem txt_back (s : ByteArray) (h26 : s.size = 26) (h : Ok (bt s) 26) (a : Nat → Int) (ha : ∀ j, j < 7 → a j = nv (bt s) 26 j) : (⟨(txt a).toArray⟩ : ByteArray) = s := by
  obtain ⟨d⟩ := s
  have hd : d.size = 26 := h26
  congr 1
  apply Array.ext
  · simp [txt_len, hd]
  · intro i h1 h2
    have hi : i < 26 := by omega
    have e1 := fin_congr ha i hi
    have e2 := fin_nv (bt ⟨d⟩) h i hi
    have e3 : bt ⟨d⟩ i = (d[i].toNat : Int) := by unfold bt; simp [Array.getD, h2]
    simp only [txt, List.getElem_toArray, List.getElem_map, List.getElem_range]
    rw [e1, e2, e3]
    simp
end Tx
