/- The form of a date's text in plain numbers: which bytes are digits, of which field, and how many of the field's digits follow. -/
namespace Tx
def form : List Nat := [48, 48, 48, 48, 45, 48, 48, 45, 48, 48, 32, 48, 48, 58, 48, 48, 58, 48, 48, 46, 48, 48, 48, 48, 48, 48]
/-- the form's byte at a place -/
def frm (p : Nat) : Nat := form.getD p 0
/-- the field of a place: how many signs that are no digits stand ahead of it -/
def fl (p : Nat) : Nat := ((form.take p).filter (· ≠ 48)).length
/-- how many digits of a field stand from a place on -/
def cn (k j : Nat) : Nat := ((List.range 26).filter fun p => decide (k ≤ p) && (frm p == 48) && (fl p == j)).length
theorem frm_lt : ∀ k, k < 26 → frm k < 256 := by decide
theorem fl_le : ∀ k, k < 27 → fl k ≤ 6 := by decide
theorem fl_26 : fl 26 = 6 := by decide
theorem cn_26 : ∀ j, j < 7 → cn 26 j = 0 := by decide
theorem fl_dig : ∀ k, k < 26 → frm k = 48 → fl (k + 1) = fl k := by decide
theorem fl_sep : ∀ k, k < 26 → frm k ≠ 48 → fl (k + 1) = fl k + 1 := by decide
theorem cn_dig : ∀ k, k < 26 → frm k = 48 → cn k (fl k) = cn (k + 1) (fl k) + 1 := by decide
theorem cn_dig' : ∀ k, k < 26 → frm k = 48 → ∀ j, j < 7 → j ≠ fl k → cn k j = cn (k + 1) j := by decide
theorem cn_sep : ∀ k, k < 26 → frm k ≠ 48 → ∀ j, j < 7 → cn k j = cn (k + 1) j := by decide
/-- a number without its last digits -/
def dv (x : Int) : Nat → Int
  | 0 => x
  | c + 1 => dv x c / 10
theorem dv_bd (x : Int) (h : 0 ≤ x) (c : Nat) : 0 ≤ dv x c ∧ dv x c ≤ x := by
  induction c with
  | zero => exact ⟨h, Int.le_refl _⟩
  | succ c ih => unfold dv; omega
/-- the byte that is written at a place -/
def fin (a : Nat → Int) (p : Nat) : Int := if frm p = 48 then 48 + dv (a (fl p)) (cn (p + 1) (fl p)) % 10 else frm p
/-- the text when the places from k on are done -/
def tx (a : Nat → Int) (k p : Nat) : Int := if k ≤ p then fin a p else frm p
theorem tx_at (a : Nat → Int) (k : Nat) : tx a (k + 1) k = frm k := by unfold tx; rw [if_neg (by omega)]
theorem tx_ne (a : Nat → Int) (k p : Nat) (h : p ≠ k) : tx a k p = tx a (k + 1) p := by
  unfold tx
  by_cases c : k ≤ p
  · rw [if_pos c, if_pos (by omega)]
  · rw [if_neg c, if_neg (by omega)]
theorem tx_sep (a : Nat → Int) (k p : Nat) (h : frm k ≠ 48) : tx a k p = tx a (k + 1) p := by
  by_cases e : p = k
  · subst e; unfold tx; rw [if_pos (Nat.le_refl _), if_neg (by omega)]; unfold fin; rw [if_neg h]
  · exact tx_ne a k p e
theorem tx_dig (a : Nat → Int) (k : Nat) (h : frm k = 48) : tx a k k = 48 + dv (a (fl k)) (cn (k + 1) (fl k)) % 10 := by
  unfold tx; rw [if_pos (Nat.le_refl _)]; unfold fin; rw [if_pos h]
theorem tx_26 (a : Nat → Int) (p : Nat) (h : p < 26) : tx a 26 p = frm p := by unfold tx; rw [if_neg (by omega)]
theorem tx_0 (a : Nat → Int) (p : Nat) : tx a 0 p = fin a p := by unfold tx; rw [if_pos (Nat.zero_le _)]
theorem fin_bd (a : Nat → Int) (p : Nat) (h : p < 26) : 0 ≤ fin a p ∧ fin a p < 256 := by
  have := frm_lt p h
  unfold fin
  split <;> omega
/-- the bytes of a date's text -/
def txt (a : Nat → Int) : List UInt8 := (List.range 26).map fun p => UInt8.ofNat (fin a p).toNat
theorem txt_len (a : Nat → Int) : (txt a).length = 26 := by simp [txt]
theorem txt_at (a : Nat → Int) (p : Nat) (h : p < (txt a).length) : ((txt a)[p].toNat : Int) = fin a p := by
  have h' : p < 26 := by simpa [txt] using h
  obtain ⟨h1, h2⟩ := fin_bd a p h'
  simp [txt]
  omega
/-- a byte that may stand at a place -/
def okB (b : Nat → Int) (p : Nat) : Bool := if frm p = 48 then decide (48 ≤ b p ∧ b p ≤ 57) else decide (b p = frm p)
/-- all bytes ahead of a place may stand there -/
def Ok (b : Nat → Int) (k : Nat) : Prop := ∀ p, p < k → okB b p = true
theorem Ok.step {b : Nat → Int} {k : Nat} (h : Ok b k) (hk : okB b k = true) : Ok b (k + 1) := fun p hp => by
  by_cases e : p = k
  · subst e; exact hk
  · exact h p (by omega)
theorem ok_dig {b : Nat → Int} {k : Nat} (h : frm k = 48) : okB b k = decide (48 ≤ b k ∧ b k ≤ 57) := by unfold okB; rw [if_pos h]
theorem ok_sep {b : Nat → Int} {k : Nat} (h : frm k ≠ 48) : okB b k = decide (b k = frm k) := by unfold okB; rw [if_neg h]
/-- the number of a field, as far as its digits ahead of a place say -/
def nv (b : Nat → Int) : Nat → Nat → Int
  | 0, _ => 0
  | k + 1, j => if frm k = 48 ∧ fl k = j then nv b k j * 10 + (b k - 48) else nv b k j
theorem nv_dig (b : Nat → Int) (k : Nat) (h : frm k = 48) : nv b (k + 1) (fl k) = nv b k (fl k) * 10 + (b k - 48) := by
  show (if _ then _ else _) = _
  rw [if_pos ⟨h, rfl⟩]
theorem nv_dig' (b : Nat → Int) (k j : Nat) (h : j ≠ fl k) : nv b (k + 1) j = nv b k j := by
  show (if _ then _ else _) = _
  rw [if_neg (fun x => h x.2.symm)]
theorem nv_sep (b : Nat → Int) (k j : Nat) (h : frm k ≠ 48) : nv b (k + 1) j = nv b k j := by
  show (if _ then _ else _) = _
  rw [if_neg (fun x => h x.1)]
/-- how many digits of a field stand ahead of a place -/
def dc (k j : Nat) : Nat := ((List.range k).filter fun p => (frm p == 48) && (fl p == j)).length
theorem dc_le : ∀ k, k < 27 → ∀ j, j < 7 → dc k j ≤ 6 := by decide
theorem dc_room : ∀ k, k < 26 → frm k = 48 → dc k (fl k) ≤ 5 := by decide
theorem dc_succ (k j : Nat) : dc (k + 1) j = dc k j + if frm k = 48 ∧ fl k = j then 1 else 0 := by
  unfold dc
  rw [List.range_succ, List.filter_append, List.length_append]
  congr 1
  by_cases h : frm k = 48 ∧ fl k = j
  · rw [if_pos h]; simp [h.1, h.2]
  · rw [if_neg h]
    have : ((frm k == 48) && (fl k == j)) = false := by
      rw [Bool.eq_false_iff]; intro x; apply h; simpa using x
    simp only [List.filter_cons, this, Bool.false_eq_true, if_false, List.filter_nil, List.length_nil]
theorem nv_bd {b : Nat → Int} {k : Nat} (h : Ok b k) (j : Nat) : 0 ≤ nv b k j ∧ nv b k j + 1 ≤ (10 : Int) ^ dc k j := by
  induction k with
  | zero => exact ⟨Int.le_refl _, by simp [nv, dc]⟩
  | succ k ih =>
    have i := ih (fun p hp => h p (by omega))
    have o := h k (by omega)
    rw [dc_succ]
    by_cases c : frm k = 48 ∧ fl k = j
    · rw [ok_dig c.1] at o
      have o' : 48 ≤ b k ∧ b k ≤ 57 := by simpa using o
      rw [if_pos c, ← c.2, nv_dig b k c.1, Int.pow_succ, c.2]
      generalize (10 : Int) ^ dc k j = P at *
      omega
    · have e : nv b (k + 1) j = nv b k j := by show (if _ then _ else _) = _; rw [if_neg c]
      rw [if_neg c, e]
      simpa using i
theorem pow_le (c : Nat) (h : c ≤ 6) : (10 : Int) ^ c ≤ 1000000 := by
  rcases c with _ | _ | _ | _ | _ | _ | _ | c
  all_goals first | decide | omega
theorem pow_le5 (c : Nat) (h : c ≤ 5) : (10 : Int) ^ c ≤ 100000 := by
  rcases c with _ | _ | _ | _ | _ | _ | c
  all_goals first | decide | omega
theorem nv_lt {b : Nat → Int} {k : Nat} (h : Ok b k) (hk : k ≤ 26) (j : Nat) (hj : j < 7) : 0 ≤ nv b k j ∧ nv b k j ≤ 999999 := by
  have i := nv_bd h j
  have := pow_le _ (dc_le k (by omega) j hj)
  omega
/-- the byte of a string at a place -/
def bt (s : ByteArray) (p : Nat) : Int := ((s.data.getD p 0).toNat : Int)
theorem bt_at (s : ByteArray) (p : Nat) (h : p < s.size) : ((s[p]'h).toNat : Int) = bt s p := by
  unfold bt
  simp [Array.getD, h]
  rfl
theorem bt_bd (s : ByteArray) (p : Nat) : 0 ≤ bt s p ∧ bt s p ≤ 255 := by
  unfold bt
  have := (s.data.getD p 0).toNat_lt
  omega
end Tx
