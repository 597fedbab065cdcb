/- Plain numbers: digits of 16 bits, the lowest first, and the number that they are (no run of the model in this text). -/
namespace Bg
def val : List Nat → Nat
  | [] => 0
  | d :: r => d + 65536 * val r
def dok (l : List Nat) : Prop := ∀ d ∈ l, d < 65536
/-- digits without noughts at the front -/
def can (l : List Nat) : Prop := dok l ∧ (l.length = 0 ∨ l.getD (l.length - 1) 0 ≠ 0)
theorem getD_at (a : List Nat) (k : Nat) (h : k < a.length) : a.getD k 0 = a[k] := by
  rw [List.getD_eq_getElem?_getD, List.getElem?_eq_getElem h]; rfl
theorem val_append (a b : List Nat) : val (a ++ b) = val a + 65536 ^ a.length * val b := by
  induction a with
  | nil => simp [val]
  | cons d r ih =>
    rw [List.cons_append, val, val, ih, List.length_cons, Nat.pow_succ, Nat.mul_add, Nat.mul_comm (65536 ^ r.length) 65536, Nat.mul_assoc]
    omega
theorem val_snoc (a : List Nat) (d : Nat) : val (a ++ [d]) = val a + 65536 ^ a.length * d := by
  rw [val_append]; simp [val]
theorem val_lt (a : List Nat) (h : dok a) : val a < 65536 ^ a.length := by
  induction a with
  | nil => simp [val]
  | cons d r ih =>
    have h1 := h d (by simp)
    have h2 := ih fun x hx => h x (by simp [hx])
    rw [val, List.length_cons, Nat.pow_succ]
    omega
theorem take_succ (a : List Nat) (k : Nat) (h : k < a.length) : a.take (k + 1) = a.take k ++ [a.getD k 0] := by
  rw [List.take_succ_eq_append_getElem h, getD_at _ _ h]
theorem val_take_succ (a : List Nat) (k : Nat) (h : k < a.length) : val (a.take (k + 1)) = val (a.take k) + 65536 ^ k * a.getD k 0 := by
  rw [take_succ a k h, val_snoc, List.length_take, Nat.min_eq_left (by omega)]
theorem val_split (a : List Nat) (k : Nat) (h : k ≤ a.length) : val a = val (a.take k) + 65536 ^ k * val (a.drop k) := by
  have := val_append (a.take k) (a.drop k)
  rw [List.take_append_drop, List.length_take, Nat.min_eq_left h] at this
  exact this
theorem val_take_all (a : List Nat) (k : Nat) (h : a.length ≤ k) : val (a.take k) = val a := by rw [List.take_of_length_le h]
theorem dok_take {a : List Nat} (h : dok a) (k : Nat) : dok (a.take k) := fun d hd => h d (List.mem_of_mem_take hd)
theorem dok_drop {a : List Nat} (h : dok a) (k : Nat) : dok (a.drop k) := fun d hd => h d (List.mem_of_mem_drop hd)
theorem dok_getD {a : List Nat} (h : dok a) (k : Nat) : a.getD k 0 < 65536 := by
  by_cases hk : k < a.length
  · rw [getD_at _ _ hk]; exact h _ (List.getElem_mem hk)
  · rw [List.getD_eq_getElem?_getD, List.getElem?_eq_none (by omega)]; simp
theorem dok_snoc {a : List Nat} (h : dok a) {d : Nat} (hd : d < 65536) : dok (a ++ [d]) := by
  intro x hx
  simp at hx
  rcases hx with hx | hx
  · exact h x hx
  · omega
theorem dok_nil : dok [] := fun d hd => by simp at hd
theorem can_nil : can [] := ⟨dok_nil, Or.inl rfl⟩
/-- the front digit tells the size -/
theorem can_ge {a : List Nat} (h : can a) (hp : 0 < a.length) : 65536 ^ (a.length - 1) ≤ val a := by
  have h1 : a.getD (a.length - 1) 0 ≠ 0 := by rcases h.2 with h2 | h2 <;> omega
  have h2 := val_take_succ a (a.length - 1) (by omega)
  rw [show a.length - 1 + 1 = a.length from by omega, List.take_length] at h2
  have h3 := Nat.mul_le_mul_left (65536 ^ (a.length - 1)) (show 1 ≤ a.getD (a.length - 1) 0 by omega)
  omega
theorem can_len {a : List Nat} (h : can a) (k : Nat) (hv : val a < 65536 ^ k) : a.length ≤ k := by
  refine Nat.le_of_not_lt fun x => ?_
  have h1 := can_ge h (by omega)
  have h2 : 65536 ^ k ≤ 65536 ^ (a.length - 1) := Nat.pow_le_pow_right (by decide) (by omega)
  omega
/-- fewer digits: less -/
theorem cmp_len {a b : List Nat} (ha : dok a) (hb : can b) (h : a.length < b.length) : val a < val b := by
  have h1 := val_lt a ha
  have h2 := can_ge hb (by omega)
  have h3 : 65536 ^ a.length ≤ 65536 ^ (b.length - 1) := Nat.pow_le_pow_right (by decide) (by omega)
  omega
theorem drop_at (a : List Nat) (k : Nat) (h : k < a.length) : a.drop k = a.getD k 0 :: a.drop (k + 1) := by
  rw [List.drop_eq_getElem_cons h, getD_at _ _ h]
/-- as many digits, the same from a place on, and less at it: less -/
theorem cmp_at {a b : List Nat} (ha : dok a) (k : Nat) (hk : k < a.length) (hl : a.length = b.length) (he : val (a.drop (k + 1)) = val (b.drop (k + 1))) (hd : a.getD k 0 < b.getD k 0) : val a < val b := by
  rw [val_split a k (by omega), val_split b k (by omega), drop_at a k hk, drop_at b k (by omega), val, val, he]
  have h1 := val_lt (a.take k) (dok_take ha k)
  rw [List.length_take, Nat.min_eq_left (by omega)] at h1
  have h2 := Nat.mul_le_mul_left (65536 ^ k) (show a.getD k 0 + 65536 * val (b.drop (k + 1)) + 1 ≤ b.getD k 0 + 65536 * val (b.drop (k + 1)) by omega)
  rw [Nat.mul_add] at h2
  omega
theorem drop_same {a b : List Nat} (k : Nat) (hk : k < a.length) (hl : a.length = b.length) (he : val (a.drop (k + 1)) = val (b.drop (k + 1))) (hd : a.getD k 0 = b.getD k 0) : val (a.drop k) = val (b.drop k) := by
  rw [drop_at a k hk, drop_at b k (by omega), val, val, he, hd]
/-- noughts at the front change nothing -/
theorem trimmed (a : List Nat) (m : Nat) (h : dok a) (hm : m ≤ a.length) (hz : val (a.drop m) = 0) (hn : m = 0 ∨ a.getD (m - 1) 0 ≠ 0) : can (a.take m) ∧ val (a.take m) = val a := by
  have hl : (a.take m).length = m := by rw [List.length_take]; omega
  refine ⟨⟨dok_take h m, ?_⟩, ?_⟩
  · rw [hl]
    rcases hn with hn | hn
    · exact Or.inl hn
    · by_cases h0 : m = 0
      · exact Or.inl h0
      · right
        rw [getD_at _ _ (by rw [hl]; omega), List.getElem_take, ← getD_at _ _ (by omega)]
        exact hn
  · rw [val_split a m hm, hz]; omega
theorem drop_zero (a : List Nat) (k : Nat) (hk : k < a.length) (h : val (a.drop (k + 1)) = 0) (hd : a.getD k 0 = 0) : val (a.drop k) = 0 := by
  rw [drop_at a k hk, val, h, hd]
theorem val_cmp_zero (a : List Nat) : val (a.drop a.length) = 0 := by rw [List.drop_length]; rfl
end Bg
