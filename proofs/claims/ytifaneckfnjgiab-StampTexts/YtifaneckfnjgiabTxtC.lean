/- The numbers of a date's text as a row that grows, in plain lists. -/
import Derived.Test.YtifaneckfnjgiabTxtB
namespace Tx
/-- how many fields have begun ahead of a place -/
def bg (k : Nat) : Nat := if k = 0 then 0 else fl (k - 1) + 1
/-- a field begins at a place -/
def isNew (k : Nat) : Bool := (k == 0) || (frm (k - 1) != 48)
theorem bg_le : ∀ k, k < 27 → bg k ≤ 7 := by decide
theorem bg_26 : bg 26 = 7 := by decide
theorem new_fl : ∀ k, k < 26 → frm k = 48 → isNew k = true → fl k = bg k := by decide
theorem new_bg : ∀ k, k < 26 → frm k = 48 → isNew k = true → bg (k + 1) = bg k + 1 := by decide
theorem old_fl : ∀ k, k < 26 → frm k = 48 → isNew k = false → fl k + 1 = bg k := by decide
theorem old_bg : ∀ k, k < 26 → frm k = 48 → isNew k = false → bg (k + 1) = bg k := by decide
theorem old_0 : ∀ k, k < 26 → isNew k = false → 1 ≤ k ∧ frm (k - 1) = 48 := by decide
theorem new_0 : ∀ k, k < 26 → isNew k = true → k = 0 ∨ (1 ≤ k ∧ frm (k - 1) ≠ 48) := by decide
theorem sep_bg : ∀ k, k < 26 → frm k ≠ 48 → bg (k + 1) = bg k := by decide
theorem bg_mono : ∀ k, k < 26 → bg k ≤ bg (k + 1) := by decide
theorem fl_bg : ∀ k, k < 26 → fl k < bg (k + 1) := by decide
theorem nv_zero (b : Nat → Int) (k : Nat) (hk : k ≤ 26) (j : Nat) (h : bg k ≤ j) : nv b k j = 0 := by
  induction k with
  | zero => rfl
  | succ k ih =>
    have h1 := bg_mono k (by omega)
    have h2 := fl_bg k (by omega)
    rw [show nv b (k + 1) j = nv b k j from by
      show (if _ then _ else _) = _
      rw [if_neg (fun x => by omega)]]
    exact ih (by omega) (by omega)
/-- the numbers so far -/
def vs {α : Type} (f : Int → α) (b : Nat → Int) (k : Nat) : List α := (List.range (bg k)).map fun j => f (nv b k j)
theorem vs_len {α : Type} (f : Int → α) (b : Nat → Int) (k : Nat) : (vs f b k).length = bg k := by simp [vs]
theorem vs_at {α : Type} (f : Int → α) (b : Nat → Int) (k j : Nat) (h : j < bg k) : (vs f b k)[j]? = some (f (nv b k j)) := by
  simp [vs, h]
theorem vs_sep {α : Type} (f : Int → α) (b : Nat → Int) (k : Nat) (hk : k < 26) (hf : frm k ≠ 48) : vs f b (k + 1) = vs f b k := by
  unfold vs
  rw [sep_bg k hk hf]
  exact List.map_congr_left fun j _ => by rw [nv_sep b k j hf]
theorem vs_new {α : Type} (f : Int → α) (b : Nat → Int) (k : Nat) (hk : k < 26) (hf : frm k = 48) (hn : isNew k = true) : vs f b (k + 1) = vs f b k ++ [f (b k - 48)] := by
  unfold vs
  rw [new_bg k hk hf hn, List.range_succ, List.map_append]
  have e1 : (List.range (bg k)).map (fun j => f (nv b (k + 1) j)) = (List.range (bg k)).map fun j => f (nv b k j) :=
    List.map_congr_left fun j hj => by
      have : j < bg k := by simpa using hj
      rw [nv_dig' b k j (by rw [new_fl k hk hf hn]; omega)]
  have e2 : nv b (k + 1) (bg k) = b k - 48 := by
    have h1 := nv_dig b k hf
    rw [new_fl k hk hf hn] at h1
    rw [h1, nv_zero b k (by omega) _ (Nat.le_refl _)]
    omega
  rw [e1]
  simp [e2]
theorem vs_old {α : Type} (f : Int → α) (b : Nat → Int) (k : Nat) (hk : k < 26) (hf : frm k = 48) (hn : isNew k = false) : vs f b (k + 1) = (vs f b k).set (fl k) (f (nv b k (fl k) * 10 + (b k - 48))) := by
  apply List.ext_getElem?
  intro j
  by_cases hj : j < bg k
  · rw [vs_at f b (k + 1) j (by rw [old_bg k hk hf hn]; exact hj)]
    by_cases e : j = fl k
    · subst e
      rw [List.getElem?_set_self (by rw [vs_len]; exact hj), nv_dig b k hf]
    · rw [List.getElem?_set_ne (fun x => e x.symm), vs_at f b k j hj, nv_dig' b k j e]
  · rw [List.getElem?_eq_none (by rw [vs_len, old_bg k hk hf hn]; omega), List.getElem?_eq_none (by rw [List.length_set, vs_len]; omega)]
/-- the form as the reference has it -/
def frd (k : Nat) : Nat := if frm k = 48 then 100 else frm k
end Tx
