/- Sums, digits and fields of sentences, in lists of bytes. -/
import Derived.Test.YthoilihokbakoaaDoorDAp
import Derived.Lib.CountLaws
namespace Go.Proofs.YthoilihokbakoaaDoor
/-- a digit to the base sixteen; -1: none -/
def hx (c : UInt8) : Int := if 48 ≤ c.toNat ∧ c.toNat ≤ 57 then (c.toNat : Int) - 48 else if 65 ≤ c.toNat ∧ c.toNat ≤ 70 then (c.toNat : Int) - 55 else -1
theorem hx_bd (c : UInt8) : -1 ≤ hx c ∧ hx c ≤ 15 := by
  have := c.toNat_lt
  unfold hx
  split
  · omega
  · split <;> omega
theorem hx_inj {a b : UInt8} (ha : 0 ≤ hx a) (h : hx a = hx b) : a = b := by
  have h1 : a.toNat = b.toNat := by
    unfold hx at ha h
    split at ha
    · rename_i h2
      rw [if_pos h2] at h
      split at h
      · omega
      · split at h <;> omega
    · split at ha
      · rename_i h2 h3
        rw [if_neg h2, if_pos h3] at h
        split at h
        · omega
        · split at h <;> omega
      · omega
  exact UInt8.toNat_inj.1 h1
def hexL : List UInt8 := [48, 49, 50, 51, 52, 53, 54, 55, 56, 57, 65, 66, 67, 68, 69, 70]
set_option maxRecDepth 20000 in
theorem index_hx' : ∀ n, n < 256 → Lib.indexByte hexL (UInt8.ofNat n) = hx (UInt8.ofNat n) := by decide +kernel
theorem index_hx (c : UInt8) : Lib.indexByte hexL c = hx c := by
  have h := index_hx' c.toNat c.toNat_lt
  rwa [UInt8.ofNat_toNat] at h
theorem u8_back (c : UInt8) : ((c.toNat : Int)).toNat.toUInt8 = c := by
  rw [Int.toNat_natCast]
  exact UInt8.ofNat_toNat
/-- all bytes, by exclusive or -/
def xs (l : List UInt8) : Nat := l.foldl (fun n c => n ^^^ c.toNat) 0
theorem xs_nil : xs [] = 0 := rfl
theorem xs_snoc (l : List UInt8) (c : UInt8) : xs (l ++ [c]) = xs l ^^^ c.toNat := by unfold xs; rw [List.foldl_append]; rfl
theorem xor_lt {a b : Nat} (ha : a < 256) (hb : b < 256) : a ^^^ b < 256 := Nat.xor_lt_two_pow (n := 8) ha hb
theorem xs_lt (l : List UInt8) : xs l < 256 := by
  induction l using snoc_ind with
  | h0 => rw [xs_nil]; omega
  | h1 l c ih => rw [xs_snoc]; exact xor_lt ih c.toNat_lt
theorem xs_from (l : List UInt8) : ∀ n : Nat, l.foldl (fun n c => n ^^^ c.toNat) n = n ^^^ xs l := by
  induction l with
  | nil => intro n; simp [xs_nil]
  | cons c r ih =>
    intro n
    have h1 : xs (c :: r) = c.toNat ^^^ xs r := by
      unfold xs
      rw [List.foldl_cons, ih]
      simp [xs]
    rw [List.foldl_cons, ih, h1, Nat.xor_assoc]
theorem xs_app (a b : List UInt8) : xs (a ++ b) = xs a ^^^ xs b := by
  unfold xs
  rw [List.foldl_append]
  exact xs_from b _
theorem xs_cons (c : UInt8) (r : List UInt8) : xs (c :: r) = c.toNat ^^^ xs r := by
  rw [show c :: r = [c] ++ r from rfl, xs_app]
  simp [xs]
/-- another byte at one place makes another sum -/
theorem xs_spoilt (a r : List UInt8) (c d : UInt8) (h : c ≠ d) : xs (a ++ c :: r) ≠ xs (a ++ d :: r) := by
  rw [xs_app, xs_app, xs_cons, xs_cons]
  intro e
  have e1 := congrArg (fun n => xs a ^^^ n) e
  simp only [← Nat.xor_assoc, Nat.xor_self, Nat.zero_xor] at e1
  have e2 := congrArg (fun n => n ^^^ xs r) e1
  simp only [Nat.xor_assoc, Nat.xor_self, Nat.xor_zero] at e2
  exact h (UInt8.toNat_inj.1 e2)
/-- what Check tells -/
def ckE (l : List UInt8) : Int :=
  if l.length < 3 then 21
  else if (l.getD (l.length - 3) 0).toNat ≠ 42 then 21
  else if hx (l.getD (l.length - 2) 0) < 0 then 21
  else if hx (l.getD (l.length - 1) 0) < 0 then 21
  else if hx (l.getD (l.length - 2) 0) * 16 + hx (l.getD (l.length - 1) 0) ≠ (xs (l.take (l.length - 3)) : Int) then 41
  else 0
theorem ckE_cases (l : List UInt8) : ckE l = 21 ∨ ckE l = 41 ∨ ckE l = 0 := by
  unfold ckE
  split
  · left; rfl
  · split
    · left; rfl
    · split
      · left; rfl
      · split
        · left; rfl
        · split
          · right; left; rfl
          · right; right; rfl
theorem getD_tail (b : List UInt8) (c0 c1 c2 : UInt8) : (b ++ [c0, c1, c2]).length = b.length + 3 ∧ (b ++ [c0, c1, c2]).getD b.length 0 = c0 ∧ (b ++ [c0, c1, c2]).getD (b.length + 1) 0 = c1 ∧ (b ++ [c0, c1, c2]).getD (b.length + 2) 0 = c2 ∧ (b ++ [c0, c1, c2]).take b.length = b := by
  refine ⟨by simp, ?_, ?_, ?_, by simp⟩
  · rw [List.getD_eq_getElem?_getD, List.getElem?_append_right (Nat.le_refl _), Nat.sub_self]; rfl
  · rw [List.getD_eq_getElem?_getD, List.getElem?_append_right (by omega), Nat.add_sub_cancel_left]; rfl
  · rw [List.getD_eq_getElem?_getD, List.getElem?_append_right (by omega), Nat.add_sub_cancel_left]; rfl
/-- of a body, a star and two signs -/
theorem ckE_tail (b : List UInt8) (c0 c1 c2 : UInt8) : ckE (b ++ [c0, c1, c2]) = if c0.toNat ≠ 42 then 21 else if hx c1 < 0 then 21 else if hx c2 < 0 then 21 else if hx c1 * 16 + hx c2 ≠ (xs b : Int) then 41 else 0 := by
  obtain ⟨h1, h2, h3, h4, h5⟩ := getD_tail b c0 c1 c2
  unfold ckE
  rw [h1, if_neg (by omega), show b.length + 3 - 3 = b.length by omega, show b.length + 3 - 2 = b.length + 1 by omega, show b.length + 3 - 1 = b.length + 2 by omega, h2, h3, h4, h5]
/-- the signs of a sum -/
def hxc (n : Nat) : UInt8 := hexL.getD n 0
theorem hx_hxc' : ∀ n, n < 16 → hx (hxc n) = (n : Int) := by decide
theorem hx_hxc (n : Nat) (h : n < 16) : hx (hxc n) = (n : Int) := hx_hxc' n h
/-- a body with its star and its sum -/
def sealed (b : List UInt8) : List UInt8 := b ++ [42, hxc (xs b / 16), hxc (xs b % 16)]
theorem ckE_sealed (b : List UInt8) : ckE (sealed b) = 0 := by
  have hx' := xs_lt b
  unfold sealed
  rw [ckE_tail, if_neg (by decide), hx_hxc _ (by omega), hx_hxc _ (by omega), if_neg (by omega), if_neg (by omega), if_neg (by omega)]
theorem sealed_len (b : List UInt8) : (sealed b).length = b.length + 3 := by unfold sealed; simp
/-- one byte of a sentence is another one -/
theorem ckE_spoilt (b p r : List UInt8) (c d : UInt8) (h : sealed b = p ++ c :: r) (hc : c ≠ d) : ckE (p ++ d :: r) ≠ 0 := by
  have hx' := xs_lt b
  have hl : p.length + r.length + 1 = b.length + 3 := by
    have := congrArg List.length h
    rw [sealed_len] at this
    simp at this
    omega
  have h4 := hx_hxc (xs b / 16) (by omega)
  have h5 := hx_hxc (xs b % 16) (by omega)
  unfold sealed at h
  by_cases h1 : p.length < b.length
  · -- within the body
    have hp : p = b.take p.length := by
      have := congrArg (List.take p.length) h
      rw [List.take_append_of_le_length (by omega)] at this
      simpa using this.symm
    have hd : b.drop p.length ++ [42, hxc (xs b / 16), hxc (xs b % 16)] = c :: r := by
      have := congrArg (List.drop p.length) h
      rw [List.drop_append_of_le_length (by omega)] at this
      simpa using this
    obtain ⟨r', hr'⟩ : ∃ r', b.drop p.length = c :: r' := by
      cases hb : b.drop p.length with
      | nil => have := congrArg List.length hb; simp at this; omega
      | cons x y => rw [hb] at hd; injection hd with e1 _; exact ⟨y, by rw [e1]⟩
    have hr : r = r' ++ [42, hxc (xs b / 16), hxc (xs b % 16)] := by rw [hr'] at hd; injection hd with _ e; exact e.symm
    have hb : b = p ++ c :: r' := by rw [← hr']; conv => lhs; rw [← List.take_append_drop p.length b]
                                     rw [← hp]
    have e : p ++ d :: r = (p ++ d :: r') ++ [42, hxc (xs b / 16), hxc (xs b % 16)] := by rw [hr]; simp
    rw [e, ckE_tail, if_neg (by decide), h4, h5, if_neg (by omega), if_neg (by omega)]
    have hne := xs_spoilt p r' c d hc
    rw [← hb] at hne
    rw [if_pos (by omega)]
    decide
  · -- in the tail
    have h2 : p.length = b.length ∨ p.length = b.length + 1 ∨ p.length = b.length + 2 := by omega
    have hp : p = b ++ [42, hxc (xs b / 16), hxc (xs b % 16)].take (p.length - b.length) := by
      have := congrArg (List.take p.length) h
      rw [List.take_append, List.take_of_length_le (by omega)] at this
      simpa using this.symm
    have hd : [42, hxc (xs b / 16), hxc (xs b % 16)].drop (p.length - b.length) = c :: r := by
      have := congrArg (List.drop p.length) h
      rw [List.drop_append, List.drop_eq_nil_of_le (by omega)] at this
      simpa using this
    rcases h2 with h2 | h2 | h2
    · rw [h2, Nat.sub_self] at hp hd
      simp at hp hd
      obtain ⟨rfl, rfl⟩ := hd
      rw [hp]
      have e : b ++ d :: [hxc (xs b / 16), hxc (xs b % 16)] = b ++ [d, hxc (xs b / 16), hxc (xs b % 16)] := rfl
      rw [e, ckE_tail, if_pos (fun e => hc (UInt8.toNat_inj.1 (by rw [e]; rfl)))]
      decide
    · rw [h2, Nat.add_sub_cancel_left] at hp hd
      simp at hp hd
      obtain ⟨rfl, rfl⟩ := hd
      rw [hp]
      have e : (b ++ [42]) ++ d :: [hxc (xs b % 16)] = b ++ [42, d, hxc (xs b % 16)] := by simp
      rw [e, ckE_tail, if_neg (by decide)]
      by_cases h6 : hx d < 0
      · rw [if_pos h6]; decide
      · rw [if_neg h6, h5, if_neg (by omega)]
        by_cases h7 : hx d * 16 + ((xs b % 16 : Nat) : Int) ≠ (xs b : Int)
        · rw [if_pos h7]; decide
        · exact absurd (hx_inj (a := hxc (xs b / 16)) (b := d) (by omega) (by omega)) hc
    · rw [h2, Nat.add_sub_cancel_left] at hp hd
      simp at hp hd
      obtain ⟨rfl, rfl⟩ := hd
      rw [hp]
      have e : (b ++ [42, hxc (xs b / 16)]) ++ d :: [] = b ++ [42, hxc (xs b / 16), d] := by simp
      rw [e, ckE_tail, if_neg (by decide), h4, if_neg (by omega)]
      by_cases h6 : hx d < 0
      · rw [if_pos h6]; decide
      · rw [if_neg h6]
        by_cases h7 : ((xs b / 16 : Nat) : Int) * 16 + hx d ≠ (xs b : Int)
        · rw [if_pos h7]; decide
        · exact absurd (hx_inj (a := hxc (xs b % 16)) (b := d) (by omega) (by omega)) hc
end Go.Proofs.YthoilihokbakoaaDoor
