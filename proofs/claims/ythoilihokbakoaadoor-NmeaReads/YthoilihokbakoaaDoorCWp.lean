/- Words of a line, in lists of bytes. -/
import Derived.Lib.Strings
namespace Go.Proofs.YthoilihokbakoaaDoor
/-- may a byte stand in a word? -/
def bw (c : UInt8) : Bool := decide (32 < c.toNat ∧ c.toNat ≤ 126 ∧ c.toNat ≠ 35)
def fw (cur : List UInt8) : List (List UInt8) := if cur = [] then [] else [cur]
/-- the words of what is left, behind the beginning of one -/
def wx : List UInt8 → List UInt8 → Option (List (List UInt8))
  | [], cur => some (fw cur)
  | c :: r, cur => if c.toNat = 35 then some (fw cur) else if c.toNat = 32 ∨ c.toNat = 9 then (wx r []).map (fw cur ++ ·) else if c.toNat < 33 ∨ 126 < c.toNat then none else wx r (cur ++ [c])
theorem wx_nil (cur : List UInt8) : wx [] cur = some (fw cur) := by rw [wx]
theorem wx_hash {c : UInt8} (h : c.toNat = 35) (r cur : List UInt8) : wx (c :: r) cur = some (fw cur) := by rw [wx, if_pos h]
theorem wx_blank {c : UInt8} (h : c.toNat = 32 ∨ c.toNat = 9) (r cur : List UInt8) : wx (c :: r) cur = (wx r []).map (fw cur ++ ·) := by rw [wx, if_neg (by omega), if_pos h]
theorem wx_bad {c : UInt8} (h : c.toNat < 33 ∨ 126 < c.toNat) (h2 : ¬ (c.toNat = 32 ∨ c.toNat = 9)) (r cur : List UInt8) : wx (c :: r) cur = none := by rw [wx, if_neg (by omega), if_neg h2, if_pos h]
theorem wx_byte {c : UInt8} (h : 33 ≤ c.toNat ∧ c.toNat ≤ 126 ∧ c.toNat ≠ 35) (r cur : List UInt8) : wx (c :: r) cur = wx r (cur ++ [c]) := by rw [wx, if_neg (by omega), if_neg (by omega), if_neg (by omega)]
theorem fw_nil : fw [] = [] := rfl
theorem fw_ne {cur : List UInt8} (h : cur ≠ []) : fw cur = [cur] := by unfold fw; rw [if_neg h]
theorem map_nil {o : Option (List (List UInt8))} : o.map (([] : List (List UInt8)) ++ ·) = o := by cases o <;> rfl
/-- where no byte of a word stands, a word ends -/
theorem wx_end (l cur : List UInt8) (h : ∀ c r, l = c :: r → bw c = false) : wx l cur = (wx l []).map (fw cur ++ ·) := by
  cases l with
  | nil => rw [wx_nil, wx_nil]; simp [fw_nil]
  | cons c r =>
    have hb := h c r rfl
    unfold bw at hb
    rw [decide_eq_false_iff_not] at hb
    by_cases h1 : c.toNat = 35
    · rw [wx_hash h1, wx_hash h1]; simp [fw_nil]
    · by_cases h2 : c.toNat = 32 ∨ c.toNat = 9
      · rw [wx_blank h2, wx_blank h2, fw_nil, map_nil]
      · rw [wx_bad (by omega) h2, wx_bad (by omega) h2]; rfl
/-- how far a reading has come: the words so far, a word's beginning, what is left -/
def Wd (s : List UInt8) (O : List (List UInt8)) (cur l : List UInt8) : Prop := wx s [] = (wx l cur).map (O ++ ·)
theorem Wd.start (s : List UInt8) : Wd s [] [] s := by unfold Wd; rw [map_nil]
theorem map_map' (o : Option (List (List UInt8))) (a b : List (List UInt8)) : (o.map (a ++ ·)).map (b ++ ·) = o.map ((b ++ a) ++ ·) := by cases o <;> simp
theorem Wd.blank {s r cur : List UInt8} {O : List (List UInt8)} {c : UInt8} (h : Wd s O cur (c :: r)) (hc : c.toNat = 32 ∨ c.toNat = 9) : Wd s (O ++ fw cur) [] r := by
  unfold Wd at *
  rw [h, wx_blank hc, map_map']
theorem Wd.byte {s r cur : List UInt8} {O : List (List UInt8)} {c : UInt8} (h : Wd s O cur (c :: r)) (hc : 33 ≤ c.toNat ∧ c.toNat ≤ 126 ∧ c.toNat ≠ 35) : Wd s O (cur ++ [c]) r := by
  unfold Wd at *
  rw [h, wx_byte hc]
theorem Wd.word {s l cur : List UInt8} {O : List (List UInt8)} (h : Wd s O cur l) (hl : ∀ c r, l = c :: r → bw c = false) : Wd s (O ++ fw cur) [] l := by
  unfold Wd at *
  rw [h, wx_end l cur hl, map_map']
theorem Wd.done {s cur : List UInt8} {O : List (List UInt8)} (h : Wd s O cur []) : wx s [] = some (O ++ fw cur) := by
  unfold Wd at h
  rw [h, wx_nil]; rfl
theorem Wd.hash {s cur r : List UInt8} {O : List (List UInt8)} {c : UInt8} (h : Wd s O cur (c :: r)) (hc : c.toNat = 35) : wx s [] = some (O ++ fw cur) := by
  unfold Wd at h
  rw [h, wx_hash hc]; rfl
theorem Wd.bad {s cur r : List UInt8} {O : List (List UInt8)} {c : UInt8} (h : Wd s O cur (c :: r)) (hc : c.toNat < 33 ∨ 126 < c.toNat) (h2 : ¬ (c.toNat = 32 ∨ c.toNat = 9)) : wx s [] = none := by
  unfold Wd at h
  rw [h, wx_bad hc h2]; rfl
/-- a text of bytes -/
def tx (l : List UInt8) : ByteArray := ⟨l.toArray⟩
theorem tx_data (l : List UInt8) : (tx l).data.toList = l := by unfold tx; simp
theorem tx_of (s : ByteArray) : tx s.data.toList = s := by unfold tx; simp
theorem drop_at (s : ByteArray) (k : Nat) (h : k < s.size) : s.data.toList.drop k = s[k] :: s.data.toList.drop (k + 1) := by
  rw [List.drop_eq_getElem_cons (by simpa using h)]; rfl
theorem drop_none (s : ByteArray) (k : Nat) (h : s.size ≤ k) : s.data.toList.drop k = [] := List.drop_eq_nil_of_le (by simpa using h)
theorem extract_tx (s : ByteArray) (a b : Nat) : s.extract a b = tx ((s.data.toList.drop a).take (b - a)) := Lib.extract_eq s a b
end Go.Proofs.YthoilihokbakoaaDoor
