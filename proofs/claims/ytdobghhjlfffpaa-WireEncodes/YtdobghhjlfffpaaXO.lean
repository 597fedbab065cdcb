/- Packets of time as bytes: the parts' lengths, and what they begin with (lists alone). -/
import Derived.Test.YtdobghhjlfffpaaXH
namespace Go.Proofs.Ytdobghhjlfffpaa
open Go.RowKit
theorem cat_ok (k : Nat) (xs : List Int) (n : Nat) : okb (cat k xs n) := fun b hb => by
  unfold cat at hb
  simp only [List.mem_flatten, List.mem_map] at hb
  obtain ⟨l, ⟨x, _, rfl⟩, hl⟩ := hb
  exact be_ok k x b hl
theorem hdB_ok (h : Hd) : okb (hdB h) := okb_app (okb_app (cat_ok _ _ _) (cat_ok _ _ _)) (cat_ok _ _ _)
theorem xsL_ok {xs : List Xt} (hx : ∀ x ∈ xs, okb x.dat) : okb (xsL xs) := fun b hb => by
  unfold xsL at hb
  simp only [List.mem_flatten, List.mem_map] at hb
  obtain ⟨l, ⟨x, hxm, rfl⟩, hl⟩ := hb
  exact okb_app (okb_app (be_ok _ _) (be_ok _ _)) (hx x hxm) b hl
theorem msB_ok (h : Hd) {xs : List Xt} (hx : ∀ x ∈ xs, okb x.dat) : okb (msB h xs) := okb_app (hdB_ok h) (xsL_ok hx)
theorem dg_ok (key : Int) {mac : List Int} (hm : okb mac) : okb (dg key mac) := by
  unfold dg
  split
  · exact okb_nil
  · exact okb_app (be_ok _ _) hm
theorem nkL_ok (nak : Bool) : okb (nkL nak) := by
  unfold nkL
  split
  · exact be_ok _ _
  · exact okb_nil
theorem enB_ok (h : Hd) {xs : List Xt} (key : Int) (nak : Bool) {mac : List Int} (hx : ∀ x ∈ xs, okb x.dat) (hm : okb mac) : okb (enB h xs key nak mac) :=
  okb_app (okb_app (msB_ok h hx) (dg_ok key hm)) (nkL_ok nak)
theorem Es.dat {N : Nat} {w : World} {v : Value} {xs : List Xt} (h : Es N w v xs) : ∀ x ∈ xs, okb x.dat := fun x hx => by
  obtain ⟨ao, cap, h1, h2, h3, h4⟩ := h
  obtain ⟨i, hi, rfl⟩ := List.mem_iff_getElem.1 hx
  obtain ⟨ad, g1, g2, g3, g4, g5⟩ := h4 i hi
  obtain ⟨_, _, _, _, _, _, q⟩ := g5
  exact q
/-- the message is the beginning -/
theorem en_take (h : Hd) (xs : List Xt) (key : Int) (nak : Bool) (mac : List Int) : (enB h xs key nak mac).take (msB h xs).length = msB h xs := by
  unfold enB
  rw [List.append_assoc, List.take_left']
  rfl
/-- no key, no Nak: nothing else -/
theorem en_none (h : Hd) (xs : List Xt) (mac : List Int) : enB h xs 0 false mac = msB h xs := by
  unfold enB dg nkL
  simp
/-- else the key and the digest -/
theorem en_some (h : Hd) (xs : List Xt) (key : Int) (nak : Bool) (mac : List Int) (hk : kdB key nak mac.length = true) (hn : ¬ (key = 0 ∧ nak = false)) :
    (enB h xs key nak mac).length = (msB h xs).length + 4 + mac.length ∧ (enB h xs key nak mac).drop ((msB h xs).length + 4) = mac := by
  obtain ⟨hd, hkn⟩ := kd_ok hk
  obtain ⟨k0, k1, m1, k2⟩ := df_ok hd
  unfold enB
  by_cases hz : key = 0
  · have hm : mac = [] := List.length_eq_zero_iff.1 (k2.1 hz)
    have hnt : nak = true := by cases nak <;> simp_all
    subst hz; subst hm; subst hnt
    unfold dg nkL
    simp only [if_pos, List.append_nil, List.length_append, be_len, List.length_nil, Nat.add_zero, true_and]
    exact List.drop_eq_nil_of_le (by rw [List.length_append, be_len]; omega)
  · have hnf : nak = false := by
      cases nak with
      | false => rfl
      | true => exact absurd (hkn rfl) hz
    subst hnf
    unfold dg nkL
    rw [if_neg hz]
    refine ⟨by simp [be_len]; omega, ?_⟩
    simp only [Bool.false_eq_true, if_false, List.append_nil]
    rw [← List.append_assoc]
    have e : (msB h xs ++ be 4 key).length = (msB h xs).length + 4 := by rw [List.length_append, be_len]
    rw [← e, List.drop_left']
    rfl
/-- the first byte tells the mode -/
theorem en_mode (h : Hd) (xs : List Xt) (key : Int) (nak : Bool) (mac : List Int) (hf : hfB h = true) : (enB h xs key nak mac).getD 0 0 % 8 = h.mode := by
  obtain ⟨_, _, _, _, a, b, c, _⟩ := hf_ok hf
  have e : (enB h xs key nak mac).getD 0 0 = (64 * h.leap + 8 * h.ver + h.mode) % 256 := by
    unfold enB msB hdB cat be by8
    simp [List.range_succ]
  rw [e]
  omega
end Go.Proofs.Ytdobghhjlfffpaa
