/- What meanSquare and RMS of package fixed return, for a slice of at most 65536 numbers: the mean of the squares in two words; the root of it. -/
import Derived.Test.YtlggademcmkihaaRootF
import Derived.Test.YtlggademcmkihaaBigK
import Derived.WalkKit
import Derived.ProofKit
import Derived.WalkSpells
import Derived.WalkLawsBesides
import Derived.Laws.Externs
namespace Sq
/-- the square of a number that is saturated -/
def sq (z : Int) : Nat := (Fx.cl 4611686018427387904 z).natAbs * (Fx.cl 4611686018427387904 z).natAbs
def sum : List Int → Nat
  | [] => 0
  | z :: r => sq z + sum r
theorem sum_append (a b : List Int) : sum (a ++ b) = sum a + sum b := by
  induction a with
  | nil => simp [sum]
  | cons z r ih => rw [List.cons_append, sum, sum, ih]; omega
theorem take_succ (a : List Int) (k : Nat) (h : k < a.length) : sum (a.take (k + 1)) = sum (a.take k) + sq (a.getD k 0) := by
  rw [List.take_succ_eq_append_getElem h, sum_append, List.getD_eq_getElem?_getD, List.getElem?_eq_getElem h]
  simp [sum]
theorem sq_le (z : Int) : sq z ≤ 21267647932558653966460912964485513216 := by
  have h := Fx.cl_bd (m := 4611686018427387904) (by decide) z
  have h1 : (Fx.cl 4611686018427387904 z).natAbs ≤ 4611686018427387904 := by omega
  exact Nat.mul_le_mul h1 h1
theorem sum_le (a : List Int) : sum a ≤ a.length * 21267647932558653966460912964485513216 := by
  induction a with
  | nil => simp [sum]
  | cons z r ih =>
    have := sq_le z
    rw [sum, List.length_cons]
    omega
/-- a number in two parts, divided in two steps -/
theorem stepsK (W L n K : Nat) (hn : 0 < n) (hL : L < K) : ((W * K + L) / n) / K = W / n ∧ ((W * K + L) / n) % K = (W % n * K + L) / n := by
  have hd := Nat.div_add_mod W n
  have hm := Nat.mod_lt W hn
  generalize W / n = q at *
  generalize W % n = r at *
  have hK : 0 < K := by omega
  have e : W * K + L = r * K + L + n * (q * K) := by
    rw [← hd, Nat.add_mul, Nat.mul_assoc]; omega
  have hl : (r * K + L) / n < K := by
    rw [Nat.div_lt_iff_lt_mul hn]
    have := Nat.mul_le_mul_right K (show r + 1 ≤ n from hm)
    rw [Nat.add_mul, Nat.one_mul] at this
    rw [Nat.mul_comm K n]
    omega
  rw [e, Nat.add_mul_div_left _ _ hn]
  generalize (r * K + L) / n = x at *
  rw [Nat.add_mul_div_right _ _ hK, Nat.add_mul_mod_self_right, Nat.div_eq_of_lt hl, Nat.mod_eq_of_lt hl, Nat.zero_add]
  exact ⟨rfl, rfl⟩
theorem two_steps (T H L n : Nat) (hT : T < n) (hL : L < 18446744073709551616) :
    (((T * 18446744073709551616 + H) * 18446744073709551616 + L) / n) / 18446744073709551616 = (T * 18446744073709551616 + H) / n ∧
    (((T * 18446744073709551616 + H) * 18446744073709551616 + L) / n) % 18446744073709551616 = ((T * 18446744073709551616 + H) % n * 18446744073709551616 + L) / n :=
  stepsK _ _ _ _ (Nat.lt_of_le_of_lt (Nat.zero_le _) hT) hL
end Sq
namespace Go.Proofs.Ytlggademcmkihaa
open Go.RowKit
/-- a slice of numbers at an address reads as these -/
def Rs (w : World) (ao : Option Addr) (zs : List Int) : Prop := ∀ k, k < zs.length → ∃ ad, ao = some ad ∧ ad.block < w.heap.size ∧ w.cell? (ad.add k) = some (.int .i64 (zs.getD k 0))
theorem add_block (ad : Addr) (k : Nat) : (ad.add k).block = ad.block := by unfold Addr.add; split <;> rfl
theorem Rs.below {B : Nat} {w w' : World} {ao : Option Addr} {zs : List Int} (h : Rs w ao zs) (hb : Below B w w') (hB : w.heap.size ≤ B) : Rs w' ao zs := fun k hk => by
  obtain ⟨ad, h1, h2, h3⟩ := h k hk
  exact ⟨ad, h1, Nat.lt_of_lt_of_le h2 hb.size, (hb.cell (p := ad.add k) (by rw [add_block]; omega)).trans h3⟩
theorem Rs.take {w : World} {ao : Option Addr} {zs : List Int} (h : Rs w ao zs) (m : Nat) : Rs w ao (zs.take m) := fun k hk => by
  rw [List.length_take] at hk
  obtain ⟨ad, h1, h2, h3⟩ := h k (by omega)
  refine ⟨ad, h1, h2, ?_⟩
  rw [List.getD_eq_getElem?_getD, List.getElem?_take_of_lt (by omega), ← List.getD_eq_getElem?_getD]
  exact h3
def okz (zs : List Int) : Prop := ∀ z ∈ zs, -9223372036854775808 ≤ z ∧ z ≤ 9223372036854775807
theorem okz_at {zs : List Int} (h : okz zs) (k : Nat) : -9223372036854775808 ≤ zs.getD k 0 ∧ zs.getD k 0 ≤ 9223372036854775807 := by
  by_cases hk : k < zs.length
  · rw [List.getD_eq_getElem?_getD, List.getElem?_eq_getElem hk]; exact h _ (List.getElem_mem hk)
  · rw [List.getD_eq_getElem?_getD, List.getElem?_eq_none (by omega)]; simp
theorem okz_take {zs : List Int} (h : okz zs) (m : Nat) : okz (zs.take m) := fun z hz => h z (List.mem_of_mem_take hz)
theorem Rs.at {w : World} {ao : Option Addr} {zs : List Int} (h : Rs w ao zs) (hd : okz zs) (k : Nat) (hk : k < zs.length) :
    ∃ (ad : Addr) (x : Int), Hid (ao = some ad) ∧ w.cell? (ad.add k) = some (.int .i64 x) ∧ Hid (x = zs.getD k 0) ∧ -9223372036854775808 ≤ x ∧ x ≤ 9223372036854775807 := by
  obtain ⟨ad, h1, h2, h3⟩ := h k hk
  obtain ⟨b1, b2⟩ := okz_at hd k
  exact ⟨ad, _, h1, h3, rfl, b1, b2⟩
end Go.Proofs.Ytlggademcmkihaa
