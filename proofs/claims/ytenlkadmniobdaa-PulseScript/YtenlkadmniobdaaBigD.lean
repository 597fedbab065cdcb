/- What times of the reference's whole numbers returns: the digits of the product. -/
import Derived.Test.YtenlkadmniobdaaBigC
import Derived.WalkKit
import Derived.WalkSpells
import Derived.WalkLawsBesides
import Derived.Deep.QuietTactic
import Derived.BigQuiet
namespace Bg
theorem val_set (O : List Nat) (p d : Nat) (hp : p < O.length) : val (O.set p d) + 65536 ^ p * O.getD p 0 = val O + 65536 ^ p * d := by
  induction O generalizing p with
  | nil => simp at hp
  | cons x r ih =>
    rcases p with _ | p
    · simp [val]; omega
    · have := ih p (by simpa using hp)
      simp only [List.set_cons_succ, val, List.getD_cons_succ, Nat.pow_succ]
      have e : ∀ z, 65536 ^ p * 65536 * z = 65536 * (65536 ^ p * z) := fun z => by rw [Nat.mul_comm (65536 ^ p) 65536, Nat.mul_assoc]
      rw [e, e]
      omega
theorem dok_set {O : List Nat} (h : dok O) (p : Nat) {d : Nat} (hd : d < 65536) : dok (O.set p d) := by
  intro x hx
  rcases List.mem_or_eq_of_mem_set hx with h1 | h1
  · exact h x h1
  · omega
/-- a digit of a row of products -/
theorem times_step (A B O : List Nat) (i k p c d q : Nat) (hp : p = i + k) (hl : p < O.length) (hd : d + 65536 * q = O.getD p 0 + c + A.getD i 0 * B.getD k 0) (h : val O + 65536 ^ p * c = val (A.take i) * val B + 65536 ^ i * (A.getD i 0 * val (B.take k))) :
    val (O.set p d) + 65536 ^ (p + 1) * q = val (A.take i) * val B + 65536 ^ i * (A.getD i 0 * val (B.take (k + 1))) := by
  have hs := val_set O p d hl
  have e : 65536 ^ p * (d + 65536 * q) = 65536 ^ p * (O.getD p 0 + c + A.getD i 0 * B.getD k 0) := by rw [hd]
  rw [Nat.mul_add, Nat.mul_add, Nat.mul_add, ← Nat.mul_assoc] at e
  rw [tk, Nat.mul_add, Nat.mul_add]
  have f : 65536 ^ i * (A.getD i 0 * (65536 ^ k * B.getD k 0)) = 65536 ^ p * (A.getD i 0 * B.getD k 0) := by
    rw [hp, Nat.pow_add, Nat.mul_left_comm (A.getD i 0), Nat.mul_assoc]
  rw [f, Nat.pow_succ]
  omega
/-- where the row ends nothing is carried -/
theorem times_over (A B O : List Nat) (i k p c : Nat) (hB : dok B) (hA : dok A) (hi : i < A.length) (hp : p = i + k) (hk : B.length < k) (h : val O + 65536 ^ p * c = val (A.take i) * val B + 65536 ^ i * (A.getD i 0 * val (B.take k))) : c = 0 := by
  rw [val_take_all B k (by omega), ← Nat.mul_assoc, ← Nat.add_mul, ← tk] at h
  have h1 := val_lt (A.take (i + 1)) (dok_take hA _)
  rw [List.length_take, Nat.min_eq_left (by omega)] at h1
  have h2 := val_lt B hB
  have h3 : val (A.take (i + 1)) * val B < 65536 ^ (i + 1) * 65536 ^ B.length := Nat.mul_lt_mul'' h1 h2
  rw [← Nat.pow_add] at h3
  have h4 : 65536 ^ (i + 1 + B.length) ≤ 65536 ^ p := Nat.pow_le_pow_right (by decide) (by omega)
  rcases c with _ | c
  · rfl
  · have := Nat.mul_le_mul_left (65536 ^ p) (show 1 ≤ c + 1 by omega)
    omega
theorem times_row (A B O : List Nat) (i k : Nat) (hk : B.length ≤ k) (h : val O + 65536 ^ (i + k) * 0 = val (A.take i) * val B + 65536 ^ i * (A.getD i 0 * val (B.take k))) : val O = val (A.take (i + 1)) * val B := by
  rw [val_take_all B k hk] at h
  rw [tk, Nat.add_mul, Nat.mul_assoc]
  omega
theorem val_zeros (n : Nat) : val (List.replicate n 0) = 0 := by
  induction n with
  | zero => rfl
  | succ n ih => rw [List.replicate_succ, val, ih]
theorem dok_zeros (n : Nat) : dok (List.replicate n 0) := fun d hd => by
  have := (List.mem_replicate.1 hd).2
  omega
end Bg
namespace Go.Proofs.Ytenlkadmniobdaa
open Go.RowKit
theorem vals_zeros (n : Nat) : (madeCells #[Value.int .i64 0] n).toList = vals (List.replicate n 0) := by
  rw [toList_madeCells_one]
  simp [vals]
theorem vals_set (O : List Nat) (p : Nat) (d : Nat) : (vals O).set p (.int .i64 (d : Int)) = vals (O.set p d) := by
  simp [vals, List.map_set]
/-- the digit at a place of a row that the call has made -/
theorem own_at {w : World} {base g n cap : Nat} {O : List Nat} (h : w.ownsRow base 3 1 (.slice (some ⟨g, 0, none⟩) n cap) n (vals O)) (hl : O.length = n) (hd : Bg.dok O) (p : Nat) (hp : p < n) :
    ∃ z : Int, w.cell? ⟨g, p, none⟩ = some (.int .i64 z) ∧ w.frozen? ⟨g, p, none⟩ = false ∧ Hid (z = ((O.getD p 0 : Nat) : Int)) ∧ 0 ≤ z ∧ z ≤ 65535 := by
  have h1 := h.cellAt p (by omega)
  unfold vals at h1
  rw [List.getElem?_map, List.getElem?_eq_getElem (by omega)] at h1
  have h2 := Bg.dok_getD hd p
  refine ⟨((O.getD p 0 : Nat) : Int), ?_, h.frozenAt p, rfl, Int.natCast_nonneg _, by omega⟩
  rw [h1, Bg.getD_at _ _ (by omega)]
  rfl
/-- behind a store into such a row -/
theorem own_store {w w0 : World} {n cap : Nat} {O : List Nat} (h : w.ownsRow w0.heap.size 3 1 (.slice (some ⟨w0.heap.size, 0, none⟩) n cap) n (vals O)) (hb : Below w0.heap.size w0 w) (p : Nat) (d : Nat) :
    (w.setCell ⟨w0.heap.size, p, none⟩ (.int .i64 (d : Int))).ownsRow w0.heap.size 3 1 (.slice (some ⟨w0.heap.size, 0, none⟩) n cap) n (vals (O.set p d)) ∧ Below w0.heap.size w0 (w.setCell ⟨w0.heap.size, p, none⟩ (.int .i64 (d : Int))) := by
  refine ⟨?_, hb.setCell (Nat.le_refl _) _⟩
  rw [← vals_set]
  exact (h.stored p _).1
end Go.Proofs.Ytenlkadmniobdaa
