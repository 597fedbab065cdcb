/- The reference's times of day. -/
import Derived.Test.YthoilihokbakoaaDoorQT
import Derived.Test.YthoilihokbakoaaDoorQM
namespace Go.Proofs.YthoilihokbakoaaDoor
open Go Go.RowKit
theorem index_skip (b : UInt8) (r : List UInt8) : ∀ (l : List UInt8), (∀ c ∈ l, c.toNat ≠ b.toNat) → Lib.indexByte (l ++ r) b = -1 ∨ (l.length : Int) ≤ Lib.indexByte (l ++ r) b := by
  intro l
  induction l with
  | nil => intro _; have := Lib.indexByte_ge ([] ++ r) b; simp at this ⊢; omega
  | cons c l ih =>
    intro h
    have h1 := ih (fun x hx => h x (List.mem_cons_of_mem _ hx))
    have h2 : c ≠ b := fun e => h c List.mem_cons_self (by rw [e])
    have h3 := Lib.indexByte_ge (l ++ r) b
    simp [Lib.indexByte, h2]
    split <;> omega
theorem idx_lt (b : UInt8) : ∀ l : List UInt8, Lib.indexByte l b + 1 ≤ l.length := by
  intro l
  induction l with
  | nil => simp [Lib.indexByte]
  | cons c l ih =>
    rw [Lib.indexByte, List.length_cons]
    repeat' split
    all_goals omega
theorem cut_no (l : List UInt8) (h : Lib.indexByte l 46 = -1) : tdW l = l ∧ tdQ l = [] ∧ tdP l = false := by
  have : Lib.cut l [46] = (l, [], false) := by unfold Lib.cut; rw [Lib.index_one, h]; rfl
  unfold tdW tdQ tdP
  rw [this]
  exact ⟨rfl, rfl, rfl⟩
theorem cut_at (l : List UInt8) (i : Nat) (h : Lib.indexByte l 46 = i) : tdW l = l.take i ∧ tdQ l = l.drop (i + 1) ∧ tdP l = true := by
  have : Lib.cut l [46] = (l.take i, l.drop (i + 1), true) := by
    unfold Lib.cut
    rw [Lib.index_one, h]
    simp
  unfold tdW tdQ tdP
  rw [this]
  exact ⟨rfl, rfl, rfl⟩
theorem nuB_of {l : List UInt8} {K : Int} (h1 : (l.length : Int) = K) (h2 : l.all dgB = true) : nuB l K = true := by
  unfold nuB; rw [h2, decide_eq_true h1]; rfl
theorem nuB_no {l : List UInt8} {K : Int} (h1 : (l.length : Int) ≠ K) : nuB l K = false := by
  unfold nuB; rw [decide_eq_false h1]; rfl
/-- six digits alone -/
theorem td_six (p : List UInt8) (h6 : p.length = 6) (hp : p.all dgB = true) : tdB p = true ∧ tdN p = vl p ∧ tdF p = 0 := by
  have hi : Lib.indexByte p 46 = -1 := by
    have h := index_skip 46 [] p (all_ne hp (by decide))
    rw [List.append_nil] at h
    rcases h with h | h
    · exact h
    · have := idx_lt 46 p
      omega
  obtain ⟨a, b, c⟩ := cut_no p hi
  have hn : nuB p 6 = true := nuB_of (by omega) hp
  unfold tdB tdN tdF
  rw [a, b, c, hn]
  refine ⟨rfl, ?_, rfl⟩
  unfold nuV
  rw [hn]; rfl
/-- six digits and a point -/
theorem td_point (p q : List UInt8) (h6 : p.length = 6) (hp : p.all dgB = true) : tdB (p ++ 46 :: q) = frB q ∧ tdN (p ++ 46 :: q) = vl p ∧ tdF (p ++ 46 :: q) = frV q := by
  have hi : Lib.indexByte (p ++ 46 :: q) 46 = (6 : Nat) := by
    rw [indexByte_run 46 q p (all_ne hp (by decide)), h6]
  obtain ⟨a, b, c⟩ := cut_at _ 6 hi
  have hn : nuB p 6 = true := nuB_of (by omega) hp
  have e1 : (p ++ 46 :: q).take 6 = p := by rw [← h6]; exact List.take_left' rfl
  have e2 : (p ++ 46 :: q).drop 7 = q := by rw [show (7 : Nat) = p.length + 1 from by omega, ← List.drop_drop, List.drop_left]; rfl
  rw [e1] at a
  rw [e2] at b
  unfold tdB tdN tdF
  rw [a, b, c, hn]
  refine ⟨by simp, ?_, rfl⟩
  unfold nuV
  rw [hn]; rfl
/-- six digits and what is no point -/
theorem td_none (p q : List UInt8) (x : UInt8) (h6 : p.length = 6) (hp : p.all dgB = true) (hx : x.toNat ≠ 46) : tdB (p ++ x :: q) = false := by
  have h := index_skip 46 q (p ++ [x]) (fun c hc => by
    rw [List.mem_append, List.mem_singleton] at hc
    rcases hc with hc | rfl
    · exact all_ne hp (by decide) c hc
    · exact hx)
  rw [List.append_assoc, List.singleton_append, List.length_append] at h
  have hw : nuB (tdW (p ++ x :: q)) 6 = false := by
    rcases h with h | h
    · rw [(cut_no _ h).1]
      exact nuB_no (by simp; omega)
    · have hl := idx_lt 46 (p ++ x :: q)
      have h3 : Lib.indexByte (p ++ x :: q) 46 = ((Lib.indexByte (p ++ x :: q) 46).toNat : Nat) := by simp at h; omega
      rw [(cut_at _ _ h3).1]
      refine nuB_no ?_
      rw [List.length_take]
      simp at h hl ⊢
      omega
  unfold tdB
  rw [hw]; rfl
/-- where the first six are no digits -/
theorem td_few (l : List UInt8) (h : l.length < 6 ∨ (l.take 6).all dgB = false) : tdB l = false := by
  have hw : nuB (tdW l) 6 = false := by
    cases hb : nuB (tdW l) 6 with
    | false => rfl
    | true =>
      obtain ⟨h1, h2⟩ := nuB_len hb
      have hpre : tdW l = l.take 6 ∧ 6 ≤ l.length := by
        have hg := Lib.indexByte_ge l 46
        by_cases hn : Lib.indexByte l 46 = -1
        · rw [(cut_no l hn).1] at h1 ⊢
          exact ⟨(List.take_of_length_le (by omega)).symm, by omega⟩
        · have h3 : Lib.indexByte l 46 = ((Lib.indexByte l 46).toNat : Nat) := by omega
          rw [(cut_at l _ h3).1] at h1 ⊢
          rw [List.length_take] at h1
          by_cases h4 : (Lib.indexByte l 46).toNat = 6
          · rw [h4]; exact ⟨rfl, by omega⟩
          · have h5 : l.length = 6 := by omega
            exact ⟨by rw [List.take_of_length_le (by omega), List.take_of_length_le (by omega)], by omega⟩
      rw [hpre.1] at h2
      rcases h with h | h
      · omega
      · rw [h2] at h; cases h
  unfold tdB
  rw [hw]; rfl
theorem vl_app (a b : List UInt8) : vl (a ++ b) = vl a * 10 ^ b.length + vl b := by
  induction b using snoc_ind with
  | h0 => simp [vl_nil]
  | h1 l c ih => rw [← List.append_assoc, vl_snoc, ih, vl_snoc, List.length_append, List.length_singleton, Int.pow_succ, Int.add_mul, Int.mul_assoc]; omega
end Go.Proofs.YthoilihokbakoaaDoor
