/- What candidates are combined to: pure. -/
import Derived.Test.YtnjfmhabajcpoaaClA
namespace Go.Proofs.Ytnjfmhabajcpoaa
open Go Go.Sort
set_option linter.unusedVariables false
theorem div_mul_le (a W : Int) (h : 0 < W) : W * (a / W) ≤ a ∧ a < W * (a / W) + W := by
  have h1 := Int.mul_ediv_add_emod a W
  have h2 := Int.emod_nonneg a (Int.ne_of_gt h)
  have h3 := Int.emod_lt_of_pos a h
  omega
/-- a part of D, by a weight that is no more than all -/
theorem part_bd {D X W : Int} (h0 : 0 ≤ X) (h1 : X ≤ W) (hW : 0 < W) : (0 ≤ D → 0 ≤ D * X / W ∧ D * X / W ≤ D) ∧ (D ≤ 0 → D ≤ D * X / W ∧ D * X / W ≤ 0) := by
  refine ⟨fun hd => ⟨?_, ?_⟩, fun hd => ⟨?_, ?_⟩⟩
  · exact Int.ediv_nonneg (Int.mul_nonneg hd h0) (Int.le_of_lt hW)
  · have : D * X ≤ D * W := Int.mul_le_mul_of_nonneg_left h1 hd
    exact Int.ediv_le_of_le_mul hW this
  · have : D * W ≤ D * X := by
      have := Int.mul_le_mul_of_nonneg_left h1 (show 0 ≤ -D by omega)
      rw [Int.neg_mul, Int.neg_mul] at this
      omega
    exact Int.le_ediv_of_mul_le hW this
  · have h2 : D * X ≤ 0 := by
      have := Int.mul_nonneg (show 0 ≤ -D by omega) h0
      rw [Int.neg_mul] at this
      omega
    have := Int.ediv_le_ediv hW h2
    simpa using this
theorem scl_part {D X W : Int} (h0 : 0 ≤ X) (h1 : X ≤ W) (hD : -4611686018427387904 ≤ D ∧ D ≤ 4611686018427387904) : scl D X W = if W ≤ 0 then 0 else D * X / W := by
  unfold scl
  by_cases hW : W ≤ 0
  · rw [if_pos hW, if_pos hW]
  · rw [if_neg hW, if_neg hW]
    have hb := part_bd (D := D) h0 h1 (by omega)
    rcases Int.le_total 0 D with h | h
    · have := hb.1 h
      exact Fx.cl_in (by omega) (by omega)
    · have := hb.2 h
      exact Fx.cl_in (by omega) (by omega)
theorem scl_bd2 {D X W m : Int} (h0 : 0 ≤ X) (h1 : X ≤ W) (hm : m ≤ 4611686018427387904) (hD : -m ≤ D ∧ D ≤ m) : -m ≤ scl D X W ∧ scl D X W ≤ m := by
  rw [scl_part h0 h1 (by omega)]
  by_cases hW : W ≤ 0
  · rw [if_pos hW]; omega
  · rw [if_neg hW]
    have hb := part_bd (D := D) h0 h1 (by omega)
    rcases Int.le_total 0 D with h | h
    · have := hb.1 h; omega
    · have := hb.2 h; omega
theorem wt_mem {l : List Cn} {c : Cn} (h : c ∈ l) : wt c ≤ wts l := by
  induction l with
  | nil => cases h
  | cons x l ih =>
    have e : wts (x :: l) = wt x + wts l := by unfold wts; simp
    have h1 := wts_bd l
    have h2 := wt_bd x
    rcases List.mem_cons.1 h with rfl | h
    · omega
    · have := ih h; omega
/-- all say so much more -/
def shf (by' : Int) (c : Cn) : Cn := { c with o := c.o.tmod 1125899906842624 + by' }
theorem wt_shf (b : Int) (c : Cn) : wt (shf b c) = wt c := rfl
theorem wts_map (b : Int) (l : List Cn) : wts (l.map (shf b)) = wts l := by
  unfold wts
  rw [List.map_map]
  rfl
theorem tm_bd (x : Int) : -1125899906842624 < x.tmod 1125899906842624 ∧ x.tmod 1125899906842624 < 1125899906842624 := by
  have h1 := Int.tmod_lt_of_pos x (show (0 : Int) < 1125899906842624 by decide)
  have h2 := Int.lt_tmod_of_pos x (show (0 : Int) < 1125899906842624 by decide)
  omega
theorem fs_map (b : Int) {l : List Cn} (h : l ≠ []) : fs (l.map (shf b)) = shf b (fs l) := by
  cases l with
  | nil => exact absurd rfl h
  | cons x l => rfl
theorem dfC_shf (b : Int) (l : List Cn) (i : Nat) (hi : i < l.length) : dfC (l.map (shf b)) i = dfC (l.map (shf 0)) i := by
  unfold dfC
  have e : ∀ k : Int, (l.map (shf k)).eraseIdx i = (l.eraseIdx i).map (shf k) := fun k => by
    rw [List.eraseIdx_eq_take_drop_succ, List.eraseIdx_eq_take_drop_succ, List.map_append, List.map_take, List.map_drop]
  have g : ∀ k : Int, (l.map (shf k)).getD i zCn = shf k l[i] := fun k => by
    rw [List.getD_eq_getElem?_getD, List.getElem?_map, List.getElem?_eq_getElem hi]; rfl
  rw [e, e, g, g, List.map_map, List.map_map]
  apply List.map_congr_left
  intro c _
  show Fx.cl 4611686018427387904 ((shf b l[i]).o - (shf b c).o) = Fx.cl 4611686018427387904 ((shf 0 l[i]).o - (shf 0 c).o)
  congr 1
  unfold shf
  simp only
  omega
theorem shifted (b : Int) (l : List Cn) (hb : -2147483648 ≤ b ∧ b < 2147483648) (h16 : l.length ≤ 16) (hne : l ≠ []) : cmO (l.map (shf b)) - cmO (l.map (shf 0)) = b ∧ cmJ (l.map (shf 0)) = cmJ (l.map (shf b)) := by
  have hpos : 0 < l.length := List.length_pos_iff.2 hne
  have hn : ∀ k : Int, l.map (shf k) ≠ [] := fun k e => hne (List.map_eq_nil_iff.1 e)
  have ht : ∀ k : Int, (l.map (shf k)).take 16 = l.map (shf k) := fun k => List.take_of_length_le (by rw [List.length_map]; exact h16)
  obtain ⟨x, t, rfl⟩ : ∃ x t, l = x :: t := by
    cases l with
    | nil => exact absurd rfl hne
    | cons x t => exact ⟨x, t, rfl⟩
  have hf : ∀ k : Int, fs ((x :: t).map (shf k)) = shf k x := fun k => rfl
  refine ⟨?_, ?_⟩
  · unfold cmO
    rw [if_neg (hn b), if_neg (hn 0), ht, ht, hf, hf, wts_map, wts_map]
    have ed : ∀ k : Int, ((x :: t).map (shf k)).drop 1 = t.map (shf k) := fun k => rfl
    rw [ed, ed]
    have hlen : t.length ≤ 15 := by simp at h16; omega
    have hw : ∀ c ∈ t, wt c ≤ wts (x :: t) := fun c hc => wt_mem (List.mem_cons_of_mem _ hc)
    obtain ⟨W, hW⟩ : ∃ W, wts (x :: t) = W := ⟨_, rfl⟩
    rw [hW] at hw ⊢
    have hx := tm_bd x.o
    suffices key : ∀ (t : List Cn) (j : Nat) (a : Int), (∀ c ∈ t, wt c ≤ W) → t.length + j ≤ 15 → -1125899906842624 - 2251799813685248 * j ≤ a → a ≤ 1125899906842624 + 2251799813685248 * j → cmF (shf b x).o W (a + b) (t.map (shf b)) = cmF (shf 0 x).o W a (t.map (shf 0)) + b by
      have := key t 0 (shf 0 x).o hw (by omega) (by unfold shf; simp only; omega) (by unfold shf; simp only; omega)
      have e : (shf 0 x).o + b = (shf b x).o := by unfold shf; simp only; omega
      rw [e] at this
      rw [this]; omega
    intro t
    induction t with
    | nil => intro j a _ _ _ _; rfl
    | cons c t ih =>
      intro j a hw hj h1 h2
      have hc := tm_bd c.o
      have hcw := hw c (List.mem_cons_self ..)
      have hw0 := wt_bd c
      have eD : Fx.cl 4611686018427387904 ((shf b c).o - (shf b x).o) = Fx.cl 4611686018427387904 ((shf 0 c).o - (shf 0 x).o) := by
        congr 1
        unfold shf
        simp only
        omega
      have eD0 : Fx.cl 4611686018427387904 ((shf 0 c).o - (shf 0 x).o) = (shf 0 c).o - (shf 0 x).o := Fx.cl_in (by unfold shf; simp only; omega) (by unfold shf; simp only; omega)
      have hDb : -2251799813685248 ≤ (shf 0 c).o - (shf 0 x).o ∧ (shf 0 c).o - (shf 0 x).o ≤ 2251799813685248 := by unfold shf; simp only; omega
      have hs := scl_bd2 (X := wt c) (W := W) hw0.1 hcw (by decide) hDb
      have hl : (c :: t).length = t.length + 1 := rfl
      have e1 : cmS (shf b x).o W (a + b) (shf b c) = cmS (shf 0 x).o W a (shf 0 c) + b := by
        unfold cmS
        rw [wt_shf, wt_shf, eD, eD0]
        rw [Fx.cl_in (by omega) (by omega), Fx.cl_in (by omega) (by omega)]
        omega
      have e2 : cmS (shf 0 x).o W a (shf 0 c) = a + scl ((shf 0 c).o - (shf 0 x).o) (wt c) W := by
        unfold cmS
        rw [wt_shf, eD0, Fx.cl_in (by omega) (by omega)]
      show cmF (shf b x).o W (cmS (shf b x).o W (a + b) (shf b c)) (t.map (shf b)) = cmF (shf 0 x).o W (cmS (shf 0 x).o W a (shf 0 c)) (t.map (shf 0)) + b
      rw [e1]
      refine ih (j + 1) _ (fun d hd => hw d (List.mem_cons_of_mem _ hd)) (by omega) ?_ ?_
      · rw [e2]; omega
      · rw [e2]; omega
  · unfold cmJ
    rw [if_neg (hn b), if_neg (hn 0), ht, ht, hf, hf]
    unfold sj
    rw [dfC_shf b (x :: t) 0 hpos]
    rfl
end Go.Proofs.Ytnjfmhabajcpoaa
