/- What is combined lies between the least and the greatest. Pure. -/
import Derived.Test.YtnjfmhabajcpoaaClPa
namespace Go.Proofs.Ytnjfmhabajcpoaa
open Go Go.Sort
set_option linter.unusedVariables false
theorem bet_fin {f lo hi W T acc j : Int} (hW : 0 < W) (h1 : lo ≤ f) (h2 : f ≤ hi) (hT0 : 0 ≤ T) (hT : T ≤ W) (ha : W * (acc - f) ≤ (hi - f) * T) (hb : (lo - f) * T - j * W ≤ W * (acc - f)) : acc ≤ hi ∧ lo - j ≤ acc := by
  constructor
  · have e : (hi - f) * T ≤ (hi - f) * W := Int.mul_le_mul_of_nonneg_left hT (by omega)
    rw [Int.mul_comm (hi - f) W] at e
    have := Int.le_of_mul_le_mul_left (Int.le_trans ha e) hW
    omega
  · have e : (f - lo) * T ≤ (f - lo) * W := Int.mul_le_mul_of_nonneg_left hT (by omega)
    have e2 : (lo - f) * T = -((f - lo) * T) := by rw [← Int.neg_mul]; congr 1; omega
    have e3 : W * (lo - f - j) = -((f - lo) * W) - j * W := by
      rw [Int.mul_comm W, Int.sub_mul, ← Int.neg_mul]
      congr 2
      omega
    have := Int.le_of_mul_le_mul_left (a := W) (b := lo - f - j) (c := acc - f) (by rw [e3]; omega) hW
    omega
theorem bet (f lo hi W : Int) (hW : 0 < W) (h1 : lo ≤ f) (h2 : f ≤ hi) (hlo : -1152921504606846976 ≤ lo) (hhi : hi ≤ 1152921504606846976) : ∀ (t : List Cn) (j : Nat) (acc T : Int), (∀ c ∈ t, lo ≤ c.o ∧ c.o ≤ hi ∧ wt c ≤ W) → 0 ≤ T → T + wts t ≤ W → W * (acc - f) ≤ (hi - f) * T → (lo - f) * T - (j : Int) * W ≤ W * (acc - f) → j + t.length ≤ 16 →
    cmF f W acc t ≤ hi ∧ lo - ((j + t.length : Nat) : Int) ≤ cmF f W acc t := by
  intro t
  induction t with
  | nil =>
    intro j acc T hc hT0 hT ha hb hj
    have e : wts [] = 0 := rfl
    rw [e] at hT
    have := bet_fin hW h1 h2 hT0 (by omega) ha hb
    exact ⟨this.1, this.2⟩
  | cons c t ih =>
    intro j acc T hc hT0 hT ha hb hj
    obtain ⟨hc1, hc2, hc3⟩ := hc c (List.mem_cons_self ..)
    have e : wts (c :: t) = wt c + wts t := by unfold wts; simp
    rw [e] at hT
    have hw0 := (wt_bd c).1
    have ht0 := (wts_bd t).1
    have hbd := bet_fin hW h1 h2 hT0 (by omega) ha hb
    have hl : (c :: t).length = t.length + 1 := rfl
    rw [hl] at hj ⊢
    obtain ⟨D, hD⟩ : ∃ D, c.o - f = D := ⟨_, rfl⟩
    obtain ⟨X, hX⟩ : ∃ X, wt c = X := ⟨_, rfl⟩
    have eD : Fx.cl 4611686018427387904 (c.o - f) = D := by rw [hD]; exact Fx.cl_in (by omega) (by omega)
    rw [hX] at hw0 hc3 hT
    have hq := scl_part (D := D) hw0 hc3 (by omega)
    rw [if_neg (by omega)] at hq
    have hqb := scl_bd2 (D := D) (m := 2305843009213693952) hw0 hc3 (by decide) (by omega)
    obtain ⟨q, hqe⟩ : ∃ q, scl D X W = q := ⟨_, rfl⟩
    rw [hqe] at hq hqb
    have eS : cmS f W acc c = acc + q := by
      unfold cmS
      rw [eD, hX, hqe]
      exact Fx.cl_in (by omega) (by omega)
    have hm := div_mul_le (D * X) W hW
    rw [← hq] at hm
    have u1 : D * X ≤ (hi - f) * X := Int.mul_le_mul_of_nonneg_right (by omega) hw0
    have u2 : (lo - f) * X ≤ D * X := Int.mul_le_mul_of_nonneg_right (by omega) hw0
    have e5 : W * (acc + q - f) = W * (acc - f) + W * q := by rw [← Int.mul_add]; congr 1; omega
    have e6 : (hi - f) * (T + X) = (hi - f) * T + (hi - f) * X := Int.mul_add ..
    have e7 : (lo - f) * (T + X) = (lo - f) * T + (lo - f) * X := Int.mul_add ..
    have e8 : ((j + 1 : Nat) : Int) * W = (j : Int) * W + W := by rw [Int.natCast_add, Int.add_mul]; simp
    have := ih (j + 1) (acc + q) (T + X) (fun d hd => hc d (List.mem_cons_of_mem _ hd)) (by omega) (by omega) (by rw [e5, e6]; omega) (by rw [e5, e7, e8]; omega) (by omega)
    show cmF f W (cmS f W acc c) t ≤ hi ∧ _ ≤ cmF f W (cmS f W acc c) t
    rw [eS]
    refine ⟨this.1, ?_⟩
    have e9 : j + 1 + t.length = j + (t.length + 1) := by omega
    rw [e9] at this
    exact this.2
theorem cmF_still (f W : Int) (hf : -4611686018427387904 ≤ f ∧ f ≤ 4611686018427387904) : ∀ (t : List Cn), (∀ c ∈ t, scl (Fx.cl 4611686018427387904 (c.o - f)) (wt c) W = 0) → cmF f W f t = f := by
  intro t
  induction t with
  | nil => intro _; rfl
  | cons c t ih =>
    intro h
    have e : cmS f W f c = f := by
      unfold cmS
      rw [h c (List.mem_cons_self ..), Int.add_zero]
      exact Fx.cl_in (by omega) (by omega)
    show cmF f W (cmS f W f c) t = f
    rw [e]
    exact ih fun d hd => h d (List.mem_cons_of_mem _ hd)
theorem scl_0 (X W : Int) : scl 0 X W = 0 := by
  unfold scl
  split
  · rfl
  · rw [Int.zero_mul, Int.zero_ediv]
    exact Fx.cl_in (by omega) (by omega)
theorem between (l : List Cn) (lo hi : Int) (hne : l ≠ []) (h16 : l.length ≤ 16) (hlo : -1152921504606846976 ≤ lo) (hhi : hi ≤ 1152921504606846976) (h : ∀ c ∈ l, lo ≤ c.o ∧ c.o ≤ hi) :
    lo - (l.length : Int) ≤ cmO l ∧ cmO l ≤ hi ∧ (fs l).j ≤ cmJ l ∧ (lo = hi → cmO l = lo) := by
  obtain ⟨x, t, rfl⟩ : ∃ x t, l = x :: t := by
    cases l with
    | nil => exact absurd rfl hne
    | cons x t => exact ⟨x, t, rfl⟩
  have hx := h x (List.mem_cons_self ..)
  have ht : ∀ c ∈ t, lo ≤ c.o ∧ c.o ≤ hi := fun c hc => h c (List.mem_cons_of_mem _ hc)
  have hlen : (x :: t).length = t.length + 1 := rfl
  rw [hlen] at h16 ⊢
  have eO : cmO (x :: t) = cmF x.o (wts (x :: t)) x.o t := by
    unfold cmO
    rw [if_neg hne, List.take_of_length_le (by rw [hlen]; omega)]
    rfl
  have eJ : (fs (x :: t)).j ≤ cmJ (x :: t) := by
    unfold cmJ
    rw [if_neg hne]
    exact Int.le_max_left ..
  rw [eO]
  obtain ⟨W, hW⟩ : ∃ W, wts (x :: t) = W := ⟨_, rfl⟩
  rw [hW]
  have hw : ∀ c ∈ t, wt c ≤ W := fun c hc => by rw [← hW]; exact wt_mem (List.mem_cons_of_mem _ hc)
  have hww : wts t ≤ W := by
    have e : wts (x :: t) = wt x + wts t := by unfold wts; simp
    have := (wt_bd x).1
    omega
  have he : lo = hi → cmF x.o W x.o t = lo := fun e => by
    have ex : x.o = lo := by omega
    rw [ex]
    refine cmF_still lo W (by omega) t fun c hc => ?_
    have := ht c hc
    rw [show c.o - lo = 0 from by omega, show Fx.cl 4611686018427387904 0 = 0 from Fx.cl_in (by omega) (by omega)]
    exact scl_0 _ _
  by_cases hp : 0 < W
  · have := bet x.o lo hi W hp hx.1 hx.2 hlo hhi t 0 x.o 0 (fun c hc => ⟨(ht c hc).1, (ht c hc).2, hw c hc⟩) (by omega) (by omega) (by rw [Int.sub_self, Int.mul_zero, Int.mul_zero]; exact Int.le_refl _) (by rw [Int.sub_self, Int.mul_zero, Int.mul_zero]; simp) (by omega)
    exact ⟨by omega, this.1, eJ, he⟩
  · have := cmF_still x.o W (by omega) t fun c _ => by unfold scl; rw [if_pos (by omega)]
    rw [this]
    exact ⟨by omega, hx.2, eJ, fun e => by omega⟩
end Go.Proofs.Ytnjfmhabajcpoaa
