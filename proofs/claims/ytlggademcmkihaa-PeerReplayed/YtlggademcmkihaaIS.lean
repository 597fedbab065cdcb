/- What was taken is never taken again: in plain data. -/
import Derived.Test.YtlggademcmkihaaIA
namespace Go.Proofs.Ytlggademcmkihaa
open Go Go.RowKit
/-- how far a stamp lies behind 2^61 ahead of the first one -/
def uu (X0 a : Int) : Int := (a - X0 + 2305843009213693952) % 18446744073709551616
theorem cl_sign (x : Int) : Fx.cl 4611686018427387904 x ≤ 0 ↔ x ≤ 0 := by
  unfold Fx.cl
  (repeat' split) <;> omega
theorem sn_uu {X0 a b : Int} (h1 : uu X0 a ≤ 4611686018427387904) (h2 : uu X0 b ≤ 4611686018427387904) : sn a b ≤ 0 ↔ uu X0 a ≤ uu X0 b := by
  unfold sn
  rw [cl_sign]
  unfold uu at h1 h2 ⊢
  omega
theorem ans5 {k m : Int} (h5 : ansB k 5 = true) (hm : ansB k m = true) : m = 5 := by
  unfold ansB at h5 hm
  (repeat' split at h5) <;> simp_all
structure RI (X0 : Int) (A : Int → Bool) (s : Ps) (T : List Pk) : Prop where
  rq : s.req ≠ 0 → A s.req = true
  la : ansB s.kind 5 = true → s.taken = true → uu X0 s.last ≤ 4611686018427387904
  ok : ∀ t ∈ T, okP t ∧ ansB s.kind t.mode = true ∧ (t.mode = 5 → s.taken = true ∧ uu X0 t.xmt ≤ uu X0 s.last) ∧ (t.mode ≠ 5 → t.org ≠ 0 ∧ A t.org = true ∧ t.org ≠ s.req)
theorem RI.new (X0 kind key own : Int) : RI X0 (fun _ => false) (ps0 kind key own) [] := ⟨fun h => absurd rfl h, fun _ (h : false = true) => absurd h (by decide), fun t ht => absurd ht (by simp)⟩
/-- a packet that was taken is never taken again, and changes nothing -/
theorem RI.old {X0 : Int} {A : Int → Bool} {s : Ps} {T : List Pk} (h : RI X0 A s T) (t : Pk) (ht : t ∈ T) (rec : Int) : vdI s t true ≠ 0 ∧ hrP s t rec true = s ∧ hrS s t rec true = sm0 := by
  obtain ⟨o1, o2, o3, o4⟩ := h.ok t ht
  have hv : vdI s t true = 2 ∨ ((vdI s t true = 3 ∨ vdI s t true = 4) ∧ t.org ≠ 0) := by
    by_cases hm : t.mode = 5
    · left
      obtain ⟨k1, k2⟩ := o3 hm
      have h5 : ansB s.kind 5 = true := by rw [← hm]; exact o2
      have hl := h.la h5 k1
      have hd : dupB s t = true := by
        unfold dupB
        rw [k1, if_pos hm]
        simp only [Bool.true_and, decide_eq_true_eq]
        exact (sn_uu (by omega) hl).2 k2
      unfold vdI
      rw [o2, hd]
      rfl
    · obtain ⟨k1, k2, k3⟩ := o4 hm
      unfold vdI
      rw [o2]
      by_cases hd : dupB s t = true
      · left
        rw [hd]
        rfl
      · right
        refine ⟨?_, k1⟩
        rw [if_neg (by simp), if_neg hd]
        by_cases hr : s.req = 0
        · left; rw [if_pos ⟨hm, hr⟩]
        · right; rw [if_neg (fun h => hr h.2), if_pos ⟨hm, k3⟩]
  have ho : t.org ≠ 0 → opB s t true = false := fun h => by unfold opB; simp [h]
  refine ⟨by omega, ?_, ?_⟩
  · unfold hrP lrn
    rcases hv with e | ⟨e | e, k⟩
    · rw [e]; rfl
    · rw [e, ho k]; rfl
    · rw [e, ho k]; rfl
  · unfold hrS
    rw [if_neg (by omega)]
theorem RI.keep {X0 : Int} {A A' : Int → Bool} {s s' : Ps} {T : List Pk} (h : RI X0 A s T) (hk : s'.kind = s.kind) (ht : s'.taken = s.taken) (hl : s'.last = s.last) (hA : ∀ x, A x = true → A' x = true) (hr : s'.req = 0 ∨ s'.req = s.req ∨ (A' s'.req = true ∧ A s'.req = false)) : RI X0 A' s' T := by
  refine ⟨fun h0 => ?_, fun h1 h2 => ?_, fun t h0 => ?_⟩
  · rcases hr with e | e | e
    · exact absurd e h0
    · rw [e] at h0 ⊢; exact hA _ (h.rq h0)
    · exact e.1
  · rw [hl]; exact h.la (by rw [← hk]; exact h1) (by rw [← ht]; exact h2)
  · obtain ⟨o1, o2, o3, o4⟩ := h.ok t h0
    refine ⟨o1, by rw [hk]; exact o2, fun hm => by rw [ht, hl]; exact o3 hm, fun hm => ?_⟩
    obtain ⟨k1, k2, k3⟩ := o4 hm
    refine ⟨k1, hA _ k2, fun e => ?_⟩
    rcases hr with e2 | e2 | e2
    · rw [e2] at e; exact k1 e
    · rw [e2] at e; exact k3 e
    · rw [← e, k2] at e2; exact absurd e2.2 (by simp)
theorem RI.hear {X0 : Int} {A : Int → Bool} {s : Ps} {T : List Pk} (h : RI X0 A s T) (Q : Pk) (rec : Int) (au : Bool) (hQ : okP Q) (hw : Q.mode = 5 → uu X0 Q.xmt ≤ 4611686018427387904) : RI X0 A (hrP s Q rec au) (if vdI s Q au = 0 then T ++ [Q] else T) := by
  obtain ⟨V, hV⟩ : ∃ V, vdI s Q au = V := ⟨_, rfl⟩
  have key : V = 0 ∨ V = 6 → ansB s.kind Q.mode = true ∧ dupB s Q = false ∧ (Q.mode = 5 ∨ (s.req ≠ 0 ∧ Q.org = s.req)) := fun hv => by
    rw [← hV] at hv
    unfold vdI hdI at hv
    cases ha : ansB s.kind Q.mode
    · rw [ha] at hv; simp at hv
    · cases hd : dupB s Q
      · rw [ha, hd] at hv
        refine ⟨rfl, rfl, ?_⟩
        by_cases hm : Q.mode = 5
        · exact .inl hm
        · right
          by_cases hr : s.req = 0
          · simp [hm, hr] at hv
          · refine ⟨hr, ?_⟩
            by_cases ho : Q.org = s.req
            · exact ho
            · simp [hm, hr, ho] at hv
      · rw [ha, hd] at hv; simp at hv
  have fresh : V = 0 ∨ V = 6 → ∀ s' : Ps, s'.kind = s.kind → s'.taken = true → s'.last = Q.xmt → s'.req = 0 → RI X0 A s' T := fun hv s' e1 e2 e3 e4 => by
    obtain ⟨k1, k2, k3⟩ := key hv
    refine ⟨fun h0 => absurd e4 h0, fun h1 _ => ?_, fun t h0 => ?_⟩
    · rw [e1] at h1
      rw [e3]
      exact hw (ans5 h1 k1)
    · obtain ⟨o1, o2, o3, o4⟩ := h.ok t h0
      refine ⟨o1, by rw [e1]; exact o2, fun hm => ⟨e2, ?_⟩, fun hm => ?_⟩
      · have h5 : ansB s.kind 5 = true := by rw [← hm]; exact o2
        have hq5 := ans5 h5 k1
        obtain ⟨j1, j2⟩ := o3 hm
        have hl := h.la h5 j1
        have hd := k2
        unfold dupB at hd
        rw [j1, if_pos hq5] at hd
        simp only [Bool.true_and, decide_eq_false_iff_not] at hd
        have := mt (sn_uu (hw hq5) hl).2 hd
        rw [e3]
        omega
      · obtain ⟨j1, j2, j3⟩ := o4 hm
        exact ⟨j1, j2, by rw [e4]; exact j1⟩
  unfold hrP
  rw [hV]
  by_cases h0 : V = 0
  · subst h0
    rw [if_pos rfl]
    obtain ⟨k1, k2, k3⟩ := key (.inl rfl)
    have hf := fresh (.inl rfl) (lrn s 0 Q rec au) rfl rfl rfl rfl
    refine ⟨hf.rq, hf.la, fun t ht => ?_⟩
    rcases List.mem_append.1 ht with ht | ht
    · exact hf.ok t ht
    · obtain rfl := List.mem_singleton.1 ht
      refine ⟨hQ, k1, fun hm => ⟨rfl, Int.le_refl _⟩, fun hm => ?_⟩
      rcases k3 with k3 | ⟨k3, k4⟩
      · exact absurd k3 hm
      · exact ⟨by rw [k4]; exact k3, by rw [k4]; exact h.rq k3, by rw [k4]; exact k3⟩
  · rw [if_neg h0]
    unfold lrn
    split
    · exact h
    · split
      · split
        · exact h.keep rfl rfl rfl (fun _ h => h) (.inr (.inl rfl))
        · exact h
      · split
        · rename_i h6
          exact fresh (.inr h6) _ rfl rfl rfl rfl
        · exact h.keep rfl rfl rfl (fun _ h => h) (.inl rfl)
theorem RI.clear {X0 : Int} {A : Int → Bool} {s : Ps} {T : List Pk} (h : RI X0 A s T) : RI X0 A (clr s) T := h.keep rfl rfl rfl (fun _ h => h) (.inl rfl)
theorem RI.ask {X0 : Int} {A : Int → Bool} {s : Ps} {T : List Pk} (h : RI X0 A s T) (y : Sy) (t : Int) (ht : 1 < t) (hA : A t = false) : RI X0 (fun x => if x = t then true else A x) (rqS s y t) T := by
  have hmx : max t 1 = t := by omega
  have hAA : ∀ x, A x = true → (fun x => if x = t then true else A x) x = true := fun x hx => by simp only; split <;> simp [hx]
  unfold rqS
  split
  · exact h.keep rfl rfl rfl hAA (.inr (.inr ⟨by simp only; rw [hmx, if_pos rfl], by simp only; rw [hmx]; exact hA⟩))
  · exact h.keep rfl rfl rfl hAA (.inr (.inl rfl))
/-- which packet is taken by a step -/
def dsQ (z : Stp) (org : Int) : Pk := if z.k = 3 then { z.q with org := org } else z.q
def dsT (s : Ps) (z : Stp) (org : Int) (T : List Pk) : List Pk := if (z.k = 1 ∨ z.k = 3) ∧ dsV s z org = 0 then T ++ [dsQ z org] else T
theorem RI.step {X0 : Int} {A : Int → Bool} {s : Ps} {T : List Pk} (h : RI X0 A s T) (z : Stp) (org : Int) (hz : okX z) (ho : U64 org) (h0 : z.k ≠ 0) (hw : z.q.mode = 5 → uu X0 z.q.xmt ≤ 4611686018427387904) : RI X0 A (dsS s z org) (dsT s z org T) := by
  unfold dsS dsT dsV dsQ
  rw [if_neg h0, if_neg h0]
  by_cases h3 : z.k = 3
  · simp only [h3]
    have := h.hear { z.q with org := org } z.t z.a (hz.q.org' org ho) hw
    simpa using this
  · rw [if_neg h3, if_neg h3, if_neg h3]
    by_cases h1 : z.k = 1
    · have := h.hear z.q z.t z.a hz.q hw
      simpa [h1] using this
    · have hn : ¬ ((z.k = 1 ∨ z.k = 3) ∧ (if z.k = 1 then vdI s z.q z.a else 0) = 0) := fun e => by
        rcases e.1 with e | e
        · exact h1 e
        · exact h3 e
      rw [if_neg h1, if_neg hn]
      by_cases h2 : z.k = 2
      · rw [if_pos h2]; exact h.clear
      · rw [if_neg h2]; exact h
end Go.Proofs.Ytlggademcmkihaa
