/- What New, Len, Phase and Edge of the reference's line do. -/
import Derived.Test.YtenlkadmniobdaaPV
namespace Go.Proofs.Ytenlkadmniobdaa
open Go.RowKit
set_option maxHeartbeats 400000 in
theorem rnew_any (w : World) :
    Calls Try.prog 18 #[] w fun e w' => e = .returned (.pointer (some ⟨w.heap.size, 0, none⟩)) ∧ Rl w' w.heap.size (w.heap.size + 1) none [] 0 0 ∧ Below w.heap.size w w' ∧ w'.heap.size = w.heap.size + 1 := by
  go_enter Try.func18, Try.ntmps18
  go_wp2
  go_ret
  exact ⟨rfl, ⟨by omega, by simp, by simp, _, alloc_new _ _, Eg.nil _ _⟩, (Below.refl _ _).alloc (Nat.le_refl _) _, by simp⟩
theorem Eg.len {w : World} {B : Nat} {bo : Option Nat} {ev : Value} {es : List Int} (h : Eg w B bo ev es) : ∀ u, (Builtin.len_ #[28] 3 #[ev]).run Try.prog u = .ok (.int .i64 (es.length : Int)) u := by
  obtain ⟨ao, cap, rfl, _⟩ := h.sl
  exact fun u => len_run ao _ cap u
set_option maxHeartbeats 400000 in
theorem rlen_any {w : World} {q B : Nat} {bo : Option Nat} {es : List Int} {m la : Int} (h : Rl w q B bo es m la) :
    Calls Try.prog 25 #[.pointer (some ⟨q, 0, none⟩)] w fun e w' => e = .returned (.int .i64 es.length) ∧ w' = w := by
  obtain ⟨_, _, _, ev, h4, h5⟩ := h
  obtain ⟨c0, _⟩ := Rl.cells h4
  have hl := h5.len
  clear h4 h5
  go_enter Try.func25, Try.ntmps25
  go_wp2
  go_ret
  exact ⟨rfl, rfl⟩
set_option maxHeartbeats 400000 in
theorem rphase_any {w : World} {q B : Nat} {bo : Option Nat} {es : List Int} {m la : Int} (h : Rl w q B bo es m la) :
    Calls Try.prog 23 #[.pointer (some ⟨q, 0, none⟩)] w fun e w' => e = .returned (.tuple #[.float .f64 (tnR 4607182418800017408 0 m), .float .f64 (tnI 4607182418800017408 0 m)]) ∧ w' = w := by
  obtain ⟨_, _, _, ev, h4, h5⟩ := h
  obtain ⟨_, c1, _⟩ := Rl.cells h4
  clear h4 h5
  go_enter Try.func23, Try.ntmps23
  go_wp2_with (go_at_call 15; refine (rturn_any _ _ _ _).mono ?_; rintro e w' ⟨rfl, rfl⟩)
  go_ret2
  exact ⟨rfl, rfl⟩
set_option maxHeartbeats 1000000 in
theorem redge_same {w : World} {q B : Nat} {bo : Option Nat} {es : List Int} {m la : Int} (t : Int) (h : Rl w q B bo es m la) (hm : 0 < m) (hla : pl t (ofs t) = la) :
    Calls Try.prog 20 #[.pointer (some ⟨q, 0, none⟩), .int .u64 t] w fun e w' => e = .returned (.bool false) ∧ w' = w := by
  subst hla
  obtain ⟨_, _, _, ev, h4, _⟩ := h
  obtain ⟨c0, c1, c2, cf⟩ := Rl.cells h4
  clear h4
  obtain ⟨o, ho⟩ : ∃ o, o = ofs t := ⟨_, rfl⟩
  have hof : ∀ u, Calls Try.prog 11 #[.int .u64 t] u fun e w' => e = .returned (.int .i64 o) ∧ w' = u := fun u => by rw [ho]; exact roffset_any t u
  obtain ⟨l, hl⟩ : ∃ l, l = pl t o := ⟨_, rfl⟩
  have hpl : ∀ u, Calls Try.prog 33 #[.int .u64 t, .int .i64 o] u fun e w' => e = .returned (.int .u64 l) ∧ w' = u := fun u => by rw [hl]; exact rplusS_any t o u
  rw [← ho, ← hl] at c2
  have HO : Hid _ := hof
  have HP : Hid _ := hpl
  clear hof hpl ho hl
  go_enter Try.func20, Try.ntmps20
  go_wp2_with (first | (go_at_call 11; refine (HO.out _).mono ?_; rintro e w' ⟨rfl, rfl⟩) | (go_at_call 33; refine (HP.out _).mono ?_; rintro e w' ⟨rfl, rfl⟩))
  go_ret
  exact ⟨rfl, rfl⟩
set_option maxHeartbeats 2000000 in
theorem redge_far {w : World} {q B : Nat} {bo : Option Nat} {es : List Int} {m la : Int} (t : Int) (h : Rl w q B bo es m la) (hla : m ≤ 0 ∨ pl t (ofs t) ≠ la) (hf : farB es (ofs t) = true) :
    Calls Try.prog 20 #[.pointer (some ⟨q, 0, none⟩), .int .u64 t] w fun e w' => e = .returned (.bool false) ∧ Below w.heap.size w w' := by
  obtain ⟨_, _, h3, ev, h4, h5⟩ := h
  obtain ⟨c0, c1, c2, cf⟩ := Rl.cells h4
  have hlen := h5.len
  have hM := Pu.mdM_bd es
  have hob := ofs_bd t
  unfold farB at hf
  have hf := of_decide_eq_true hf
  obtain ⟨M, hMe⟩ : ∃ M, M = Pu.mdM es := ⟨_, rfl⟩
  have hmed : Calls Try.prog 13 #[ev] w fun e w' => e = .returned (.tuple #[.int .i64 M, .int .i64 (Pu.mdW es)]) ∧ Below w.heap.size w w' := by rw [hMe]; exact rmedian_any ev es _ w h5.sl (Nat.le_refl _) (by omega)
  rw [← hMe] at hM hf
  clear h4 h5
  obtain ⟨o, ho⟩ : ∃ o, o = ofs t := ⟨_, rfl⟩
  have hof : ∀ u, Calls Try.prog 11 #[.int .u64 t] u fun e w' => e = .returned (.int .i64 o) ∧ w' = u := fun u => by rw [ho]; exact roffset_any t u
  obtain ⟨l, hl⟩ : ∃ l, l = pl t o := ⟨_, rfl⟩
  have hpl : ∀ u, Calls Try.prog 33 #[.int .u64 t, .int .i64 o] u fun e w' => e = .returned (.int .u64 l) ∧ w' = u := fun u => by rw [hl]; exact rplusS_any t o u
  rw [← ho, ← hl] at hla
  rw [← ho] at hf hob
  obtain ⟨n, hn⟩ : ∃ n : Int, n = (es.length : Int) := ⟨_, rfl⟩
  rw [← hn] at hlen
  have n3 : 3 ≤ n := by omega
  have hd : 8388608 < o - M ∨ 8388608 < M - o := by omega
  have HO : Hid _ := hof
  have HP : Hid _ := hpl
  have HM : Hid _ := hmed
  clear hof hpl ho hl hn h3 hf hmed hMe
  have g1 : decide (0 < m) = false ∨ ¬ l = la := by rcases hla with h | h; (exact .inl (by simp; omega)); exact .inr h
  clear hla
  by_cases hm0 : 0 < m
  · have hne : ¬ l = la := by rcases g1 with h | h; (simp at h; omega); exact h
    clear g1
    by_cases hd1 : 8388608 < o - M
    all_goals
      go_enter Try.func20, Try.ntmps20
      go_wp2_with (first | (go_at_call 11; refine (HO.out _).mono ?_; rintro e w' ⟨rfl, rfl⟩) | (go_at_call 33; refine (HP.out _).mono ?_; rintro e w' ⟨rfl, rfl⟩) | (go_at_call 13; refine Calls.mono HM.out ?_; rintro e w1 ⟨rfl, hb1⟩))
      go_ret
      exact ⟨rfl, by assumption⟩
  · clear g1
    by_cases hd1 : 8388608 < o - M
    all_goals
      go_enter Try.func20, Try.ntmps20
      go_wp2_with (first | (go_at_call 11; refine (HO.out _).mono ?_; rintro e w' ⟨rfl, rfl⟩) | (go_at_call 33; refine (HP.out _).mono ?_; rintro e w' ⟨rfl, rfl⟩) | (go_at_call 13; refine Calls.mono HM.out ?_; rintro e w1 ⟨rfl, hb1⟩))
      go_ret
      exact ⟨rfl, by assumption⟩
end Go.Proofs.Ytenlkadmniobdaa
