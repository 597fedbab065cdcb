/- What Edge, New and Sample of a line do. -/
import Derived.Test.YtenlkadmniobdaaPF
namespace Go.Proofs.Ytenlkadmniobdaa
open Go.RowKit
/-- whether an edge is taken -/
def tkB (es : List Int) (tk : Bool) (la t : Int) : Bool := !((tk && decide (pl t (ofs t) = la)) || farB es (ofs t))
theorem farI {p : Nat} {es : List Int} {tk : Bool} {la : Int} {re im : Nat} {o : Int} {w : World} (h : Ln w p es tk la re im) (ho : -2147483648 ≤ o ∧ o < 2147483648) :
    Calls Try.prog 31 #[.pointer (some ⟨p, 0, none⟩), .int .i64 o] w fun e w' => e = .returned (.bool (farB es o)) ∧ Below w.heap.size w w' := by
  obtain ⟨h1, os, h2, h3⟩ := h
  have := isFar_any p os es.length tk la re im o w h3 h1 ho.1 ho.2
  rw [h2] at this
  exact this
theorem Ln.tk {w : World} {p : Nat} {es : List Int} {tk : Bool} {la : Int} {re im : Nat} (h : Ln w p es tk la re im) : w.cell? ⟨p, 17, none⟩ = some (.bool tk) := by obtain ⟨_, os, _, h⟩ := h; exact h.tk
theorem Ln.la {w : World} {p : Nat} {es : List Int} {tk : Bool} {la : Int} {re im : Nat} (h : Ln w p es tk la re im) : w.cell? ⟨p, 18, none⟩ = some (.int .u64 la) := by obtain ⟨_, os, _, h⟩ := h; exact h.la
theorem Ln.ph {w : World} {p : Nat} {es : List Int} {tk : Bool} {la : Int} {re im : Nat} (h : Ln w p es tk la re im) : w.cell? ⟨p, 19, none⟩ = some (.complex .f64 re im) := by obtain ⟨_, os, _, h⟩ := h; exact h.ph
theorem Ln.frozen {w : World} {p : Nat} {es : List Int} {tk : Bool} {la : Int} {re im : Nat} (h : Ln w p es tk la re im) (k : Nat) : w.frozen? ⟨p, k, none⟩ = false := by obtain ⟨_, os, _, h⟩ := h; exact h.frozen k
theorem Ln.done {w : World} {p : Nat} {es : List Int} {tk : Bool} {la : Int} {re im : Nat} (h : Ln w p es tk la re im) (l : Int) (a b : Nat) :
    Ln (((w.setCell ⟨p, 17, none⟩ (.bool true)).setCell ⟨p, 18, none⟩ (.int .u64 l)).setCell ⟨p, 19, none⟩ (.complex .f64 a b)) p es true l a b ∧ w.grownBy (((w.setCell ⟨p, 17, none⟩ (.bool true)).setCell ⟨p, 18, none⟩ (.int .u64 l)).setCell ⟨p, 19, none⟩ (.complex .f64 a b)) (some p) := by
  obtain ⟨h1, os, h2, h3⟩ := h
  exact ⟨⟨h1, os, h2, ((h3.setT true).setL l).setP a b⟩, grownBy_trans (grownBy_trans (grownBy_set w ⟨p, 17, none⟩ _) (grownBy_set _ ⟨p, 18, none⟩ _)) (grownBy_set _ ⟨p, 19, none⟩ _)⟩
theorem store_c (u : World) (a : Addr) (x : Value) (re im : Nat) (hc : u.cell? a = some x) (hf : u.frozen? a = false) : (store a (.complex .f64 re im)).run Try.prog u = .ok () (u.setCell a (.complex .f64 re im)) := by
  rw [run_store Try.prog u _ _ _ (by rfl), hc]
  simp [hf]
theorem store_p (w : World) (p : Nat) (m : Int) (re im : Nat) (x : Value) (hc : w.cell? ⟨p, 19, none⟩ = some x) (hf : ∀ k, w.frozen? ⟨p, k, none⟩ = false) :
    (store ⟨p, 19, none⟩ (.complex .f64 re im)).run Try.prog ((w.setCell ⟨p, 17, none⟩ (.bool true)).setCell ⟨p, 18, none⟩ (.int .u64 m)) = .ok () (((w.setCell ⟨p, 17, none⟩ (.bool true)).setCell ⟨p, 18, none⟩ (.int .u64 m)).setCell ⟨p, 19, none⟩ (.complex .f64 re im)) :=
  store_c _ _ x re im (by rw [World.cell?_setCell_other, World.cell?_setCell_other, hc] <;> simp) (by rw [World.frozen?_setCell, World.frozen?_setCell]; exact hf 19)
set_option maxHeartbeats 1000000 in
theorem edge_same (p : Nat) (es : List Int) (la t : Int) (re im : Nat) (w : World) (h : Ln w p es true la re im) (hla : pl t (ofs t) = la) :
    Calls Try.prog 19 #[.pointer (some ⟨p, 0, none⟩), .int .u64 t] w fun e w' => e = .returned (.bool false) ∧ w' = w := by
  subst hla
  have h1 := h.tk
  have h2 := h.la
  clear h
  obtain ⟨o, ho⟩ : ∃ o, o = ofs t := ⟨_, rfl⟩
  have hof : ∀ u, Calls Try.prog 10 #[.int .u64 t] u fun e w' => e = .returned (.int .i64 o) ∧ w' = u := fun u => by rw [ho]; exact offset_any t u
  obtain ⟨m, hm⟩ : ∃ m, m = pl t o := ⟨_, rfl⟩
  have hpl : ∀ u, Calls Try.prog 30 #[.int .u64 t, .int .i64 o] u fun e w' => e = .returned (.int .u64 m) ∧ w' = u := fun u => by rw [hm]; exact plusS_any t o u
  rw [← ho, ← hm] at h2
  have HO : Hid _ := hof
  have HP : Hid _ := hpl
  clear hof hpl ho hm
  go_enter Try.func19, Try.ntmps19
  go_wp2_with (first | (go_at_call 10; refine (HO.out _).mono ?_; rintro e w' ⟨rfl, rfl⟩) | (go_at_call 30; refine (HP.out _).mono ?_; rintro e w' ⟨rfl, rfl⟩))
  go_ret
  exact ⟨rfl, rfl⟩
set_option maxHeartbeats 1000000 in
theorem edge_far (p : Nat) (es : List Int) (tk : Bool) (la t : Int) (re im : Nat) (w : World) (h : Ln w p es tk la re im) (hla : tk = false ∨ pl t (ofs t) ≠ la) (hf : farB es (ofs t) = true) :
    Calls Try.prog 19 #[.pointer (some ⟨p, 0, none⟩), .int .u64 t] w fun e w' => e = .returned (.bool false) ∧ Below w.heap.size w w' := by
  have h1 := h.tk
  have h2 := h.la
  have hfar := fun u (hu : Below w.heap.size w u) => farI (h.below hu h.lt) (ofs_bd t)
  rw [hf] at hfar
  clear h hf
  obtain ⟨o, ho⟩ : ∃ o, o = ofs t := ⟨_, rfl⟩
  have hof : ∀ u, Calls Try.prog 10 #[.int .u64 t] u fun e w' => e = .returned (.int .i64 o) ∧ w' = u := fun u => by rw [ho]; exact offset_any t u
  obtain ⟨m, hm⟩ : ∃ m, m = pl t o := ⟨_, rfl⟩
  have hpl : ∀ u, Calls Try.prog 30 #[.int .u64 t, .int .i64 o] u fun e w' => e = .returned (.int .u64 m) ∧ w' = u := fun u => by rw [hm]; exact plusS_any t o u
  rw [← ho, ← hm] at hla
  rw [← ho] at hfar
  have HO : Hid _ := hof
  have HP : Hid _ := hpl
  have HF : Hid _ := hfar
  clear hof hpl ho hm hfar
  have fin : ∀ b : Bool, (tk && (m == la)) = b → b = false := fun b hb => by
    rcases hla with rfl | hne
    · rw [← hb]; rfl
    · rw [← hb, Bool.and_eq_false_iff]; right; simpa using hne
  rcases tk with _ | _
  all_goals
    try (have hne : ¬ (m = la) := by rcases hla with hla | hla; (cases hla); exact hla)
    clear hla fin
    go_enter Try.func19, Try.ntmps19
    go_wp2_with (first | (go_at_call 10; refine (HO.out _).mono ?_; rintro e w' ⟨rfl, rfl⟩) | (go_at_call 30; refine (HP.out _).mono ?_; rintro e w' ⟨rfl, rfl⟩) | (go_at_call 31; refine (HF.out _ (Below.refl _ _)).mono ?_; rintro e w1 ⟨rfl, hb1⟩))
    go_ret
    exact ⟨rfl, by assumption⟩
set_option maxHeartbeats 1000000 in
theorem edge_takes (p : Nat) (es : List Int) (tk : Bool) (la t : Int) (re im : Nat) (w : World) (h : Ln w p es tk la re im) (hla : tk = false ∨ pl t (ofs t) ≠ la) (hf : farB es (ofs t) = false) :
    Calls Try.prog 19 #[.pointer (some ⟨p, 0, none⟩), .int .u64 t] w fun e w' => e = .returned (.bool true) ∧ Ln w' p (kp es (ofs t)) true (pl t (ofs t)) (tnR re im 1) (tnI re im 1) ∧ w.grownBy w' (some p) := by
  have h1 := h.tk
  have h2 := h.la
  have hfar := fun u (hu : Below w.heap.size w u) => farI (h.below hu h.lt) (ofs_bd t)
  rw [hf] at hfar
  have HL : Hid (Ln w p es tk la re im) := h
  clear hf h
  obtain ⟨o, ho⟩ : ∃ o, o = ofs t := ⟨_, rfl⟩
  have hof : ∀ u, Calls Try.prog 10 #[.int .u64 t] u fun e w' => e = .returned (.int .i64 o) ∧ w' = u := fun u => by rw [ho]; exact offset_any t u
  obtain ⟨m, hm⟩ : ∃ m, m = pl t o := ⟨_, rfl⟩
  have hpl : ∀ u, Calls Try.prog 30 #[.int .u64 t, .int .i64 o] u fun e w' => e = .returned (.int .u64 m) ∧ w' = u := fun u => by rw [hm]; exact plusS_any t o u
  rw [← ho, ← hm] at hla ⊢
  rw [← ho] at hfar
  have HO : Hid _ := hof
  have HP : Hid _ := hpl
  have HF : Hid _ := hfar
  clear hof hpl ho hm hfar
  rcases tk with _ | _
  all_goals
    try (have hne : ¬ (m = la) := by rcases hla with hla | hla; (cases hla); exact hla)
    clear hla
    go_enter Try.func19, Try.ntmps19
    go_wp2_with (first | (go_at_call 10; refine (HO.out _).mono ?_; rintro e w' ⟨rfl, rfl⟩) | (go_at_call 30; refine (HP.out _).mono ?_; rintro e w' ⟨rfl, rfl⟩) | (go_at_call 31; refine (HF.out _ (Below.refl _ _)).mono ?_; rintro e w1 ⟨rfl, hb1⟩) | (go_at_call 32; refine (keep_any p es _ la re im _ _ (HL.out.below (by assumption) HL.out.lt)).mono ?_; rintro e w2 ⟨rfl, hL2, hg2⟩; have q1 := hL2.tk; have q2 := hL2.la; have q3 := hL2.ph; have q4 := hL2.frozen; have q5 := store_p w2 p m (tnR re im 1) (tnI re im 1) _ q3 q4) | (go_at_call 14; refine (turn_any _ _ _ _).mono ?_; rintro e w' ⟨rfl, rfl⟩))
    go_ret
    exact ⟨rfl, (hL2.done m _ _).1, grownBy_trans (grownBy_below hb1 _) (grownBy_trans hg2 (hL2.done m _ _).2)⟩
/-- what an edge makes of a line's edges, and of what else it knows -/
def egE (es : List Int) (tk : Bool) (la t : Int) : List Int := if tkB es tk la t then kp es (ofs t) else es
def egL (es : List Int) (tk : Bool) (la t : Int) : Int := if tkB es tk la t then pl t (ofs t) else la
theorem edge_any (p : Nat) (es : List Int) (tk : Bool) (la t : Int) (re im : Nat) (w : World) (h : Ln w p es tk la re im) :
    Calls Try.prog 19 #[.pointer (some ⟨p, 0, none⟩), .int .u64 t] w fun e w' => e = .returned (.bool (tkB es tk la t)) ∧ Ln w' p (egE es tk la t) (tk || tkB es tk la t) (egL es tk la t) (if tkB es tk la t then tnR re im 1 else re) (if tkB es tk la t then tnI re im 1 else im) ∧ w.grownBy w' (some p) := by
  by_cases h1 : tk = true ∧ pl t (ofs t) = la
  · obtain ⟨rfl, h1⟩ := h1
    have e : tkB es true la t = false := by unfold tkB; rw [decide_eq_true h1]; rfl
    unfold egE egL
    rw [e]
    refine (edge_same p es la t re im w h h1).mono ?_
    rintro e w' ⟨rfl, rfl⟩
    exact ⟨rfl, h, ⟨rfl, rfl, rfl, Nat.le_refl _, fun _ _ _ => rfl⟩⟩
  · have h2 : tk = false ∨ pl t (ofs t) ≠ la := by
      rcases tk with _ | _
      · exact .inl rfl
      · exact .inr (fun e => h1 ⟨rfl, e⟩)
    have e0 : (tk && decide (pl t (ofs t) = la)) = false := by
      rcases h2 with rfl | h2
      · rfl
      · rw [decide_eq_false h2, Bool.and_false]
    unfold egE egL
    rcases hf : farB es (ofs t) with _ | _
    · have e : tkB es tk la t = true := by unfold tkB; rw [e0, hf]; rfl
      rw [e, Bool.or_true]
      exact edge_takes p es tk la t re im w h h2 hf
    · have e : tkB es tk la t = false := by unfold tkB; rw [e0, hf]; rfl
      rw [e, Bool.or_false]
      refine (edge_far p es tk la t re im w h h2 hf).mono ?_
      rintro e w' ⟨rfl, hb⟩
      exact ⟨rfl, h.below hb h.lt, grownBy_below hb _⟩
set_option maxHeartbeats 400000 in
theorem new_any (w : World) :
    Calls Try.prog 17 #[] w fun e w' => e = .returned (.pointer (some ⟨w.heap.size, 0, none⟩)) ∧ Ln w' w.heap.size [] false 0 4607182418800017408 0 ∧ Below w.heap.size w w' ∧ w'.heap.size = w.heap.size + 1 := by
  go_enter Try.func17, Try.ntmps17
  go_wp2
  go_ret
  refine ⟨rfl, ⟨by simp, List.replicate 16 0, rfl, by simp, alloc_new _ _⟩, (Below.refl _ _).alloc (Nat.le_refl _) _, by simp⟩
end Go.Proofs.Ytenlkadmniobdaa
