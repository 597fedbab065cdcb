/- What Sample of a line does. -/
import Derived.Test.YtenlkadmniobdaaPG
namespace Go.Proofs.Ytenlkadmniobdaa
open Go.RowKit
/-- a sample as a value -/
def smV (o d : Int) (t : Int) : Value := .agg #[.int .i64 o, .int .i64 0, .int .i64 d, .int .u64 t]
theorem mdW_bd (xs : List Int) : -8589934592 ≤ Pu.mdW xs ∧ Pu.mdW xs ≤ 8589934592 := by
  by_cases h : xs = []
  · subst h; rw [mdW_nil]; omega
  · have hp := Pu.mid_pos h
    have h0 := Pu.mid_bd (Pu.getD_mem (Pu.mid xs) 0 hp.1)
    have h1 := Pu.mid_bd (Pu.getD_mem (Pu.mid xs) ((Pu.mid xs).length - 1) (by omega))
    unfold Pu.mdW
    omega
theorem shiftH (a : Int) (w : World) : Calls Try.prog 35 #[.int .i64 a, .int .i64 (-1)] w fun e w' => e = .returned (.int .i64 (a / 2)) ∧ w' = w := by
  have h := shift_any a (-1) w (by omega) (by omega)
  rw [show Fx.sh a (-1) = a / 2 from by unfold Fx.sh; rw [if_pos (by decide)]; rfl] at h
  exact h
theorem Lb.other {w : World} {p : Nat} {os : List Int} {n : Int} {tk : Bool} {la : Int} {re im : Nat} (h : Lb w p os n tk la re im) (a : Addr) (v : Value) (hne : ¬ p = a.block) : Lb (w.setCell a v) p os n tk la re im := ⟨h.1, (Below.heap_setCell w a v p hne).trans h.2⟩
theorem grownBy_new {w w1 : World} {r : Option Nat} (h : w.grownBy w1 r) (a : Addr) (ha : w.heap.size ≤ a.block) (v : Value) : w.grownBy (w1.setCell a v) r :=
  ⟨h.os, h.tape, h.output, by simp; exact h.size, fun k hk hr => (Below.heap_setCell w1 a v k (by omega)).trans (h.block k hk hr)⟩
set_option maxHeartbeats 1000000 in
theorem sample_few (p : Nat) (es : List Int) (tk : Bool) (la : Int) (re im : Nat) (t f : Int) (w : World) (h : Ln w p es tk la re im) (hn : es.length < 3) :
    Calls Try.prog 21 #[.pointer (some ⟨p, 0, none⟩), .int .u64 t, .int .i64 f] w fun e w' => e = .returned (.tuple #[smV 0 0 0, .bool false]) ∧ Below w.heap.size w w' := by
  obtain ⟨h1, os, h2, h3⟩ := h
  have hc := h3.n
  have hlt := h3.lt
  have hni : (es.length : Int) < 3 := by omega
  obtain ⟨n, hn2⟩ : ∃ n : Int, n = (es.length : Int) := ⟨_, rfl⟩
  rw [← hn2] at hc hni
  clear h1 h2 h3 hn hn2
  go_enter Try.func21, Try.ntmps21
  go_simp
  repeat (first | go_values | go_skip | go_guarded | go_step | go_upon)
  exact bodyPost_ret (v := .tuple #[smV 0 0 0, .bool false]) (by simp [results, Try.results21, go_sem, smV]) rfl ⟨rfl, (Below.refl _ _).alloc (Nat.le_refl _) _⟩
set_option maxHeartbeats 2000000 in
theorem sample_many (p : Nat) (es : List Int) (tk : Bool) (la : Int) (re im : Nat) (t f : Int) (w : World) (h : Ln w p es tk la re im) (hn : 3 ≤ es.length) (hf0 : -9223372036854775808 ≤ f) (hf1 : f ≤ 9223372036854775807) :
    Calls Try.prog 21 #[.pointer (some ⟨p, 0, none⟩), .int .u64 t, .int .i64 f] w fun e w' => e = .returned (.tuple #[smV (Fx.cl 4611686018427387904 (Pu.mdM es + f)) (Pu.mdW es / 2 + 4096) t, .bool true]) ∧ Ln w' p [] tk la re im ∧ w.grownBy w' (some p) := by
  obtain ⟨h1, os, h2, h3⟩ := h
  have hc := h3.n
  have hfz := h3.frozen
  have hlt := h3.lt
  have hM := Pu.mdM_bd es
  have hW := mdW_bd es
  obtain ⟨M, hMe⟩ : ∃ M, M = Pu.mdM es := ⟨_, rfl⟩
  obtain ⟨D, hDe⟩ : ∃ D, D = Pu.mdW es := ⟨_, rfl⟩
  have hmed : ∀ u, Below w.heap.size w u → Calls Try.prog 12 #[.slice (some ⟨p, 0, none⟩) es.length 16] u fun e w' => e = .returned (.tuple #[.int .i64 M, .int .i64 D]) ∧ Below u.heap.size u w' := fun u hu => by
    have hL := h3.below hu hlt
    have hr := hL.ra es.length
    rw [h2] at hr
    rw [hMe, hDe]
    exact median_at ⟨p, 0, none⟩ es es.length 16 u rfl (by omega) h1 hr hL.lt
  rw [← hMe] at hM ⊢
  rw [← hDe] at hW ⊢
  have hsl := fun u => sub_at p es.length u h1
  have hni : ¬ (es.length : Int) < 3 := by omega
  obtain ⟨n, hn2⟩ : ∃ n : Nat, n = es.length := ⟨_, rfl⟩
  rw [← hn2] at hc hni hsl hmed
  have HM : Hid _ := hmed
  have HL : Hid (Lb w p os n tk la re im) := by rw [hn2]; exact h3
  have hpw : (p == w.heap.size) = false := by simp; omega
  have hpw' : ¬ (p = w.heap.size) := by omega
  have hpw2 : ¬ (w.heap.size = p) := by omega
  clear h1 h2 h3 hn hn2 hmed hMe hDe
  go_enter Try.func21, Try.ntmps21
  go_simp
  repeat (first | go_values | go_skip | go_guarded | go_step | go_upon)
  go_region_with (go_at_call 12; refine (HM.out _ (by repeat' (first | with_reducible exact Below.refl _ _ | with_reducible refine Below.setCell ?_ (by first | (simp; done) | (simp; omega) | omega) _ | with_reducible refine below_drewN ?_ _ | with_reducible refine Below.drew ?_ | with_reducible refine Below.alloc ?_ (by first | (simp; done) | (simp; omega) | omega) _))).mono ?_; rintro e w1 ⟨rfl, hb1⟩)
  obtain ⟨hcl, hfr⟩ := bcell hb1
  have hz : w.heap.size + 1 ≤ w1.heap.size := by have := hb1.size; simp at this; omega
  have HL1 : Hid (Lb w1 p os n tk la re im ∧ Below w.heap.size w w1) := by
    have hB : Below w.heap.size w w1 := (((Below.refl _ w).alloc (Nat.le_refl _) _).drew).trans (hb1.mono (by simp))
    exact ⟨HL.out.below hB hlt, hB⟩
  have r0 : w1.cell? ⟨w.heap.size, 0, none⟩ = some (.int .i64 0) := by rw [hcl _ _ (by simp)]; simp
  have r1 : w1.cell? ⟨w.heap.size, 1, none⟩ = some (.int .i64 0) := by rw [hcl _ _ (by simp)]; simp
  have r2 : w1.cell? ⟨w.heap.size, 2, none⟩ = some (.int .i64 0) := by rw [hcl _ _ (by simp)]; simp
  have r3 : w1.cell? ⟨w.heap.size, 3, none⟩ = some (.int .u64 0) := by rw [hcl _ _ (by simp)]; simp
  have rf : ∀ o, w1.frozen? ⟨w.heap.size, o, none⟩ = false := fun o => by rw [hfr _ _ (by simp)]; simp
  have r4 : w1.cell? ⟨p, 16, none⟩ = some (.int .i64 n) := HL1.out.1.n
  have rf4 : ∀ o, w1.frozen? ⟨p, o, none⟩ = false := HL1.out.1.frozen
  clear hcl hfr hb1 hc hfz hsl HM
  go_wp2_with fail
  refine (add_any _ _ _ (by omega) (by omega) (by omega) (by omega)).mono ?_
  rintro e w2 ⟨rfl, hw⟩
  rw [hw]
  clear hw
  go_wp2_with fail
  refine (shiftH _ _).mono ?_
  rintro e w2 ⟨rfl, hw⟩
  rw [hw]
  clear hw
  simp only []
  repeat (first | go_values | go_skip | go_guarded | go_step | go_upon)
  refine bodyPost_ret (v := .tuple #[smV (Fx.cl 4611686018427387904 (M + f)) (D / 2 + 4096) t, .bool true]) (by simp [results, Try.results21, go_sem, smV, r0, r1, r2, r3]) rfl ⟨rfl, ⟨by simp, os, rfl, ?_⟩, ?_⟩
  · exact ((((HL1.out.1.setN 0).other ⟨w.heap.size, 0, none⟩ _ hpw').other ⟨w.heap.size, 1, none⟩ _ hpw').other ⟨w.heap.size, 2, none⟩ _ hpw').other ⟨w.heap.size, 3, none⟩ _ hpw'
  · exact grownBy_new (grownBy_new (grownBy_new (grownBy_new (grownBy_trans (grownBy_below HL1.out.2 _) (grownBy_set w1 ⟨p, 16, none⟩ _)) ⟨w.heap.size, 0, none⟩ (Nat.le_refl _) _) ⟨w.heap.size, 1, none⟩ (Nat.le_refl _) _) ⟨w.heap.size, 2, none⟩ (Nat.le_refl _) _) ⟨w.heap.size, 3, none⟩ (Nat.le_refl _) _
end Go.Proofs.Ytenlkadmniobdaa
