/- What Abs and Clamp of the reference return, and Abs of package fixed. -/
import Derived.Test.YtdmaaigchfgmdaaBigJ
import Derived.Test.YtdmaaigchfgmdaaFixA
import Derived.WalkKit
import Derived.WalkSpells
import Derived.WalkLawsBesides
import Derived.Handy
import Derived.Deep.RegionHeld3
namespace Go.Proofs.Ytdmaaigchfgmdaa
open Go.RowKit
theorem one_size {w w1 : World} {x : Obj} {n : Nat} (h : Below (w.alloc x).heap.size ((w.alloc x).drewN n) w1) : w.heap.size + 1 ≤ w1.heap.size := by
  have h1 := h.size
  have h2 : ((w.alloc x).drewN n).heap.size = w.heap.size + 1 := by simp [World.drewN]
  omega
theorem one_free {w w1 : World} {x0 x1 : Value} {t : TypeId} {n : Nat} (h : Below (w.alloc (.cells #[x0, x1] t)).heap.size ((w.alloc (.cells #[x0, x1] t)).drewN n) w1) : w1.frozen? ⟨w.heap.size, 0, none⟩ = false := by
  have b0 : w1.heap[w.heap.size]? = some (.cells #[x0, x1] t (0, 0)) := (h.block _ (by simp)).trans (heap_alloc_new w (.cells #[x0, x1] t))
  exact (two_cells b0).2.2.1
theorem cl_cl (m a : Int) (h : 0 ≤ m) : Fx.cl 4611686018427387904 (Fx.cl m a) = Fx.cl (min m 4611686018427387904) a := by unfold Fx.cl; omega
set_option maxRecDepth 20000 in
set_option maxHeartbeats 2000000 in
theorem rclamp_any (a b : Int) (w : World) (ha0 : -9223372036854775808 ≤ a) (ha1 : a ≤ 9223372036854775807) (hb1 : b ≤ 9223372036854775807) :
    Calls Try.prog 31 #[.int .i64 a, .int .i64 b] w fun e w' => e = .returned (.int .i64 (if b < 0 then 0 else Fx.cl (min b 4611686018427387904) a)) ∧ Below w.heap.size w w' := by
  by_cases hb : b < 0
  · go_enter Try.func31, Try.ntmps31
    go_wp2
    go_ret
    exact ⟨by first | rfl | rw [if_pos hb], Below.refl _ _⟩
  · rw [if_neg hb]
    obtain ⟨res, hres⟩ : ∃ res, res = Fx.cl (min b 4611686018427387904) a := ⟨_, rfl⟩
    rw [← hres]
    have HR : Hid (res = Fx.cl (min b 4611686018427387904) a) := hres
    have hfd := field_run
    clear hres
    go_enter Try.func31, Try.ntmps31
    go_wp2_with fail
    refine (s_any a _ ha0 ha1).mono ?_
    rintro e w1 ⟨v1, rfl, ⟨o, ds, c, m, rfl, t1, t2, t3, t4, t5⟩, k1⟩
    have F : Hid (ds.length ≤ c ∧ Rd w1 o ds ∧ Bg.can ds ∧ a = sgn m (Bg.val ds) ∧ Below w.heap.size w w1) := ⟨t1, t2, t3, t4, k1⟩
    have hl : (ds.length : Int) ≤ 1000 := by have := sm_len t3 t4 (Sm.word ha0 ha1); omega
    clear t1 t2 t3 t4 t5 k1
    go_wp2
    go_region_held3 (fun w' => w'.cell? ⟨w1.heap.size, 0, none⟩ = some (.slice o ds.length c) ∧ w'.cell? ⟨w1.heap.size, 1, none⟩ = some (.bool m)) (first | exact ⟨e0, e1⟩ | go_keep) (first | (go_at_call 51; refine (s_any b _ (by omega) hb1).mono ?_; rintro e w2 ⟨v, rfl, ⟨p, es, c2, m2, rfl, t1, t2, t3, t4, t5⟩, t6⟩; obtain ⟨e0, e1⟩ := one_block (n := 1) t6; have FF : Hid (es.length ≤ c2 ∧ Rd w2 p es ∧ Bg.can es ∧ b = sgn m2 (Bg.val es)) := ⟨t1, t2, t3, t4⟩; have hl2 : (es.length : Int) ≤ 1000 := sgn_len t3 t4 (by omega) hb1; have RD : Hid (Rd w2 o ds ∧ Below w1.heap.size w1 w2) := ⟨F.out.2.1.below (one_below (n := 1) t6) (Nat.le_refl _), one_below (n := 1) t6⟩; have hw2 := one_size (n := 1) t6; have e2 := one_free (n := 1) t6; clear t1 t2 t3 t4 t5 t6) | (go_at_call 52; refine (compare_any o p ds es c c2 w2 (by omega) (by omega) RD.out.1 FF.out.2.1 F.out.2.2.1 FF.out.2.2.1).mono ?_; rintro e w3 ⟨r, rfl, hr, n, rfl⟩))
    have hbv : b = ((Bg.val es : Nat) : Int) := by
      have h4 := FF.out.2.2.2
      cases m2 <;> simp [sgn] at h4 <;> omega
    have CM : Hid ((0 < r → b < ((Bg.val ds : Nat) : Int)) ∧ (¬ 0 < r → ((Bg.val ds : Nat) : Int) ≤ b)) := ⟨fun _ => by omega, fun _ => by omega⟩
    clear hr hbv
    by_cases hr0 : 0 < r
    · have hgt : Hid (b < ((Bg.val ds : Nat) : Int)) := CM.out.1 hr0
      go_wp2_with fail
      refine (s_any b _ (by omega) hb1).mono ?_
      rintro e w4 ⟨v4, rfl, ⟨q, fs, c4, m4, rfl, t1, t2, t3, t4, t5⟩, k4⟩
      have BB : Below w2.heap.size w2 w4 := ⟨k4.os, k4.tape, k4.output, k4.size, k4.block⟩
      have f0 := cells_kept BB (by omega) e0
      have f1 := cells_kept BB (by omega) e1
      have f2 := free_kept BB (by omega) e2
      have N4 : New (w1.heap.size + 1) q c4 := t5.mono hw2
      have hne : ∀ ad, q = some ad → ad.block ≠ w1.heap.size := fun ad e => by have := N4.2 ad e; omega
      have hl4 : (fs.length : Int) ≤ 1000 := sgn_len t3 t4 (by omega) hb1
      have hfv : b = ((Bg.val fs : Nat) : Int) := by cases m4 <;> simp [sgn] at t4 <;> omega
      have G : Hid (Rd (w4.setCell ⟨w1.heap.size, 0, none⟩ (.slice q fs.length c4)) q fs ∧ Bg.can fs ∧ Fx.cl 4611686018427387904 (sgn m (Bg.val fs)) = res ∧ Below w.heap.size w (w4.setCell ⟨w1.heap.size, 0, none⟩ (.slice q fs.length c4))) := by
        refine ⟨t2.store hne _, t3, ?_, ?_⟩
        · rw [HR.out, ← cl_cl b a hb]
          have ha := F.out.2.2.2.1
          have hg := hgt.out
          congr 1
          rw [ha]
          cases m
          · rw [Fx.cl_up hb (by simp [sgn]; omega)]; simp [sgn]; omega
          · rw [Fx.cl_dn hb (by simp [sgn]; omega)]; simp [sgn]; omega
        · have h1 : Below w.heap.size w w4 := Below.then (Below.then F.out.2.2.2.2 RD.out.2) BB
          exact h1.setCell F.out.2.2.2.2.size _
      clear t1 t2 t3 t4 t5 k4 BB N4 hne hfv e0 e1 e2
      go_wp2_with fail
      refine (rspan_any q fs c4 m _ hl4 G.out.1 G.out.2.1).mono ?_
      rintro e w5 ⟨rfl, k5⟩
      have K5 : Hid (Below w.heap.size w w5) := Below.then G.out.2.2.2 k5
      rw [G.out.2.2.1]
      clear k5 f0 f1 f2
      go_wp2
      go_ret
      exact ⟨rfl, K5.out⟩
    · have hle : Hid (((Bg.val ds : Nat) : Int) ≤ b) := CM.out.2 hr0
      have G : Hid (Rd (w2.drewN n) o ds ∧ Bg.can ds ∧ Fx.cl 4611686018427387904 (sgn m (Bg.val ds)) = res ∧ Below w.heap.size w (w2.drewN n)) := by
        refine ⟨RD.out.1.drew n, F.out.2.2.1, ?_, below_drewN (Below.then F.out.2.2.2.2 RD.out.2) n⟩
        rw [HR.out, ← cl_cl b a hb]
        have ha := F.out.2.2.2.1
        have hg := hle.out
        congr 1
        rw [ha]
        cases m
        · rw [Fx.cl_in (by simp [sgn]; omega) (by simp [sgn]; omega)]
        · rw [Fx.cl_in (by simp [sgn]; omega) (by simp [sgn]; omega)]
      go_wp2_with fail
      refine (rspan_any o ds c m _ hl G.out.1 G.out.2.1).mono ?_
      rintro e w5 ⟨rfl, k5⟩
      have K5 : Hid (Below w.heap.size w w5) := Below.then G.out.2.2.2 k5
      rw [G.out.2.2.1]
      clear k5
      go_wp2
      go_ret
      exact ⟨rfl, K5.out⟩
end Go.Proofs.Ytdmaaigchfgmdaa
