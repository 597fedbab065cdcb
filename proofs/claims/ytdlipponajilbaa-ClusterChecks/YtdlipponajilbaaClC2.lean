/- The statements' own: whether one stands in a list; the reference's merit. -/
import Derived.Test.YtdlipponajilbaaClC1
import Derived.Test.YtdlipponajilbaaBigL
namespace Go.Proofs.Ytdlipponajilbaa
open Go Go.RowKit Go.Sort
set_option linter.unusedVariables false
def eqB (x c : Cn) : Bool := x.id == c.id && x.o == c.o && x.d == c.d && x.j == c.j && x.s == c.s && x.pf == c.pf && x.pu == c.pu
theorem eqB_self (c : Cn) : eqB c c = true := by unfold eqB; simp
set_option maxRecDepth 20000 in
theorem eq_cn (x c : Cn) (u : World) : (binOp .eql 27 (.agg (cnL x).toArray) (.agg (cnL c).toArray)).run Try.prog u = .ok (.bool (eqB x c)) u := by
  obtain ⟨i, p, d, j, s, f, l⟩ := x
  obtain ⟨i2, p2, d2, j2, s2, f2, l2⟩ := c
  unfold cnL eqB
  go_simp
  (repeat' split) <;> simp_all
set_option maxRecDepth 20000 in
set_option maxHeartbeats 1000000 in
theorem rmerit_any (c : Cn) (w : World) (ok : okC c) : Calls Try.prog 78 #[.agg (cnL c).toArray] w fun e w' => e = .returned (.int .i64 (mer c)) ∧ Below w.heap.size w w' := by
  obtain ⟨S, hS⟩ : ∃ S, scl 6442450944 c.s 1 = S := ⟨_, rfl⟩
  obtain ⟨M, hM⟩ : ∃ M, mer c = M := ⟨_, rfl⟩
  have C1 : Hid (∀ u, Calls Try.prog 29 #[.int .i64 6442450944, .int .i64 c.s, .int .i64 1] u fun e w' => e = .returned (.int .i64 S) ∧ Below u.heap.size u w') := fun u => by
    rw [← hS]; exact rscale_any 6442450944 c.s 1 u (by decide) (by decide) ok.s.1 ok.s.2 (by decide) (by decide)
  have C2 : Hid (∀ u, Calls Try.prog 28 #[.int .i64 c.d, .int .i64 S] u fun e w' => e = .returned (.int .i64 M) ∧ Below u.heap.size u w') := fun u => by
    have hb := scl_bd 6442450944 c.s 1
    unfold bd62 at hb
    have := radd_any c.d S u ok.d.1 ok.d.2 (by omega) (by omega)
    have e : Fx.cl 4611686018427387904 (c.d + S) = M := by rw [← hM, ← hS]; rfl
    rw [e] at this
    exact this
  rw [hM]
  clear hS hM ok
  rw [cn_cells]
  obtain ⟨a0, a1, a2, a3, a4, a5, a6⟩ := c
  simp only at C1 C2 ⊢
  go_enter Try.func78, Try.ntmps78
  refine post_hid fun Q hQ => ?_
  go_upto_region 1 with fail
  obtain ⟨W, hW⟩ : ∃ W, W = w.alloc (.cells #[.int .i64 a0, .int .i64 a1, .int .i64 a2, .int .i64 a3, .int .i64 a4, .bool a5, .bool a6] 27) := ⟨_, rfl⟩
  rw [← hW]
  have HW : Hid (Bk w.heap.size W #[.int .i64 a0, .int .i64 a1, .int .i64 a2, .int .i64 a3, .int .i64 a4, .bool a5, .bool a6] 27 ∧ Below w.heap.size w W) := by rw [hW]; exact ⟨alloc_at _ _, (Below.refl _ _).alloc (Nat.le_refl _) _⟩
  clear hW
  refine wp_region_grown (by kernel_rfl) (by kernel_rfl) ?_
  intro C hC hG
  have q2 : Hid (∀ u, C u → u.cell? ⟨w.heap.size, 2, none⟩ = some (.int .i64 a2)) := fun u hu => (HW.out.1.kept ((hC u hu).block _ HW.out.1.lt)).cell 2
  have q4 : Hid (∀ u, C u → u.cell? ⟨w.heap.size, 4, none⟩ = some (.int .i64 a4)) := fun u hu => (HW.out.1.kept ((hC u hu).block _ HW.out.1.lt)).cell 4
  have Z1 : Hid (∀ u, C u → Calls Try.prog 29 #[.int .i64 6442450944, .int .i64 a4, .int .i64 1] u fun e w' => e = .returned (.int .i64 S) ∧ C w') := fun u hu => (C1.out u).mono fun e w' ⟨h1, h2⟩ => ⟨h1, hG u w' hu h2⟩
  have Z2 : Hid (∀ u, C u → Calls Try.prog 28 #[.int .i64 a2, .int .i64 S] u fun e w' => e = .returned (.int .i64 M) ∧ C w') := fun u hu => (C2.out u).mono fun e w' ⟨h1, h2⟩ => ⟨h1, hG u w' hu h2⟩
  clear C1 C2
  refine QW.out ?_
  repeat (first
    | (refine qa_valW (by rfl) ?_; apply Exists.intro; refine ⟨fun u hu => ?_, ?_⟩; ((have e2 := q2.out u hu); (have e4 := q4.out u hu); go_simp; exact rfl); try go_simp)
    | (refine qa_callW (by rfl) 29 _ _ ?_ (fun u hu => Z1.out u hu) ?_; (focus (intro u hu; go_simp; first | done | exact rfl)); try go_simp)
    | (refine qa_callW (by rfl) 28 _ _ ?_ (fun u hu => Z2.out u hu) ?_; (focus (intro u hu; go_simp; first | done | exact rfl)); try go_simp))
  refine qw_nil ?_
  intro u hu
  have HB9 : Hid (Below w.heap.size w u) := below_thru HW.out.2 hu
  clear q2 q4 Z1 Z2 hC hG hu HW
  go_wp2_with fail
  rw [hQ.out]
  go_ret
  exact ⟨rfl, HB9.out⟩
end Go.Proofs.Ytdlipponajilbaa
