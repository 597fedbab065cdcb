/- The statements' own: whether one stands in a list; the reference's merit. -/
import Derived.Test.YtnjfmhabajcpoaaClC1
import Derived.Test.YtnjfmhabajcpoaaBigL
namespace Go.Proofs.Ytnjfmhabajcpoaa
open Go Go.RowKit Go.Sort
set_option linter.unusedVariables false
def eqB (x c : Cn) : Bool := x.id == c.id && x.o == c.o && x.d == c.d && x.j == c.j && x.s == c.s && x.pf == c.pf && x.pu == c.pu
theorem eqB_self (c : Cn) : eqB c c = true := by unfold eqB; simp
set_option maxRecDepth 20000 in
theorem eq_cn (x c : Cn) (u : World) : (binOp .eql 25 (.agg (cnL x).toArray) (.agg (cnL c).toArray)).run Try.prog u = .ok (.bool (eqB x c)) u := by
  obtain ⟨i, p, d, j, s, f, l⟩ := x
  obtain ⟨i2, p2, d2, j2, s2, f2, l2⟩ := c
  unfold cnL eqB
  go_simp
  (repeat' split) <;> simp_all
set_option maxRecDepth 20000 in
set_option maxHeartbeats 1000000 in
theorem rmerit_any (c : Cn) (w : World) (ok : okC c) : Calls Try.prog 23 #[.agg (cnL c).toArray] w fun e w' => e = .returned (.int .i64 (mer c)) ∧ Below w.heap.size w w' := by
  obtain ⟨S, hS⟩ : ∃ S, scl 6442450944 c.s 1 = S := ⟨_, rfl⟩
  obtain ⟨M, hM⟩ : ∃ M, mer c = M := ⟨_, rfl⟩
  have C1 : Hid (∀ u, Calls Try.prog 36 #[.int .i64 6442450944, .int .i64 c.s, .int .i64 1] u fun e w' => e = .returned (.int .i64 S) ∧ Below u.heap.size u w') := fun u => by
    rw [← hS]; exact rscale_any 6442450944 c.s 1 u (by decide) (by decide) ok.s.1 ok.s.2 (by decide) (by decide)
  have C2 : Hid (∀ u, Calls Try.prog 35 #[.int .i64 c.d, .int .i64 S] u fun e w' => e = .returned (.int .i64 M) ∧ Below u.heap.size u w') := fun u => by
    have hb := scl_bd 6442450944 c.s 1
    unfold bd62 at hb
    have := radd_any c.d S u ok.d.1 ok.d.2 (by omega) (by omega)
    have e : Fx.cl 4611686018427387904 (c.d + S) = M := by rw [← hM, ← hS]; rfl
    rw [e] at this
    exact this
  rw [hM]
  clear hS hM ok
  rw [cn_cells]
  obtain ⟨a0, a1, a2, a3, a4, a5, a6⟩ := c
  simp only at C1 C2 ⊢
  go_enter Try.func23, Try.ntmps23
  refine post_hid fun Q hQ => ?_
  go_upto_region 1 with fail
  obtain ⟨W, hW⟩ : ∃ W, W = w.alloc (.cells #[.int .i64 a0, .int .i64 a1, .int .i64 a2, .int .i64 a3, .int .i64 a4, .bool a5, .bool a6] 25) := ⟨_, rfl⟩
  rw [← hW]
  have HW : Hid (Bk w.heap.size W #[.int .i64 a0, .int .i64 a1, .int .i64 a2, .int .i64 a3, .int .i64 a4, .bool a5, .bool a6] 25 ∧ Below w.heap.size w W) := by rw [hW]; exact ⟨alloc_at _ _, (Below.refl _ _).alloc (Nat.le_refl _) _⟩
  clear hW
  refine wp_region_grown (by kernel_rfl) (by kernel_rfl) ?_
  intro C hC hG
  have q2 : Hid (∀ u, C u → u.cell? ⟨w.heap.size, 2, none⟩ = some (.int .i64 a2)) := fun u hu => (HW.out.1.kept ((hC u hu).block _ HW.out.1.lt)).cell 2
  have q4 : Hid (∀ u, C u → u.cell? ⟨w.heap.size, 4, none⟩ = some (.int .i64 a4)) := fun u hu => (HW.out.1.kept ((hC u hu).block _ HW.out.1.lt)).cell 4
  have Z1 : Hid (∀ u, C u → Calls Try.prog 36 #[.int .i64 6442450944, .int .i64 a4, .int .i64 1] u fun e w' => e = .returned (.int .i64 S) ∧ C w') := fun u hu => (C1.out u).mono fun e w' ⟨h1, h2⟩ => ⟨h1, hG u w' hu h2⟩
  have Z2 : Hid (∀ u, C u → Calls Try.prog 35 #[.int .i64 a2, .int .i64 S] u fun e w' => e = .returned (.int .i64 M) ∧ C w') := fun u hu => (C2.out u).mono fun e w' ⟨h1, h2⟩ => ⟨h1, hG u w' hu h2⟩
  clear C1 C2
  refine QW.out ?_
  repeat (first
    | (refine qa_valW (by rfl) ?_; apply Exists.intro; refine ⟨fun u hu => ?_, ?_⟩; ((have e2 := q2.out u hu); (have e4 := q4.out u hu); go_simp; exact rfl); try go_simp)
    | (refine qa_callW (by rfl) 36 _ _ ?_ (fun u hu => Z1.out u hu) ?_; (focus (intro u hu; go_simp; first | done | exact rfl)); try go_simp)
    | (refine qa_callW (by rfl) 35 _ _ ?_ (fun u hu => Z2.out u hu) ?_; (focus (intro u hu; go_simp; first | done | exact rfl)); try go_simp))
  refine qw_nil ?_
  intro u hu
  have HB9 : Hid (Below w.heap.size w u) := below_thru HW.out.2 hu
  clear q2 q4 Z1 Z2 hC hG hu HW
  go_wp2_with fail
  rw [hQ.out]
  go_ret
  exact ⟨rfl, HB9.out⟩
set_option maxRecDepth 20000 in
set_option maxHeartbeats 1000000 in
theorem has_any (v : Value) (l : List Cn) (c : Cn) (w : World) (N : Nat) (h : Rk N w 7 v (l.map cnL)) (hN : N ≤ w.heap.size) (hl : l.length ≤ 1000) (hc : c ∈ l) : Calls Try.prog 22 #[v, .agg (cnL c).toArray] w fun e w' => e = .returned (.bool true) ∧ Below w.heap.size w w' := by
  obtain ⟨ao, cap, hv, hcap, hr⟩ := cands_read h
  have HR : Hid (∀ w', Below w.heap.size w w' → ∀ (i : Nat) x, l[i]? = some x → ∃ ad, ao = some ad ∧ ∀ j u, (cnL x)[j]? = some u → w'.cell? ((ad.add (i * 7)).add j) = some u) := fun w' hb i x hx => by
    obtain ⟨ad, h1, _, h2⟩ := hr w' (below_cells hb hN) i x hx
    exact ⟨ad, h1, h2⟩
  obtain ⟨n, hn⟩ : ∃ n, l.length = n := ⟨_, rfl⟩
  have HN : Hid (l.length = n) := hn
  have HC : Hid (c ∈ l) := hc
  rw [hn] at hv hl
  subst hv
  have hl2 : (n : Int) ≤ 1000 := by omega
  clear h hN hr hcap hn hc hl
  go_enter Try.func22, Try.ntmps22
  refine post_hid fun Q hQ => ?_
  go_upto_region 1 with fail
  obtain ⟨W, hW⟩ : ∃ W, W = w.alloc (.cells (cnL c).toArray 25) := ⟨_, rfl⟩
  rw [← hW]
  have HW : Hid (Bk w.heap.size W (cnL c).toArray 25 ∧ Below w.heap.size w W) := by rw [hW]; exact ⟨alloc_at _ _, (Below.refl _ _).alloc (Nat.le_refl _) _⟩
  clear hW
  go_wp2_with fail
  go_loopw [6, 9] (fun _ i wr => ∃ k : Nat, i = .int .i64 k ∧ (k : Int) ≤ n ∧ Hid (∀ x ∈ l.take k, eqB x c = false) ∧ Hid (Below W.heap.size W wr)) (fun _ i _ => n - (intOf i).toNat)
  case atStart => exact ⟨0, rfl, by omega, (fun x hx => by simp at hx), Below.refl _ _⟩
  case round =>
    obtain ⟨k, rfl, hk, HT, HB⟩ := hrel
    by_cases hlt : (k : Int) < n
    · obtain ⟨x, hx⟩ : ∃ x, l[k]? = some x := ⟨_, List.getElem?_eq_getElem (by have := HN.out; omega)⟩
      obtain ⟨ad, g1, g3⟩ := HR.out wr (below_thru HW.out.2 HB.out) k x hx
      have hix := ix_C n cap k g1 hlt
      have HS : Hid (∀ j u, (cnL x)[j]? = some u → wr.cell? ((ad.add (k * 7)).add j) = some u) := g3
      have HK : Hid (l[k]? = some x) := hx
      clear g1 g3 hx
      go_upto_region 4 with (first
        | (refine step_ldat 25 _ rfl rfl (ad.add (k * 7)) (by rfl) (cnL x) _ Try.underlying25 rfl (by kernel_rfl) HS.out ?_)
        | (refine step_alL (by rfl) 25 rfl (cnL zCn).toArray (fun u => by kernel_rfl) ?_; intro w3 g H3)
        | (refine step_stL (by rfl) _ _ rfl g (cnL x).toArray (by rfl) (by rfl) (cnL zCn).toArray (by kernel_rfl) (by kernel_rfl) (by kernel_rfl) H3.out.bk ?_; intro w4 H4))
      have H5 : Hid (Below W.heap.size W w4) := below_thru HB.out (H4.out.below H3.out.be H3.out.be.size (Nat.le_of_eq H3.out.at'.symm))
      have HSx : Hid (∀ j u, (cnL x)[j]? = some u → w4.cell? ((⟨g, 0, none⟩ : Addr).add j) = some u) := cells_of (l := cnL x) H4.out.bk
      have HSc : Hid (∀ j u, (cnL c)[j]? = some u → w4.cell? ((⟨w.heap.size, 0, none⟩ : Addr).add j) = some u) := cells_of (l := cnL c) (HW.out.1.kept (H5.out.block _ HW.out.1.lt))
      obtain ⟨B, hB⟩ : ∃ B, eqB x c = B := ⟨_, rfl⟩
      have he : ∀ u, (binOp .eql 25 (.agg (cnL x).toArray) (.agg (cnL c).toArray)).run Try.prog u = .ok (.bool B) u := fun u => by rw [← hB]; exact eq_cn x c u
      have HBx : Hid (eqB x c = B) := hB
      clear H3 H4 HS hix HB hB
      cases B
      · go_wp2_with (first
          | (refine step_ldat 25 _ rfl rfl ⟨g, 0, none⟩ (by rfl) (cnL x) _ Try.underlying25 rfl (by kernel_rfl) HSx.out ?_)
          | (refine step_ldat 25 _ rfl rfl ⟨w.heap.size, 0, none⟩ (by rfl) (cnL c) _ Try.underlying25 rfl (by kernel_rfl) HSc.out ?_))
        go_roundw
        case rel =>
          refine ⟨k + 1, by go_num, by omega, (fun y hy => ?_), H5.out⟩
          rw [take_snoc HK.out] at hy
          rcases List.mem_append.1 hy with hy | hy
          · exact HT.out y hy
          · rw [List.mem_singleton.1 hy]; exact HBx.out
        case measure => simp [intOf]; omega
      · go_wp2_with (first
          | (refine step_ldat 25 _ rfl rfl ⟨g, 0, none⟩ (by rfl) (cnL x) _ Try.underlying25 rfl (by kernel_rfl) HSx.out ?_)
          | (refine step_ldat 25 _ rfl rfl ⟨w.heap.size, 0, none⟩ (by rfl) (cnL c) _ Try.underlying25 rfl (by kernel_rfl) HSc.out ?_))
        rw [hQ.out]
        go_ret
        exact ⟨rfl, below_thru HW.out.2 H5.out⟩
    · exfalso
      have hkn : k = l.length := by have := HN.out; omega
      have h1 := HT.out c (by rw [hkn, List.take_of_length_le (Nat.le_refl _)]; exact HC.out)
      rw [eqB_self] at h1
      cases h1
end Go.Proofs.Ytnjfmhabajcpoaa
