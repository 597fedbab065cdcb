/- choose: near and far of the laws. -/
import Derived.Test.YtepbbaeamlimaabUR
namespace Go.Proofs.Ytepbbaeamlimaab
open Go Go.RowKit Go.Sort Ch Pu
set_option linter.unusedVariables false
def ab (x : Int) : Int := if x < 0 then -x else x
def nrD (c : Cn) (t : Int) : Int := if ab (c.d.tmod 1099511627776) < ab (c.o.tmod 1099511627776 - t) then ab (c.o.tmod 1099511627776 - t) else ab (c.d.tmod 1099511627776)
/-- what near makes of a candidate -/
def nr (c : Cn) (t : Int) : Cn := ⟨c.id, c.o.tmod 1099511627776, nrD c t, c.j, c.s, c.pf, c.pu⟩
theorem nr_ok (c : Cn) (t : Int) (h0 : -2147483648 ≤ t) (h1 : t ≤ 2147483647) : ct (nr c t) = true ∧ (nr c t).o - (nr c t).d ≤ t ∧ t ≤ (nr c t).o + (nr c t).d ∧ 0 ≤ (nr c t).d ∧ (nr c t).d ≤ 1101659111424 := by
  have a1 := tmod_bd c.o 1099511627776 (by omega)
  have a2 := tmod_bd c.d 1099511627776 (by omega)
  rw [ct_iff]
  show (0 ≤ nrD c t ∧ nrD c t ≤ _ ∧ _ ≤ c.o.tmod 1099511627776 ∧ c.o.tmod 1099511627776 ≤ _) ∧ c.o.tmod 1099511627776 - nrD c t ≤ t ∧ t ≤ c.o.tmod 1099511627776 + nrD c t ∧ 0 ≤ nrD c t ∧ nrD c t ≤ _
  unfold nrD ab
  generalize c.o.tmod 1099511627776 = O at *
  generalize c.d.tmod 1099511627776 = D at *
  repeat' split
  all_goals omega
theorem results_c {fn : Func} {p : Tmp} {ty : TypeId} (h : fn.results = #[.cell p ty]) (tmps : Array Value) (w : World) (g : Nat) (t : TypeId) (cs : List Value) (d : TypeDesc)
    (hp : tmps.getD p undef = .pointer (some ⟨g, 0, none⟩)) (hg : w.heap[g]? = some (.cells cs.toArray t (0, 0)))
    (hu : Try.prog.underlying ty = some d) (hd : d.isRow = true) (hi : (Try.prog.info? ty).map (·.size) = some cs.length) :
    (results fn tmps).run Try.prog w = .ok (.agg cs.toArray) w := by
  have hp' : tmps[p]?.getD undef = .pointer (some ⟨g, 0, none⟩) := by simpa using hp
  simp [results, h, hp', asAddr, run_loadVar_at w ⟨g, 0, none⟩ ty cs d (cells_of hg) hu hd hi]
/-- within near -/
structure Nr (w u : World) (g g2 : Nat) (c : Cn) : Prop where
  bk : Bk g u (cnL c).toArray 25
  bz : Bk g2 u (cnL zCn).toArray 25
  be : Below w.heap.size w u
  g0 : w.heap.size ≤ g
  g1 : g < g2
theorem Nr.st {w u u' : World} {g g2 : Nat} {c c' : Cn} (h : Nr w u g g2 c) (H : Wt u u' g (cnL c').toArray 25) : Nr w u' g g2 c' := ⟨H.bk, h.bz.kept (H.gr.block g2 h.bz.lt (fun e => by injection e with e; have := h.g1; omega)), H.below h.be h.be.size h.g0, h.g0, h.g1⟩
set_option maxRecDepth 20000 in
set_option maxHeartbeats 2000000 in
theorem near_any (c : Cn) (t : Int) (h0 : -2147483648 ≤ t) (h1 : t ≤ 2147483647) (w : World) : Calls Try.prog 5 #[.agg (cnL c).toArray, .int .i64 t] w fun e w' => e = .returned (.agg (cnL (nr c t)).toArray) ∧ Below w.heap.size w w' := by
  obtain ⟨R, hR⟩ : ∃ R, nr c t = R := ⟨_, rfl⟩
  have HRR : Hid (nr c t = R) := hR
  rw [hR]
  clear hR
  obtain ⟨ci, co, cd, cj, cs, cp, cu⟩ := c
  obtain ⟨O, hO⟩ : ∃ T, co.tmod 1099511627776 = T := ⟨_, rfl⟩
  obtain ⟨D1, hD1⟩ : ∃ T, cd.tmod 1099511627776 = T := ⟨_, rfl⟩
  obtain ⟨bO0, bO1⟩ := tmod_bd co 1099511627776 (by omega)
  obtain ⟨bD0, bD1⟩ := tmod_bd cd 1099511627776 (by omega)
  rw [hO] at bO0 bO1
  rw [hD1] at bD0 bD1
  have HR1 : Hid (R = ⟨ci, O, if ab D1 < ab (O - t) then ab (O - t) else ab D1, cj, cs, cp, cu⟩) := by
    show _ = _
    rw [← HRR.out, ← hO, ← hD1]
    rfl
  clear HRR
  go_enter Try.func5, Try.ntmps5
  refine post_hid fun Q hQ => ?_
  go_upto_region 1 with (first
    | (refine step_boxL (by rfl) 25 _ rfl (cnL ⟨ci, co, cd, cj, cs, cp, cu⟩).toArray (by rfl) (fun u => by kernel_rfl) ?_; intro w1 g H1)
    | (refine step_alL (by rfl) 25 rfl (cnL zCn).toArray (fun u => by kernel_rfl) ?_; intro w2 g2 H2))
  have N2 : Hid (Nr w w2 g g2 ⟨ci, co, cd, cj, cs, cp, cu⟩) := by
    have e1 := H1.out.at'
    have e2 := H2.out.at'
    have e3 := H1.out.sz
    exact ⟨H1.out.bk.kept (H2.out.be.block _ H1.out.bk.lt), H2.out.bk, below_thru H1.out.be H2.out.be, by omega, by omega⟩
  clear H1 H2
  have c1 : w2.cell? ⟨g, 1, none⟩ = some (.int .i64 co) := N2.out.bk.cell 1
  go_upto_region 2 with (refine step_st1 (by rfl) _ _ rfl g 1 (.int .i64 O) (by rfl) (by rfl) rfl (by kernel_rfl) rfl (cnL ⟨ci, co, cd, cj, cs, cp, cu⟩) (by simp [cnL]) N2.out.bk ?_; intro w3 H3)
  have N3 : Hid (Nr w w3 g g2 ⟨ci, O, cd, cj, cs, cp, cu⟩) := N2.out.st H3.out
  clear H3 N2 c1 hO
  have c2 : w3.cell? ⟨g, 2, none⟩ = some (.int .i64 cd) := N3.out.bk.cell 2
  go_upto_region 3 with (refine step_st1 (by rfl) _ _ rfl g 2 (.int .i64 D1) (by rfl) (by rfl) rfl (by kernel_rfl) rfl (cnL ⟨ci, O, cd, cj, cs, cp, cu⟩) (by simp [cnL]) N3.out.bk ?_; intro w4 H4)
  have N4 : Hid (Nr w w4 g g2 ⟨ci, O, D1, cj, cs, cp, cu⟩) := N3.out.st H4.out
  clear H4 N3 c2 hD1
  have c2 : w4.cell? ⟨g, 2, none⟩ = some (.int .i64 D1) := N4.out.bk.cell 2
  have key : ∀ (D2 d : Int), ab D1 = D2 → ab (O - t) = d → Hid ((∀ u, (Builtin.max_ #[23, 23] 23 #[.int .i64 D2, .int .i64 d]).run Try.prog u = .ok (.int .i64 (if D2 < d then d else D2)) u) ∧ R = ⟨ci, O, if D2 < d then d else D2, cj, cs, cp, cu⟩) := fun D2 d e1 e2 => ⟨fun u => run_mxS D2 d u, by rw [HR1.out, e1, e2]⟩
  have HKey : Hid _ := key
  clear key HR1
  by_cases hd1 : D1 < 0
  · go_upto_region 5 with (refine step_st1 (by rfl) _ _ rfl g 2 (.int .i64 (-D1)) (by rfl) (by rfl) rfl (by kernel_rfl) rfl (cnL ⟨ci, O, D1, cj, cs, cp, cu⟩) (by simp [cnL]) N4.out.bk ?_; intro w5 H5)
    have N5 : Hid (Nr w w5 g g2 ⟨ci, O, -D1, cj, cs, cp, cu⟩) := N4.out.st H5.out
    clear H5 N4 c2
    by_cases hd : O - t < 0
    · have c1 : w5.cell? ⟨g, 1, none⟩ = some (.int .i64 O) := N5.out.bk.cell 1
      have c3 : w5.cell? ⟨g, 2, none⟩ = some (.int .i64 (-D1)) := N5.out.bk.cell 2
      have HM := HKey.out (-D1) (-(O - t)) (by unfold ab; split <;> omega) (by unfold ab; split <;> omega)
      have m1 := HM.out.1
      obtain ⟨D, hD⟩ : ∃ D, (if (-D1) < (-(O - t)) then (-(O - t)) else (-D1)) = D := ⟨_, rfl⟩
      rw [hD] at m1
      have HD : Hid (R = ⟨ci, O, D, cj, cs, cp, cu⟩) := by rw [← hD]; exact HM.out.2
      clear hD HM HKey
      go_upto_region 9 with (refine step_st1 (by rfl) _ _ rfl g 2 (.int .i64 D) (by rfl) (by rfl) rfl (by kernel_rfl) rfl (cnL ⟨ci, O, (-D1), cj, cs, cp, cu⟩) (by simp [cnL]) N5.out.bk ?_; intro w6 H6)
      have N6 : Hid (Nr w w6 g g2 ⟨ci, O, D, cj, cs, cp, cu⟩) := N5.out.st H6.out
      clear H6 m1 c1 c3
      have HS : Hid (∀ j u, (cnL ⟨ci, O, D, cj, cs, cp, cu⟩)[j]? = some u → w6.cell? ((⟨g, 0, none⟩ : Addr).add j) = some u) := cells_of N6.out.bk
      go_wp2_with (first
        | (refine step_ldat 25 _ rfl rfl ⟨g, 0, none⟩ (by rfl) (cnL ⟨ci, O, D, cj, cs, cp, cu⟩) _ Try.underlying25 rfl (by kernel_rfl) HS.out ?_)
        | (refine step_stL (by rfl) _ _ rfl g2 (cnL ⟨ci, O, D, cj, cs, cp, cu⟩).toArray (by rfl) (by rfl) (cnL zCn).toArray (by kernel_rfl) (by kernel_rfl) (by kernel_rfl) N6.out.bz ?_; intro w7 H7))
      rw [hQ.out]
      rw [HD.out]
      exact bodyPost_ret (v := .agg (cnL ⟨ci, O, D, cj, cs, cp, cu⟩).toArray) (results_c Try.results5 _ _ g2 _ _ _ (by rfl) H7.out.bk Try.underlying25 rfl (by kernel_rfl)) rfl ⟨rfl, H7.out.below N6.out.be N6.out.be.size (by have := N6.out.g0; have := N6.out.g1; omega)⟩
    · have c1 : w5.cell? ⟨g, 1, none⟩ = some (.int .i64 O) := N5.out.bk.cell 1
      have c3 : w5.cell? ⟨g, 2, none⟩ = some (.int .i64 (-D1)) := N5.out.bk.cell 2
      have HM := HKey.out (-D1) (O - t) (by unfold ab; split <;> omega) (by unfold ab; split <;> omega)
      have m1 := HM.out.1
      obtain ⟨D, hD⟩ : ∃ D, (if (-D1) < (O - t) then (O - t) else (-D1)) = D := ⟨_, rfl⟩
      rw [hD] at m1
      have HD : Hid (R = ⟨ci, O, D, cj, cs, cp, cu⟩) := by rw [← hD]; exact HM.out.2
      clear hD HM HKey
      go_upto_region 9 with (refine step_st1 (by rfl) _ _ rfl g 2 (.int .i64 D) (by rfl) (by rfl) rfl (by kernel_rfl) rfl (cnL ⟨ci, O, (-D1), cj, cs, cp, cu⟩) (by simp [cnL]) N5.out.bk ?_; intro w6 H6)
      have N6 : Hid (Nr w w6 g g2 ⟨ci, O, D, cj, cs, cp, cu⟩) := N5.out.st H6.out
      clear H6 m1 c1 c3
      have HS : Hid (∀ j u, (cnL ⟨ci, O, D, cj, cs, cp, cu⟩)[j]? = some u → w6.cell? ((⟨g, 0, none⟩ : Addr).add j) = some u) := cells_of N6.out.bk
      go_wp2_with (first
        | (refine step_ldat 25 _ rfl rfl ⟨g, 0, none⟩ (by rfl) (cnL ⟨ci, O, D, cj, cs, cp, cu⟩) _ Try.underlying25 rfl (by kernel_rfl) HS.out ?_)
        | (refine step_stL (by rfl) _ _ rfl g2 (cnL ⟨ci, O, D, cj, cs, cp, cu⟩).toArray (by rfl) (by rfl) (cnL zCn).toArray (by kernel_rfl) (by kernel_rfl) (by kernel_rfl) N6.out.bz ?_; intro w7 H7))
      rw [hQ.out]
      rw [HD.out]
      exact bodyPost_ret (v := .agg (cnL ⟨ci, O, D, cj, cs, cp, cu⟩).toArray) (results_c Try.results5 _ _ g2 _ _ _ (by rfl) H7.out.bk Try.underlying25 rfl (by kernel_rfl)) rfl ⟨rfl, H7.out.below N6.out.be N6.out.be.size (by have := N6.out.g0; have := N6.out.g1; omega)⟩
  · clear c2
    have c2 : w4.cell? ⟨g, 2, none⟩ = some (.int .i64 D1) := N4.out.bk.cell 2
    go_upto_region 5 with (fail)
    clear c2
    by_cases hd : O - t < 0
    · have c1 : w4.cell? ⟨g, 1, none⟩ = some (.int .i64 O) := N4.out.bk.cell 1
      have c3 : w4.cell? ⟨g, 2, none⟩ = some (.int .i64 D1) := N4.out.bk.cell 2
      have HM := HKey.out D1 (-(O - t)) (by unfold ab; split <;> omega) (by unfold ab; split <;> omega)
      have m1 := HM.out.1
      obtain ⟨D, hD⟩ : ∃ D, (if D1 < (-(O - t)) then (-(O - t)) else D1) = D := ⟨_, rfl⟩
      rw [hD] at m1
      have HD : Hid (R = ⟨ci, O, D, cj, cs, cp, cu⟩) := by rw [← hD]; exact HM.out.2
      clear hD HM HKey
      go_upto_region 9 with (refine step_st1 (by rfl) _ _ rfl g 2 (.int .i64 D) (by rfl) (by rfl) rfl (by kernel_rfl) rfl (cnL ⟨ci, O, D1, cj, cs, cp, cu⟩) (by simp [cnL]) N4.out.bk ?_; intro w6 H6)
      have N6 : Hid (Nr w w6 g g2 ⟨ci, O, D, cj, cs, cp, cu⟩) := N4.out.st H6.out
      clear H6 m1 c1 c3
      have HS : Hid (∀ j u, (cnL ⟨ci, O, D, cj, cs, cp, cu⟩)[j]? = some u → w6.cell? ((⟨g, 0, none⟩ : Addr).add j) = some u) := cells_of N6.out.bk
      go_wp2_with (first
        | (refine step_ldat 25 _ rfl rfl ⟨g, 0, none⟩ (by rfl) (cnL ⟨ci, O, D, cj, cs, cp, cu⟩) _ Try.underlying25 rfl (by kernel_rfl) HS.out ?_)
        | (refine step_stL (by rfl) _ _ rfl g2 (cnL ⟨ci, O, D, cj, cs, cp, cu⟩).toArray (by rfl) (by rfl) (cnL zCn).toArray (by kernel_rfl) (by kernel_rfl) (by kernel_rfl) N6.out.bz ?_; intro w7 H7))
      rw [hQ.out]
      rw [HD.out]
      exact bodyPost_ret (v := .agg (cnL ⟨ci, O, D, cj, cs, cp, cu⟩).toArray) (results_c Try.results5 _ _ g2 _ _ _ (by rfl) H7.out.bk Try.underlying25 rfl (by kernel_rfl)) rfl ⟨rfl, H7.out.below N6.out.be N6.out.be.size (by have := N6.out.g0; have := N6.out.g1; omega)⟩
    · have c1 : w4.cell? ⟨g, 1, none⟩ = some (.int .i64 O) := N4.out.bk.cell 1
      have c3 : w4.cell? ⟨g, 2, none⟩ = some (.int .i64 D1) := N4.out.bk.cell 2
      have HM := HKey.out D1 (O - t) (by unfold ab; split <;> omega) (by unfold ab; split <;> omega)
      have m1 := HM.out.1
      obtain ⟨D, hD⟩ : ∃ D, (if D1 < (O - t) then (O - t) else D1) = D := ⟨_, rfl⟩
      rw [hD] at m1
      have HD : Hid (R = ⟨ci, O, D, cj, cs, cp, cu⟩) := by rw [← hD]; exact HM.out.2
      clear hD HM HKey
      go_upto_region 9 with (refine step_st1 (by rfl) _ _ rfl g 2 (.int .i64 D) (by rfl) (by rfl) rfl (by kernel_rfl) rfl (cnL ⟨ci, O, D1, cj, cs, cp, cu⟩) (by simp [cnL]) N4.out.bk ?_; intro w6 H6)
      have N6 : Hid (Nr w w6 g g2 ⟨ci, O, D, cj, cs, cp, cu⟩) := N4.out.st H6.out
      clear H6 m1 c1 c3
      have HS : Hid (∀ j u, (cnL ⟨ci, O, D, cj, cs, cp, cu⟩)[j]? = some u → w6.cell? ((⟨g, 0, none⟩ : Addr).add j) = some u) := cells_of N6.out.bk
      go_wp2_with (first
        | (refine step_ldat 25 _ rfl rfl ⟨g, 0, none⟩ (by rfl) (cnL ⟨ci, O, D, cj, cs, cp, cu⟩) _ Try.underlying25 rfl (by kernel_rfl) HS.out ?_)
        | (refine step_stL (by rfl) _ _ rfl g2 (cnL ⟨ci, O, D, cj, cs, cp, cu⟩).toArray (by rfl) (by rfl) (cnL zCn).toArray (by kernel_rfl) (by kernel_rfl) (by kernel_rfl) N6.out.bz ?_; intro w7 H7))
      rw [hQ.out]
      rw [HD.out]
      exact bodyPost_ret (v := .agg (cnL ⟨ci, O, D, cj, cs, cp, cu⟩).toArray) (results_c Try.results5 _ _ g2 _ _ _ (by rfl) H7.out.bk Try.underlying25 rfl (by kernel_rfl)) rfl ⟨rfl, H7.out.below N6.out.be N6.out.be.size (by have := N6.out.g0; have := N6.out.g1; omega)⟩
end Go.Proofs.Ytepbbaeamlimaab
