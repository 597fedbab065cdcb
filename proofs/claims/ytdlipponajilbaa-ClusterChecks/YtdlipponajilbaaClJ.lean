/- cluster: who is the best one; those with a pulse and those without. -/
import Derived.Test.YtdlipponajilbaaClI
import Derived.Deep.QuietTactic
import Derived.BigQuiet
namespace Go.Proofs.Ytdlipponajilbaa
open Go Go.RowKit Go.Sort
set_option linter.unusedVariables false
set_option maxRecDepth 20000 in
set_option maxHeartbeats 1000000 in
theorem bestPlace_any (v : Value) (l : List Cn) (was : Int) (w : World) (N : Nat) (h : Rk N w 7 v (l.map cnL)) (hN : N ≤ w.heap.size) (hl : l.length ≤ 1000) (h0 : 0 < l.length) : Calls Try.prog 32 #[v, .int .i64 was] w fun e w' => e = .returned (.int .i64 (bsI l was)) ∧ Below w.heap.size w w' := by
  have HI : Hid (∀ u, Below w.heap.size w u → Calls Try.prog 57 #[v, .func (.func 58) #[] #[]] u fun e w' => e = .returned (.int .i64 (idxP isPf l)) ∧ Below u.heap.size u w') := fun u hb => idxPref_any v l u N (h.below hb hN) (Nat.le_trans hN hb.size) (by omega)
  have HP : Hid (∀ u, Below w.heap.size w u → Calls Try.prog 34 #[v, .int .i64 was] u fun e w' => e = .returned (.int .i64 (idxP (isId was) l)) ∧ Below u.heap.size u w') := fun u hb => placeOf_any v l was u N (h.below hb hN) (Nat.le_trans hN hb.size) (by omega)
  have b1 := idxP_bd isPf l
  have b2 := idxP_bd (isId was) l
  obtain ⟨I, hI⟩ : ∃ I, idxP isPf l = I := ⟨_, rfl⟩
  obtain ⟨P, hP⟩ : ∃ P, idxP (isId was) l = P := ⟨_, rfl⟩
  have HB : Hid (bsI l was = if 0 ≤ I then I else if 0 ≤ P ∧ (l.getD P.toNat zCn).s = (fs l).s then P else 0) := by show _ = _; unfold bsI; rw [hI, hP]
  rw [hI] at HI b1
  rw [hP] at HP b2
  clear hI hP
  by_cases hi : 0 ≤ I
  · have HZ : Hid (bsI l was = I) := by show _ = _; rw [HB.out, if_pos hi]
    clear h hN hl h0 b1 b2
    go_enter Try.func32, Try.ntmps32
    refine post_hid fun Q hQ => ?_
    go_wp2_with (go_at_call 57; refine (HI.out _ (Below.refl _ _)).mono ?_; rintro e w1 ⟨rfl, h1⟩)
    rw [hQ.out]
    go_ret
    exact ⟨by first | (rw [HZ.out]; done) | (rw [HZ.out]; rfl), h1⟩
  · by_cases hp : 0 ≤ P
    · obtain ⟨p, rfl⟩ : ∃ p : Nat, P = (p : Int) := ⟨P.toNat, by omega⟩
      obtain ⟨ao, cap, hv, hcap, hr⟩ := cands_read h
      obtain ⟨c, hc⟩ : ∃ c, l[p]? = some c := ⟨_, List.getElem?_eq_getElem (by omega)⟩
      obtain ⟨c0, hc0⟩ : ∃ c, l[0]? = some c := ⟨_, List.getElem?_eq_getElem h0⟩
      have HR : Hid (∀ w', Below w.heap.size w w' → ∃ ad, ao = some ad ∧ w'.cell? ⟨(ad.add (p * 7)).block, (ad.add (p * 7)).off + 4, none⟩ = some (.int .i64 c.s) ∧ w'.cell? ⟨ad.block, ad.off + 4, none⟩ = some (.int .i64 c0.s)) := fun w' hb => by
        obtain ⟨ad, e1, _, e2⟩ := hr w' (below_cells hb hN) p c hc
        obtain ⟨ad', e1', _, e2'⟩ := hr w' (below_cells hb hN) 0 c0 hc0
        rw [e1] at e1'
        obtain rfl := Option.some.inj e1'
        refine ⟨ad, e1, ?_, ?_⟩
        · rw [← fld1 _ 4 (by decide)]; exact e2 4 _ rfl
        · have := e2' 4 (.int .i64 c0.s) rfl
          rw [Nat.zero_mul, add_zero', fld1 _ 4 (by decide)] at this
          exact this
      obtain ⟨ad, hao, _, _⟩ := HR.out w (Below.refl _ _)
      obtain ⟨n, hn⟩ : ∃ n, l.length = n := ⟨_, rfl⟩
      rw [hn] at hv b2
      subst hv hao
      have hix : ∀ u, Sem.run Try.prog (Instr.indexAt 22 (.slice (some ad) n cap) (.int .i64 (p : Int))) u = .ok (.pointer (some (ad.add (p * 7)))) u := ix_C n cap p rfl (by omega)
      have hix0 : ∀ u, Sem.run Try.prog (Instr.indexAt 22 (.slice (some ad) n cap) (.int .i64 0)) u = .ok (.pointer (some ad)) u := fun u => by
        have := ix_C n cap 0 (ao := some ad) (ad := ad) rfl (by omega) u
        rw [Nat.zero_mul, add_zero'] at this
        exact this
      obtain ⟨A, hA⟩ : ∃ A, A = ad.add (p * 7) := ⟨_, rfl⟩
      have HR2 : Hid (∀ w', Below w.heap.size w w' → w'.cell? ⟨A.block, A.off + 4, none⟩ = some (.int .i64 c.s) ∧ w'.cell? ⟨ad.block, ad.off + 4, none⟩ = some (.int .i64 c0.s)) := fun w' hb => by
        obtain ⟨ad', e1, e2, e3⟩ := HR.out w' hb
        obtain rfl := Option.some.inj e1
        rw [hA]
        exact ⟨e2, e3⟩
      rw [← hA] at hix
      obtain ⟨X, hX⟩ : ∃ X, c.s = X := ⟨_, rfl⟩
      obtain ⟨Y, hY⟩ : ∃ Y, c0.s = Y := ⟨_, rfl⟩
      rw [hX, hY] at HR2
      have HZ : Hid (bsI l was = if X = Y then (p : Int) else 0) := by
        have e1 : (l.getD ((p : Int).toNat) zCn).s = X := by rw [Int.toNat_natCast, getD_at hc]; exact hX
        have e2 : (fs l).s = Y := by unfold fs; rw [getD_at hc0]; exact hY
        show _ = _
        rw [HB.out, if_neg hi, e1, e2]
        by_cases hxy : X = Y
        · rw [if_pos ⟨hp, hxy⟩, if_pos hxy]
        · rw [if_neg (fun e => hxy e.2), if_neg hxy]
      have hgd : decide ((0 : Int) ≤ (p : Int)) = true := by simp
      clear hA h hN hl h0 b1 b2 hr hcap hc hc0 hn HR hX hY
      by_cases hxy : X = Y
      · subst hxy
        have HZ2 : Hid (bsI l was = (p : Int)) := by show _ = _; rw [HZ.out, if_pos rfl]
        go_enter Try.func32, Try.ntmps32
        refine post_hid fun Q hQ => ?_
        go_wp2_with (first
          | (go_at_call 57; refine (HI.out _ (Below.refl _ _)).mono ?_; rintro e w1 ⟨rfl, h1⟩)
          | (go_at_call 34; refine (HP.out _ h1).mono ?_; rintro e w2 ⟨rfl, h2⟩; have H3 : Hid (Below w.heap.size w w2) := below_thru h1 h2; have q1 : ∀ nn, (w2.drewN nn).cell? ⟨A.block, A.off + 4, none⟩ = some (.int .i64 X) := (fun nn => (HR2.out _ (below_dr H3.out nn)).1); have q2 : ∀ nn, (w2.drewN nn).cell? ⟨ad.block, ad.off + 4, none⟩ = some (.int .i64 X) := (fun nn => (HR2.out _ (below_dr H3.out nn)).2); clear h1 h2))
        go_quiet (fail)
        go_wp2_with fail
        rw [hQ.out]
        go_ret
        exact ⟨by first | (rw [HZ2.out]; done) | (rw [HZ2.out]; rfl), below_dr H3.out _⟩
      · have hxy' : (X == Y) = false := by simpa using hxy
        have HZ2 : Hid (bsI l was = 0) := by show _ = _; rw [HZ.out, if_neg hxy]
        go_enter Try.func32, Try.ntmps32
        refine post_hid fun Q hQ => ?_
        go_wp2_with (first
          | (go_at_call 57; refine (HI.out _ (Below.refl _ _)).mono ?_; rintro e w1 ⟨rfl, h1⟩)
          | (go_at_call 34; refine (HP.out _ h1).mono ?_; rintro e w2 ⟨rfl, h2⟩; have H3 : Hid (Below w.heap.size w w2) := below_thru h1 h2; have q1 : ∀ nn, (w2.drewN nn).cell? ⟨A.block, A.off + 4, none⟩ = some (.int .i64 X) := (fun nn => (HR2.out _ (below_dr H3.out nn)).1); have q2 : ∀ nn, (w2.drewN nn).cell? ⟨ad.block, ad.off + 4, none⟩ = some (.int .i64 Y) := (fun nn => (HR2.out _ (below_dr H3.out nn)).2); clear h1 h2))
        go_quiet (fail)
        go_wp2_with fail
        rw [hQ.out]
        go_ret
        exact ⟨by first | (rw [HZ2.out]; done) | (rw [HZ2.out]; rfl), below_dr H3.out _⟩
    · have HZ2 : Hid (bsI l was = 0) := by show _ = _; rw [HB.out, if_neg hi, if_neg (fun e => hp e.1)]
      have hgd : decide (P ≥ 0) = false := by simp; omega
      clear h hN hl h0 b1 b2
      go_enter Try.func32, Try.ntmps32
      refine post_hid fun Q hQ => ?_
      go_wp2_with (first
        | (go_at_call 57; refine (HI.out _ (Below.refl _ _)).mono ?_; rintro e w1 ⟨rfl, h1⟩)
        | (go_at_call 34; refine (HP.out _ h1).mono ?_; rintro e w2 ⟨rfl, h2⟩; have H3 : Hid (Below w.heap.size w w2) := below_thru h1 h2; clear h1 h2))
      go_quiet (fail)
      go_wp2_with fail
      rw [hQ.out]
      go_ret
      exact ⟨by first | (rw [HZ2.out]; done) | (rw [HZ2.out]; rfl), below_dr H3.out _⟩
end Go.Proofs.Ytdlipponajilbaa
