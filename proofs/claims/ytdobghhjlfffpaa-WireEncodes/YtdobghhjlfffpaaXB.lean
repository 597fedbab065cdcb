/- What IndexFunc, ContainsFunc and extsFit return on fields. -/
import Derived.Test.YtdobghhjlfffpaaXA
namespace Go.Proofs.Ytdobghhjlfffpaa
open Go.RowKit
theorem xidx_run {ao : Option Addr} {ad : Addr} (n cap k : Nat) (h : ao = some ad) (hk : (k : Int) < n) (w : World) : Sem.run Try.prog (Instr.indexAt 26 (.slice ao n cap) (.int .i64 (k : Int))) w = .ok (.pointer (some (ad.add (k * 2)))) w := by
  subst h
  have u46 := Try.underlying26
  have c3 : Try.prog.cellsOf 49 = 2 := by kernel_rfl
  have h0 : (0 : Int) ≤ k := Int.natCast_nonneg k
  go_simp
/-- a field out of a slice, as the walk loads it -/
theorem Es.at {N : Nat} {w : World} {ao : Option Addr} {n cap : Nat} {xs : List Xt} (h : Es N w (.slice ao n cap) xs) (k : Nat) (hk : k < xs.length) :
    ∃ (ad : Addr), Hid (ao = some ad) ∧ w.cell? (ad.add (k * 2)) = some (.int .i64 xs[k].ty) ∧ w.cell? ((ad.add (k * 2)).add 1) = some xs[k].dv ∧ Sv N w xs[k].dv xs[k].dat ∧ ad.block < N := by
  obtain ⟨ao', cap', hv, h2, h3, h4⟩ := h
  injection hv with p1 p2 p3
  subst p1
  obtain ⟨ad, g1, g2, g3, g4, g5⟩ := h4 k hk
  rw [Nat.mul_comm] at g3 g4
  exact ⟨ad, g1, g3, by rw [add_add]; exact g4, g5, g2⟩
/-- are the fields ahead of number k such that may be? -/
def xsB (xs : List Xt) : Bool := xs.all (fun x => xtB x.ty x.dat.length)
set_option maxHeartbeats 2000000 in
theorem indexFunc_any (N : Nat) (v : Value) (xs : List Xt) (w : World) (h : Es N w v xs) (hN : N ≤ w.heap.size) (hl : xs.length ≤ 100000) :
    Calls Try.prog 59 #[v, .func (.func 53) #[] #[]] w fun e w' => ∃ r : Int, e = .returned (.int .i64 r) ∧ (0 ≤ r ↔ xsB xs = false) ∧ Below w.heap.size w w' := by
  have H : Hid (Es N w v xs) := h
  obtain ⟨ao, cap, rfl, h1, -⟩ := h
  obtain ⟨L, hL⟩ : ∃ L, L = xs.length := ⟨_, rfl⟩
  rw [← hL] at H ⊢
  have HL : Hid (L = xs.length) := hL
  have l1 : (L : Int) ≤ 100000 := by omega
  clear hL h1 hl
  go_enter Try.func59, Try.ntmps59
  go_wp2
  go_loopw [8] (fun i wr => ∃ (k : Nat), i = .int .i64 (k : Int) ∧ (k : Int) ≤ L ∧ Hid (∀ j (hj : j < xs.length), j < k → xtB xs[j].ty xs[j].dat.length = true) ∧ Hid (Below w.heap.size w wr)) (fun i _ => (L - intOf i).toNat)
  case atStart => exact ⟨0, rfl, by omega, fun j _ hj => absurd hj (by omega), Below.refl _ _⟩
  case round =>
    obtain ⟨k, rfl, hk, hA, hB⟩ := hrel
    by_cases hlt : (k : Int) < L
    · have hkx : k < xs.length := by have := HL.out; omega
      obtain ⟨ad, g1, g2, g3, g4, -⟩ := (H.out.below hB.out hN).at k hkx
      have hix : ∀ w, Sem.run Try.prog (Instr.indexAt 26 (.slice ao L cap) (.int .i64 (k : Int))) w = .ok (.pointer (some (ad.add (k * 2)))) w := xidx_run L cap k g1.out hlt
      obtain ⟨A, hA0⟩ : ∃ A, A = ad.add (k * 2) := ⟨_, rfl⟩
      rw [← hA0] at hix g2 g3
      obtain ⟨A1, hA1⟩ : ∃ B, A.add 1 = B := ⟨_, rfl⟩
      rw [hA1] at g3
      obtain ⟨ty, hty⟩ : ∃ t, t = xs[k].ty := ⟨_, rfl⟩
      obtain ⟨dv, hdv⟩ : ∃ d, d = xs[k].dv := ⟨_, rfl⟩
      obtain ⟨dat, hdat⟩ : ∃ d, d = xs[k].dat := ⟨_, rfl⟩
      rw [← hty] at g2
      rw [← hdv] at g3
      rw [← hdv, ← hdat] at g4
      obtain ⟨da, dc, hd, -⟩ := g4
      subst hd
      obtain ⟨X, hX⟩ : ∃ X, X = xtB ty dat.length := ⟨_, rfl⟩
      have HX : Hid (X = xtB xs[k].ty xs[k].dat.length) := by show _ = _; rw [hX, hty, hdat]
      have HF : Hid (∀ w, Calls Try.prog 53 #[.agg #[.int .i64 ty, .slice da dat.length dc]] w fun e w' => e = .returned (.bool (!X)) ∧ Below w.heap.size w w') := fun w => by rw [hX]; exact extFit_any ty da _ dc w
      obtain ⟨dn, hdn⟩ : ∃ n, n = dat.length := ⟨_, rfl⟩
      rw [← hdn] at HF g3
      clear hA0 hty hdv hdat hX hdn g1
      have g3' : wr.cell? { block := A.block, off := A.off + 1 } = some (.slice da dn dc) := by rw [← hA1] at g3; simpa [Addr.add] using g3
      have HN : Hid (w.heap.size ≤ wr.heap.size) := hB.out.size
      go_wp2_with fail
      refine (HF.out _).mono ?_
      rintro e' w1 ⟨rfl, hb1⟩
      have B1 : Hid (Below w.heap.size w w1) := hB.out.trans (hb1.mono HN.out)
      clear hb1 g2 g3 g3'
      cases X
      · go_wp2_with fail
        go_ret
        refine ⟨_, rfl, ?_, B1.out⟩
        refine ⟨fun _ => ?_, fun _ => by omega⟩
        rw [Bool.eq_false_iff]
        intro ht
        unfold xsB at ht
        rw [List.all_eq_true] at ht
        have := ht xs[k] (List.getElem_mem hkx)
        rw [← HX.out] at this
        cases this
      · go_wp2_with fail
        refine ⟨⟨k + 1, by go_num, by omega, fun j hj hjk => ?_, B1⟩, by simp [intOf]; omega⟩
        by_cases hjk' : j < k
        · exact hA.out j hj hjk'
        · have : j = k := by omega
          subst this
          exact HX.out.symm
    · go_wp2_with fail
      go_ret
      refine ⟨_, rfl, ?_, hB.out⟩
      refine ⟨fun h => absurd h (by decide), fun h => ?_⟩
      rw [Bool.eq_false_iff] at h
      refine absurd ?_ h
      unfold xsB
      rw [List.all_eq_true]
      intro x hx
      obtain ⟨j, hj, rfl⟩ := List.mem_iff_getElem.1 hx
      exact hA.out j hj (by have := HL.out; omega)
set_option maxHeartbeats 400000 in
theorem containsFunc_any (N : Nat) (v : Value) (xs : List Xt) (w : World) (h : Es N w v xs) (hN : N ≤ w.heap.size) (hl : xs.length ≤ 100000) :
    Calls Try.prog 52 #[v, .func (.func 53) #[] #[]] w fun e w' => e = .returned (.bool (!xsB xs)) ∧ Below w.heap.size w w' := by
  have H := indexFunc_any N v xs w h hN hl
  have HI : Hid (Calls Try.prog 59 #[v, .func (.func 53) #[] #[]] w fun e w' => ∃ r : Int, e = .returned (.int .i64 r) ∧ (0 ≤ r ↔ xsB xs = false) ∧ Below w.heap.size w w') := H
  clear H h hN hl
  go_enter Try.func52, Try.ntmps52
  go_wp2_with fail
  refine HI.out.mono ?_
  rintro e' w1 ⟨r, rfl, hr, hb⟩
  have HB : Hid (Below w.heap.size w w1) := hb
  have HR : Hid (decide (0 ≤ r) = !xsB xs) := by
    show _ = _
    cases hx : xsB xs
    · rw [decide_eq_true (hr.2 hx)]; rfl
    · rw [decide_eq_false (fun h => by rw [hr.1 h] at hx; cases hx)]; rfl
  obtain ⟨R, hR⟩ : ∃ R, decide (0 ≤ r) = R := ⟨_, rfl⟩
  have HR2 : Hid (R = !xsB xs) := by show _ = _; rw [← hR]; exact HR.out
  clear hb hr
  go_wp2_with fail
  go_ret
  exact ⟨ret_bool' HR2.out, HB.out⟩
set_option maxHeartbeats 400000 in
theorem extsFit_any (N : Nat) (v : Value) (xs : List Xt) (w : World) (h : Es N w v xs) (hN : N ≤ w.heap.size) (hl : xs.length ≤ 100000) :
    Calls Try.prog 30 #[v] w fun e w' => e = .returned (.bool (xsB xs)) ∧ Below w.heap.size w w' := by
  have HI : Hid (Calls Try.prog 52 #[v, .func (.func 53) #[] #[]] w fun e w' => e = .returned (.bool (!xsB xs)) ∧ Below w.heap.size w w') := containsFunc_any N v xs w h hN hl
  clear h hN hl
  go_enter Try.func30, Try.ntmps30
  go_wp2_with fail
  refine HI.out.mono ?_
  rintro e' w1 ⟨rfl, hb⟩
  have HB : Hid (Below w.heap.size w w1) := hb
  clear hb
  go_wp2_with fail
  go_ret
  exact ⟨ret_bool' (by simp), HB.out⟩
end Go.Proofs.Ytdobghhjlfffpaa
