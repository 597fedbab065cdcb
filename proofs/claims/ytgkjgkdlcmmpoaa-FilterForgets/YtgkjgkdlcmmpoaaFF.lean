/- What grown, dispersion and jitter return. -/
import Derived.Test.YtgkjgkdlcmmpoaaFE
namespace Go.Proofs.Ytgkjgkdlcmmpoaa
open Go Go.RowKit Fi
/-- a sample whose numbers are of 64 bits -/
def okS (s : Smp) : Prop := (-9223372036854775808 ≤ s.o ∧ s.o ≤ 9223372036854775807) ∧ (-9223372036854775808 ≤ s.d ∧ s.d ≤ 9223372036854775807) ∧ (-9223372036854775808 ≤ s.p ∧ s.p ≤ 9223372036854775807) ∧ (0 ≤ s.a ∧ s.a < 18446744073709551616)
theorem run_mxS (a b : Int) (u : World) : (Builtin.max_ #[23, 23] 23 #[.int .i64 a, .int .i64 b]).run Try.prog u = .ok (.int .i64 (if a < b then b else a)) u := by simp [go_sem]
theorem run_mnS (a b : Int) (u : World) : (Builtin.min_ #[23, 23] 23 #[.int .i64 a, .int .i64 b]).run Try.prog u = .ok (.int .i64 (if b < a then b else a)) u := by simp [go_sem]
theorem sn_bd (a b : Int) : -4611686018427387904 ≤ sn a b ∧ sn a b ≤ 4611686018427387904 := by unfold sn; exact Fx.cl_bd (by decide) _
theorem dr_bd (a : Int) : -4611686018427387904 ≤ dr a ∧ dr a ≤ 4611686018427387904 := by unfold dr; exact Fx.cl_bd (by decide) _
set_option maxHeartbeats 1000000 in
theorem grown_any (s : Smp) (now : Int) (w : World) (hs : okS s) :
    Calls Try.prog 29 #[.agg (smL s).toArray, .int .u64 now] w fun e w' => e = .returned (.int .i64 (gr s now)) ∧ Below w.heap.size w w' := by
  have hp := hs.2.2.1
  clear hs
  obtain ⟨so, sd, sp, sa⟩ := s
  obtain ⟨D, hD⟩ : ∃ D, D = sn now sa := ⟨_, rfl⟩
  have bD := sn_bd now sa
  rw [← hD] at bD
  have HS : Hid (∀ u, Calls Try.prog 33 #[.int .u64 now, .int .u64 sa] u fun e w' => e = .returned (.int .i64 D) ∧ w' = u) := fun u => by rw [hD]; exact since_any now sa u
  obtain ⟨A, hA⟩ : ∃ A, A = max D 0 := ⟨_, rfl⟩
  have m1 : ∀ u, (Builtin.max_ #[23, 23] 23 #[.int .i64 D, .int .i64 0]).run Try.prog u = .ok (.int .i64 A) u := fun u => by rw [run_mxS, hA]; congr 2; split <;> omega
  have bA : 0 ≤ A ∧ A ≤ 4611686018427387904 := by omega
  obtain ⟨E, hE⟩ : ∃ E, E = dr A := ⟨_, rfl⟩
  have bE := dr_bd A
  rw [← hE] at bE
  have HD : Hid (∀ u, Calls Try.prog 46 #[.int .i64 4222124650, .int .i64 A] u fun e w' => e = .returned (.int .i64 E) ∧ ∃ n, w' = u.drewN n) := fun u => by rw [hE]; exact drift_any _ _ u (by decide) (by decide) (by omega) (by omega)
  obtain ⟨F, hF⟩ : ∃ F, F = Fx.cl 4611686018427387904 (sp + E) := ⟨_, rfl⟩
  have HA : Hid (∀ u, Calls Try.prog 45 #[.int .i64 sp, .int .i64 E] u fun e w' => e = .returned (.int .i64 F) ∧ w' = u) := fun u => by rw [hF]; exact add_any _ _ u hp.1 hp.2 (by omega) (by omega)
  obtain ⟨G, hG⟩ : ∃ G, G = max F 0 := ⟨_, rfl⟩
  have m2 : ∀ u, (Builtin.max_ #[23, 23] 23 #[.int .i64 F, .int .i64 0]).run Try.prog u = .ok (.int .i64 G) u := fun u => by rw [run_mxS, hG]; congr 2; split <;> omega
  obtain ⟨H, hH⟩ : ∃ H, H = min G 68719476736 := ⟨_, rfl⟩
  have m3 : ∀ u, (Builtin.min_ #[23, 23] 23 #[.int .i64 G, .int .i64 68719476736]).run Try.prog u = .ok (.int .i64 H) u := fun u => by rw [run_mnS, hH]; congr 2; split <;> omega
  have e : gr ⟨so, sd, sp, sa⟩ now = H := by unfold gr; rw [hH, hG, hF, hE, hA, hD]
  rw [e]
  clear e hH hG hF hE hA hD bD bA bE hp
  unfold smL
  simp only
  go_enter Try.func29, Try.ntmps29
  go_wp2_with (go_at_call 33; refine (HS.out _).mono ?_; rintro e w' ⟨rfl, rfl⟩)
  go_quiet (first | (go_at_call 46; exact Calls.quiet_of (HD.out _)) | (go_at_call 45; exact Calls.quiet_of_same (HA.out _)))
  go_wp2
  go_ret
  exact ⟨rfl, (by repeat' (first | with_reducible exact Below.refl _ _ | with_reducible refine Below.setCell ?_ (by first | (simp; done) | (simp; omega) | omega) _ | with_reducible refine below_drewN ?_ _ | with_reducible refine Below.drew ?_ | with_reducible refine Below.alloc ?_ (by first | (simp; done) | (simp; omega) | omega) _))⟩
/-- samples in block g, from its beginning on -/
structure Sg (w : World) (g : Nat) (l : List Smp) : Prop where
  lt : g < w.heap.size
  cell : ∀ i, i < l.length → ∀ j u, (smL (l.getD i z0))[j]? = some u → w.cell? ((⟨g, i * 4, none⟩ : Addr).add j) = some u
theorem Sg.below {w w' : World} {g : Nat} {l : List Smp} (h : Sg w g l) {B : Nat} (hb : Below B w w') (hg : g < B) : Sg w' g l := ⟨Nat.lt_of_lt_of_le h.lt hb.size, fun i hi j u hu => (hb.cell (p := (⟨g, i * 4, none⟩ : Addr).add j) (by rw [add_block]; exact hg)).trans (h.cell i hi j u hu)⟩
theorem Sg.c1 {w : World} {g : Nat} {l : List Smp} (h : Sg w g l) (i : Nat) (hi : i < l.length) (j : Nat) (hj : j < 4) : w.cell? ⟨g, i * 4 + j, none⟩ = (smL (l.getD i z0))[j]? := by
  have := h.cell i hi j _ (List.getElem?_eq_getElem (show j < (smL (l.getD i z0)).length from hj))
  rw [add_at] at this
  rw [this, List.getElem?_eq_getElem (show j < (smL (l.getD i z0)).length from hj)]
theorem ix_sl (g n cap i : Nat) (hi : (i : Int) < n) : ∀ w, Sem.run Try.prog (Instr.indexAt 22 (.slice (some ⟨g, 0, none⟩) n cap) (.int .i64 (i : Int))) w = .ok (.pointer (some ⟨g, i * 4, none⟩)) w := by
  intro w
  have u := Try.underlying22
  have c3 : Try.prog.cellsOf 27 = 4 := by kernel_rfl
  have h0 : (0 : Int) ≤ i := Int.natCast_nonneg i
  have e : (⟨g, 0, none⟩ : Addr).add (i * 4) = ⟨g, i * 4, none⟩ := add_own _ _
  rw [← e]
  go_simp
set_option maxHeartbeats 1000000 in
theorem dispersion_any (g n cap : Nat) (l : List Smp) (now : Int) (w : World) (h : Sg w g l) (hn : l.length = n) (ok : ∀ s ∈ l, okS s) :
    Calls Try.prog 18 #[.slice (some ⟨g, 0, none⟩) n cap, .int .u64 now] w fun e w' => e = .returned (.int .i64 (ds l now 8)) ∧ Below w.heap.size w w' := by
  have HL : Hid (l.length = n) := hn
  have HG : Hid (Sg w g l) := h
  have HO : Hid (∀ s ∈ l, okS s) := ok
  obtain ⟨Z, hZ⟩ : ∃ Z, Z = ds l now 8 := ⟨_, rfl⟩
  rw [← hZ]
  have HZ : Hid (Z = ds l now 8) := hZ
  clear h hn ok hZ
  go_enter Try.func18, Try.ntmps18
  go_wp2
  go_loopw [5, 8] (fun sm i wr => ∃ (k : Nat) (S : Int), i = .int .i64 k ∧ sm = .int .i64 S ∧ (k : Int) ≤ 8 ∧ 0 ≤ S ∧ S ≤ 549755813888 ∧ Hid (S = ds l now k ∧ Below w.heap.size w wr)) (fun _ i _ => 8 - (intOf i).toNat)
  case atStart => exact ⟨0, 0, rfl, rfl, by omega, by omega, by omega, ⟨rfl, Below.refl _ _⟩⟩
  case round =>
    obtain ⟨k, S, rfl, rfl, hk, s0, s1, HK⟩ := hrel
    by_cases hlt : (k : Int) < 8
    · obtain ⟨X, hX⟩ : ∃ X, X = pt l now k := ⟨_, rfl⟩
      have bX := pt_bd l now k
      rw [← hX] at bX
      obtain ⟨Y, hY⟩ : ∃ Y, Y = X / 2 ^ (k + 1) := ⟨_, rfl⟩
      have bY : 0 ≤ Y ∧ Y ≤ 68719476736 := by
        have h1 : 0 ≤ X / 2 ^ (k + 1) := Int.ediv_nonneg bX.1 (Int.le_of_lt (Int.pow_pos (by decide)))
        have h2 : X / 2 ^ (k + 1) ≤ X := Int.ediv_le_self _ bX.1
        omega
      have HSh : Hid (∀ u, Calls Try.prog 30 #[.int .i64 X, .int .i64 (-(k : Int) - 1)] u fun e w' => e = .returned (.int .i64 Y) ∧ w' = u) := fun u => by
        have := shift_any X (-(k : Int) - 1) u (by omega) (by omega)
        rw [Fx.sh_neg _ _ (by omega), show (min (-(-(k : Int) - 1)) 63).toNat = k + 1 by omega, ← hY] at this
        exact this
      have HN : Hid (S + Y = ds l now (k + 1) ∧ S + Y ≤ 549755813888) := by
        have e : S + Y = ds l now (k + 1) := by rw [ds, HK.out.1, hY, hX]
        refine ⟨e, ?_⟩
        have := (ds_bd l now (k + 1) (by omega)).2
        rw [e]
        have e2 : (68719476736 : Int) * ((k + 1 : Nat) : Int) ≤ 549755813888 := by omega
        omega
      have b2 := HN.out.2
      by_cases hc : (k : Int) < n
      · have hkl : k < l.length := by have := HL.out; omega
        have hix := ix_sl g n cap k hc
        have HC : Hid (∀ j u, (smL (l.getD k z0))[j]? = some u → wr.cell? ((⟨g, k * 4, none⟩ : Addr).add j) = some u) := (HG.out.below HK.out.2 HG.out.lt).cell k hkl
        have HGr : Hid (∀ u, Calls Try.prog 29 #[.agg (smL (l.getD k z0)).toArray, .int .u64 now] u fun e w' => e = .returned (.int .i64 X) ∧ Below u.heap.size u w') := fun u => by
          have e : X = gr (l.getD k z0) now := by rw [hX]; unfold pt; rw [List.getD_eq_getElem?_getD, List.getElem?_eq_getElem hkl]; rfl
          rw [e]
          exact grown_any _ now u (HO.out _ (by rw [List.getD_eq_getElem?_getD, List.getElem?_eq_getElem hkl]; exact List.getElem_mem hkl))
        clear hX hY hkl
        go_wp2_with (first | (refine step_ldat 27 _ rfl rfl ⟨g, k * 4, none⟩ (by rfl) (smL (l.getD k z0)) _ Try.underlying27 rfl (by kernel_rfl) HC.out ?_) | (go_at_call 29; refine (HGr.out _).mono ?_; rintro e w3 ⟨rfl, hb3⟩) | (go_at_call 30; refine (HSh.out _).mono ?_; rintro e w' ⟨rfl, rfl⟩))
        go_roundw
        case rel => exact ⟨k + 1, S + Y, by go_num, rfl, by omega, by omega, b2, ⟨HN.out.1, Below.then HK.out.2 hb3⟩⟩
        case measure => simp [intOf]; omega
      · have e : X = 68719476736 := by rw [hX]; unfold pt; rw [List.getElem?_eq_none (by have := HL.out; omega)]
        subst e
        clear hX hY
        go_wp2_with (go_at_call 30; refine (HSh.out _).mono ?_; rintro e w' ⟨rfl, rfl⟩)
        go_roundw
        case rel => exact ⟨k + 1, S + Y, by go_num, rfl, by omega, by omega, b2, ⟨HN.out.1, HK.out.2⟩⟩
        case measure => simp [intOf]; omega
    · have hk8 : k = 8 := by omega
      subst hk8
      go_wp2
      go_ret
      exact ⟨ret_int' (by rw [HZ.out, HK.out.1]), HK.out.2⟩
end Go.Proofs.Ytgkjgkdlcmmpoaa
