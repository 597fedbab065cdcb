/- What the reader's method ext of package wire returns. -/
import Derived.Test.YtdobghhjlfffpaaYB
namespace Go.Proofs.Ytdobghhjlfffpaa
open Go.RowKit
/-- may a field begin here? -/
def xG (bs : List Int) : Prop := 28 ≤ fv bs 2 2 ∧ fv bs 2 2 % 4 = 0 ∧ fv bs 2 2 ≤ bs.length
/-- what ext has read -/
def XR (bs : List Int) (er ty : Int) (dat bs' : List Int) (er' : Int) : Prop :=
  (er ≠ 0 → er' = er) ∧ (er = 0 → 4 ≤ bs.length → ¬ xG bs → er' = 32) ∧ (er = 0 → 4 ≤ bs.length → xG bs → er' = 0 ∧ ty = fv bs 0 2 ∧ dat = (bs.drop 4).take ((fv bs 2 2).toNat - 4) ∧ bs' = bs.drop (fv bs 2 2).toNat)
theorem xr_any {bs : List Int} {er X1 X2 C E3 : Int} {D T : Bool} (hX1 : X1 = gt (tkT 2 bs er)) (hX2 : X2 = gt (tkT 2 (tkR 2 bs er) (tkE 2 bs er))) (hC : C = X2 - 4) (hD : D = dtB C)
    (hT : decide (C ≤ ((tkR 2 (tkR 2 bs er) (tkE 2 bs er)).length : Int)) = T) (hE : E3 = rk (D && T) (tkE 2 (tkR 2 bs er) (tkE 2 bs er)) 32) :
    XR bs er X1 (tkT C (tkR 2 (tkR 2 bs er) (tkE 2 bs er)) E3) (tkR C (tkR 2 (tkR 2 bs er) (tkE 2 bs er)) E3) (tkE C (tkR 2 (tkR 2 bs er) (tkE 2 bs er)) E3) := by
  by_cases hz : er = 0
  · subst hz
    by_cases h4 : 4 ≤ bs.length
    · obtain ⟨a1, a2, a3⟩ := tk_0 2 bs (by omega)
      have a1' : tkE 2 bs 0 = 0 := a1
      have a2' : tkT 2 bs 0 = bs.take 2 := a2
      have a3' : tkR 2 bs 0 = bs.drop 2 := a3
      obtain ⟨b1, b2, b3⟩ := tk_0 2 (bs.drop 2) (by rw [List.length_drop]; omega)
      have b1' : tkE 2 (bs.drop 2) 0 = 0 := b1
      have b2' : tkT 2 (bs.drop 2) 0 = (bs.drop 2).take 2 := b2
      have b3' : tkR 2 (bs.drop 2) 0 = (bs.drop 2).drop 2 := b3
      rw [a1', a3', b1'] at hE
      rw [a1', a3', b2'] at hX2
      rw [a1', a3', b3'] at hT
      rw [a2'] at hX1
      rw [a1', a3', b3', List.drop_drop] at *
      have f0 : X1 = fv bs 0 2 := by rw [hX1]; rfl
      have f2 : X2 = fv bs 2 2 := by rw [hX2]; rfl
      have hl : (bs.drop (2 + 2)).length = bs.length - 4 := by rw [List.length_drop]
      rw [hl] at hT
      by_cases hg : xG bs
      · obtain ⟨g1, g2, g3⟩ := hg
        rw [← f2] at g1 g2 g3
        have hD1 : D = true := by rw [hD]; unfold dtB; rw [decide_eq_true]; omega
        have hT1 : T = true := by rw [← hT, decide_eq_true]; omega
        have hE0 : E3 = 0 := by rw [hE, hD1, hT1]; rfl
        subst hE0
        obtain ⟨c, hc⟩ := Int.eq_ofNat_of_zero_le (show 0 ≤ C by omega)
        obtain ⟨d1, d2, d3⟩ := tk_0 c (bs.drop (2 + 2)) (by rw [hl]; omega)
        refine ⟨fun h => absurd rfl h, fun _ _ h => absurd ⟨by rw [← f2]; exact g1, by rw [← f2]; exact g2, by rw [← f2]; exact g3⟩ h, fun _ _ _ => ?_⟩
        rw [hc]
        refine ⟨d1, f0, ?_, ?_⟩
        · refine d2.trans ?_
          rw [← f2]
          congr 1
          omega
        · refine d3.trans ?_
          rw [List.drop_drop, ← f2]
          congr 1
          omega
      · have hE0 : E3 = 32 := by
          have hDT : (D && T) = false := by
            cases hDT : (D && T)
            · rfl
            · rw [Bool.and_eq_true] at hDT
              exfalso
              apply hg
              have q1 := hDT.1
              have q2 := hDT.2
              rw [hD] at q1
              unfold dtB at q1
              rw [decide_eq_true_iff] at q1
              rw [← hT, decide_eq_true_iff] at q2
              exact ⟨by rw [← f2]; omega, by rw [← f2]; omega, by rw [← f2]; omega⟩
          rw [hE, hDT]; rfl
        have h32 : ∀ n b, tkE n b E3 = 32 := fun n b => by rw [hE0]; exact tkE_ne (by decide)
        exact ⟨fun h => absurd rfl h, fun _ _ _ => h32 _ _, fun _ _ h => absurd h hg⟩
    · exact ⟨fun h => absurd rfl h, fun _ h => absurd h h4, fun _ h => absurd h h4⟩
  · refine ⟨fun _ => ?_, fun h => absurd h hz, fun h => absurd h hz⟩
    rw [hE, tkE_ne (n := 2) hz, tkE_ne hz, rk_ne hz, tkE_ne hz]
set_option maxRecDepth 4000 in
set_option maxHeartbeats 4000000 in
theorem rext_any (N q : Nat) (bs : List Int) (er : Int) (w : World) (hl : bs.length ≤ 10000000) (h : RdX N q w bs er) :
    Calls Try.prog 38 #[.pointer (some ⟨q, 0, none⟩)] w fun e' w' => ∃ (ty : Int) (ao : Option Addr) (n cap : Nat) (dat bs' : List Int) (er' : Int), e' = .returned (.agg #[.int .i64 ty, .slice ao n cap]) ∧ w.grownBy w' (some q) ∧ Own w' w.heap.size (.slice ao n cap) dat ∧ RdX N q w' bs' er' ∧ bs'.length ≤ bs.length ∧ XR bs er ty dat bs' er' := by
  have H : Hid (RdX N q w bs er) := h
  have hq : q < w.heap.size := h.hq
  have hok : okb bs := h.okb
  obtain ⟨X1, hX1⟩ : ∃ X, X = gt (tkT 2 bs er) := ⟨_, rfl⟩
  obtain ⟨b1, hb1⟩ : ∃ b, b = tkR 2 bs er := ⟨_, rfl⟩
  obtain ⟨e1, he1⟩ : ∃ e, e = tkE 2 bs er := ⟨_, rfl⟩
  obtain ⟨X2, hX2⟩ : ∃ X, X = gt (tkT 2 b1 e1) := ⟨_, rfl⟩
  obtain ⟨b2, hb2⟩ : ∃ b, b = tkR 2 b1 e1 := ⟨_, rfl⟩
  obtain ⟨e2, he2⟩ : ∃ e, e = tkE 2 b1 e1 := ⟨_, rfl⟩
  obtain ⟨C, hC⟩ : ∃ C, C = X2 - 4 := ⟨_, rfl⟩
  obtain ⟨D, hD⟩ : ∃ D, D = dtB C := ⟨_, rfl⟩
  obtain ⟨T, hT⟩ : ∃ T, decide (C ≤ (b2.length : Int)) = T := ⟨_, rfl⟩
  obtain ⟨E3, hE3⟩ : ∃ E, E = rk (D && T) e2 32 := ⟨_, rfl⟩
  have hk1 : okb b1 := by rw [hb1]; exact (tk_okb hok).2
  have bd1 := gtw_bd (tk_okb (n := 2) (er := er) hok).1 2 (tkT_len 2 bs er)
  have bd2 := gtw_bd (tk_okb (n := 2) (er := e1) hk1).1 2 (tkT_len 2 b1 e1)
  rw [← hX1] at bd1
  rw [← hX2] at bd2
  obtain ⟨x10, x11⟩ := bd1
  obtain ⟨x20, x21⟩ := bd2
  have x12 : X1 < 65536 := x11
  have x22 : X2 < 65536 := x21
  have eC : IntKind.i64.wrap (X2 - 4) = C := by rw [hC, IntKind.wrap_i64]; omega
  have l1 : b1.length ≤ bs.length := by rw [hb1]; exact tkR_len _ _ _
  have l2 : b2.length ≤ b1.length := by rw [hb2]; exact tkR_len _ _ _
  have HXR : Hid (XR bs er X1 (tkT C b2 E3) (tkR C b2 E3) (tkE C b2 E3)) := by
    subst hb1 he1 hb2 he2
    exact xr_any hX1 hX2 hC hD hT hE3
  have HLen : Hid (b2.length ≤ 10000000 ∧ (tkR C b2 E3).length ≤ bs.length) := ⟨by omega, Nat.le_trans (tkR_len _ _ _) (by omega)⟩
  have N1 : Hid (∀ w, RdX N q w bs er → Calls Try.prog 56 #[.pointer (some ⟨q, 0, none⟩), .int .i64 2] w fun e w' => e = .returned (.int .u64 X1) ∧ w.grownBy w' (some q) ∧ RdX N q w' b1 e1) := fun w h => by
    rw [hb1, he1]; exact num_hid N q 2 bs er X1 (by decide) hX1 w h
  have N2 : Hid (∀ w, RdX N q w b1 e1 → Calls Try.prog 56 #[.pointer (some ⟨q, 0, none⟩), .int .i64 2] w fun e w' => e = .returned (.int .u64 X2) ∧ w.grownBy w' (some q) ∧ RdX N q w' b2 e2) := fun w h => by
    rw [hb2, he2]; exact num_hid N q 2 b1 e1 X2 (by decide) hX2 w h
  have HD : Hid (∀ w, Calls Try.prog 54 #[.int .i64 C] w fun e w' => e = .returned (.bool D) ∧ w' = w) := fun w => by rw [hD]; exact dataFits_any C w
  have HE3 : Hid (E3 = rk (D && T) e2 32) := hE3
  clear h hok hX1 hb1 he1 hX2 hb2 he2 hC hD hE3 hk1 x11 x21 l1 l2 hl
  go_enter Try.func38, Try.ntmps38
  go_wp2_with fail
  refine (N1.out _ (H.out.below ((Below.refl w.heap.size w).alloc (Nat.le_refl _) _) hq)).mono ?_
  rintro e' w1 ⟨rfl, hg1, h1⟩
  have G1 : Hid (w.grownBy w1 (some q)) := mod_trans (mod_alloc (mod_refl w _) _) hg1
  have B1 : Hid (Bk w.heap.size w1 #[.int .i64 0, .slice none 0 0] 49) := (Bk.new w _ _).mod hg1 (by omega)
  have R1 : Hid (RdX N q w1 b1 e1) := h1
  clear hg1 h1
  go_wp2_with fail
  refine (N2.out _ R1.out).mono ?_
  rintro e' w2 ⟨rfl, hg2, h2⟩
  have G2 : Hid (w.grownBy w2 (some q)) := mod_trans G1.out hg2
  have B2 : Hid (Bk w.heap.size w2 #[.int .i64 0, .slice none 0 0] 49) := B1.out.mod hg2 (by omega)
  have R2 : Hid (RdX N q w2 b2 e2) := h2
  obtain ⟨ao2, cap2, r2⟩ := h2
  have c0 := r2.c0
  clear hg2 r2 G1 B1 R1
  cases D
  all_goals
    go_wp2_with (go_at_call 54; refine (HD.out _).mono ?_; rintro e' w3 ⟨rfl, hw⟩; rw [hw]; clear hw)
    refine (ask_any N q b2 e2 32 _ _ R2.out).mono ?_
    rintro e' w3 ⟨rfl, hg3, h3⟩
    have R3 : Hid (RdX N q w3 b2 E3) := by show RdX _ _ _ _ _; rw [HE3.out]; simpa using h3
    have G3 : Hid (w.grownBy w3 (some q)) := mod_trans G2.out hg3
    have B3 : Hid (Bk w.heap.size w3 #[.int .i64 0, .slice none 0 0] 49) := B2.out.mod hg3 (by omega)
    clear hg3 h3 c0
    go_wp2_with fail
    refine (rbytes_any N q b2 E3 C _ HLen.out.1 R3.out).mono ?_
    rintro e' w4 ⟨v4, rfl, hg4, ho4, h4⟩
    obtain ⟨ao, cap, hv, -⟩ := ho4.rs
    subst hv
    have G4 : Hid (w.grownBy w4 (some q)) := mod_trans G3.out hg4
    have B4 : Hid (Bk w.heap.size w4 #[.int .i64 0, .slice none 0 0] 49) := B3.out.mod hg4 (by omega)
    have O4 : Hid (Own w4 (w.heap.size + 1) (.slice ao (tkT C b2 E3).length cap) (tkT C b2 E3)) := ho4.mono B3.out.lt
    have R4 : Hid (RdX N q w4 (tkR C b2 E3) (tkE C b2 E3)) := h4
    obtain ⟨L4, hL4⟩ : ∃ L, L = (tkT C b2 E3).length := ⟨_, rfl⟩
    rw [← hL4] at O4 ⊢
    clear hg4 ho4 h4 hL4 G3 B3 R3
    have z0 : w4.cell? ⟨w.heap.size, 0, none⟩ = some (.int .i64 0) := B4.out.cell 0
    have z1 : w4.cell? ⟨w.heap.size, 1, none⟩ = some (.slice none 0 0) := B4.out.cell 1
    have zf := B4.out.frozen
    go_wp2_with fail
    have hN := R4.out.hN
    refine bodyPost_ret (v := .agg #[.int .i64 X1, .slice ao L4 cap]) (by simp [results, Try.results38, go_sem, z0, z1]) rfl ⟨_, _, _, _, tkT C b2 E3, tkR C b2 E3, tkE C b2 E3, rfl, ?_, ?_, ?_, HLen.out.2, HXR.out⟩
    · iterate 2 (refine mod_setNew ?_ (Nat.le_refl _))
      exact G4.out
    · refine Own.mono (B := w.heap.size + 1) ?_ (Nat.le_succ _)
      iterate 2 (refine Own.low ?_ (Nat.lt_succ_self _))
      exact O4.out
    · iterate 2 (refine RdX.far ?_ (by omega) (by omega) _)
      exact R4.out
end Go.Proofs.Ytdobghhjlfffpaa
