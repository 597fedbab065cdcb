/- ClockLeaps, walked. -/
import Derived.Test.YtdmaaigchfgmdaaCkN2
import Derived.Test.YtdmaaigchfgmdaaHM
namespace Go.Proofs.Ytdmaaigchfgmdaa
open Go Go.RowKit Go.Sort Go.Maps
set_option linter.unusedVariables false
theorem zeroSpan (w : World) : (zeroValue 29).run Try.prog w = .ok (.int .i64 0) w := by kernel_rfl
/-- a map from numbers to spans -/
def Mq (w : World) (b n : Nat) (f : Int → Value) : Prop := Mv .i64 3 29 (.lit (.int .i64 0)) w b n f
theorem Mq.get {w : World} {b n : Nat} {f : Int → Value} (h : Mq w b n f) {k : Int} (hk : (Lit.int .i64 k).wf = true) : (Instr.lookup 56 (.map (some b)) (.int .i64 k) false).run Try.prog w = .ok (f k) w :=
  Mv.get h Try.underlying3 Try.underlying56 (.inr ⟨_, Try.underlying29⟩) (zeroSpan w) (plainElem_int Try.underlying29 (by decide)) hk
theorem Mq.made (w : World) : Mq (w.alloc (.map #[] 0)) w.heap.size 0 (fun _ => .int .i64 0) := Mv.made (plainElem_int Try.underlying29 (by decide)) w
theorem step_putq {w : World} {ops : Array Oper} {rest : List Oper} {o : Oper} {a : Act} {Q : Exit → Act → World → Prop} (hgd : o.guard = none) (m x y : Operand) (ho : o.op = .insert 56 m x y)
    (b n : Nat) (f : Int → Value) (k v : Int) (hm : a.eval m = .map (some b)) (hx : a.eval x = .int .i64 k) (hy : a.eval y = .int .i64 v) (hn : n < maxLen) (hk : (Lit.int .i64 k).wf = true) (hv : (Lit.int .i64 v).wf = true)
    (h : Mq w b n f) (hgo : ∀ w', Mq w' b (n + 1) (fun j => if j = k then .int .i64 v else f j) → w.grownBy w' (some b) → wpList Try.prog ops Q rest (a.put o.dst undef) w') : wpList Try.prog ops Q (o :: rest) a w :=
  wpList_put hgd m x y 56 (.inl ho) b n f k _ _ Try.underlying3 Try.underlying56 hm hx hy hn hk (plainElem_int Try.underlying29 hv) h hgo
/-- a clock beside the law's copy of the date -/
structure Wg (w u : World) (g : Nat) (B A : Int) (p : Nat) (s : Cs) : Prop where
  c : Wc w u p s
  bk : Bk g u #[.int .i64 B, .int .u64 A] 25
  np : g ≠ p
  lg : w.heap.size ≤ g
theorem Wg.thru {w u u' : World} {g p : Nat} {B A : Int} {s : Cs} (h : Wg w u g B A p s) (hb : Below u.heap.size u u') : Wg w u' g B A p s := ⟨h.c.thru hb, Bk.kept h.bk (hb.block _ h.bk.lt), h.np, h.lg⟩
theorem Wg.mod {w u u' : World} {g p : Nat} {B A : Int} {s s' : Cs} (h : Wg w u g B A p s) (a : Wc w u' p s') (hg : u.grownBy u' (some p)) : Wg w u' g B A p s' := ⟨a, Bk.kept h.bk (hg.block _ h.bk.lt (fun e => h.np (Option.some.inj e))), h.np, h.lg⟩
theorem Wg.new {w u v u' : World} {g p : Nat} {B A : Int} {s : Cs} {b : Nat} (h : Wg w u g B A p s) (hb : Below u.heap.size u v) (hg : v.grownBy u' (some b)) (hbu : u.heap.size ≤ b) : Below u.heap.size u u' := hb.grown hg hb.size (fun k hk => by injection hk with hk; omega)
theorem floor_any (S : Int) (w : World) (h0 : -4611686018427387904 ≤ S) (h1 : S ≤ 4611686018427387904) : Calls Try.prog 24 #[.int .i64 S] w fun e w' => e = .returned (.int .i64 (S / 86400)) ∧ w' = w := by
  obtain ⟨T, hT⟩ : ∃ T, S.tdiv 86400 = T := ⟨_, rfl⟩
  obtain ⟨M, hM⟩ : ∃ T, S.tmod 86400 = T := ⟨_, rfl⟩
  have a1 := Int.mul_tdiv_add_tmod S 86400
  have a2 := Int.tmod_lt_of_pos S (show (0 : Int) < 86400 by decide)
  have a3 := Int.lt_tmod_of_pos S (show (0 : Int) < 86400 by decide)
  have a4 := Int.tmod_nonneg (a := S) 86400
  have a5 : S ≤ 0 → S.tmod 86400 ≤ 0 := fun h => by have := Int.tmod_nonneg (a := -S) 86400 (by omega); rw [Int.neg_tmod] at this; omega
  rw [hM] at a1 a2 a3 a4 a5
  rw [hT] at a1
  have m1 : wrap64 T = T := w64i _ (by omega) (by omega)
  have m2 : wrap64 (T * 86400) = T * 86400 := w64i _ (by omega) (by omega)
  have m3 : wrap64 (T - 1) = T - 1 := w64i _ (by omega) (by omega)
  have hD : S / 86400 = if S < 0 ∧ ¬ T * 86400 = S then T - 1 else T := by
    split <;> omega
  rw [hD]
  clear a1 a2 a3 a4 a5 hM hD
  by_cases hs : S < 0
  · by_cases ht : T * 86400 = S
    · rw [if_neg (fun h => h.2 ht)]
      go_enter Try.func24, Try.ntmps24
      go_wp2
      go_ret
      exact ⟨ret_int' (by first | rfl | exact m1), rfl⟩
    · rw [if_pos ⟨hs, ht⟩]
      go_enter Try.func24, Try.ntmps24
      go_wp2
      go_ret
      exact ⟨ret_int' (by first | rfl | exact m3), rfl⟩
  · rw [if_neg (fun h => hs h.1)]
    go_enter Try.func24, Try.ntmps24
    go_wp2
    go_ret
    exact ⟨ret_int' (by first | rfl | exact m1), rfl⟩
def lS (X l : Int) : Cs := ⟨X, 0, 0, 0, 0, l, 0⟩
theorem lS_ok {X l : Int} (x0 : -18446744073709551616000 ≤ X) (x1 : X < 18465190817783261167616) (l0 : 0 ≤ l) (l1 : l ≤ 2) : OkC (lS X l) := by
  constructor <;> simp only [lS] <;> omega
theorem lS_zero (X l : Int) : lepS (lS X l) 0 = lS X l := by unfold lepS lS; simp
theorem lS_pass {X l : Int} (a b : Nat) (hk : (a : Int) + b ≤ 1048576) : paE (lepS (lS X l) a) b = false ∧ paS (lepS (lS X l) a) b = lepS (lS X l) (a + b) := by
  have h : paE (lepS (lS X l) a) b = false := by
    unfold paE
    rw [decide_eq_false (show ¬ (b : Int) < 0 by omega), decide_eq_false (show ¬ 1048576 - (lepS (lS X l) a).n < (b : Int) by simp only [lepS, lS]; omega)]; rfl
  refine ⟨h, ?_⟩
  unfold paS
  rw [h, if_neg (by decide), Int.toNat_natCast, ← lep_pass (s := lS X l) rfl rfl rfl rfl a, pass_add, lep_pass (s := lS X l) rfl rfl rfl rfl (a + b)]
theorem lep_e (X l : Int) (k : Nat) : (lepS (lS X l) k).e = if X / 4294967296 / 86400 < (X / 4294967296 + k) / 86400 then lpW l else 0 := by
  have e : (X + 4294967296 * (k : Int)) / 4294967296 = X / 4294967296 + k := by omega
  unfold lepS lS dayI
  simp only
  rw [e]
set_option maxRecDepth 20000 in
set_option maxHeartbeats 8000000 in
theorem ClockLeaps_row (era at' l : Int) (v : Value) (xs : List Int) (w : World) (he : -9223372036854775808 ≤ era ∧ era ≤ 9223372036854775807) (ha : 0 ≤ at' ∧ at' < 18446744073709551616) (hl : -9223372036854775808 ≤ l ∧ l ≤ 9223372036854775807) (hv : Si w.heap.size w v xs) :
    Calls Try.prog 6 #[.agg #[.int .i64 era, .int .u64 at'], .int .i64 l, v] w fun e w' => e = .returned (.bool true) ∧ Below w.heap.size w w' := by
  obtain ⟨ao, cap, rfl, -⟩ := hv.ex
  obtain ⟨n, hn⟩ : ∃ n, n = xs.length := ⟨_, rfl⟩
  rw [← hn] at hv ⊢
  have HV : Hid (Si w.heap.size w (.slice ao n cap) xs ∧ n = xs.length) := ⟨hv, hn⟩
  obtain ⟨X, hX⟩ : ∃ X, nwE era * 18446744073709551616 + at' = X := ⟨_, rfl⟩
  have bE := nwE_bd era
  obtain ⟨B, hB⟩ : ∃ B, nwE era = B := ⟨_, rfl⟩
  have HX : Hid (newS era at' 0 0 = zS X 0 ∧ (-18446744073709551616000 ≤ X ∧ X < 18465190817783261167616) ∧ (0 ≤ at' ∧ at' < 18446744073709551616)) := ⟨by rw [zS_new, hX], by omega, ha⟩
  have E0 : Hid (era < -1000 → B = 0) := fun h => by rw [← hB]; unfold nwE; rw [if_pos (Or.inl h)]
  have E1 : Hid (1000 < era → B = 0) := fun h => by rw [← hB]; unfold nwE; rw [if_pos (Or.inr h)]
  have E2 : Hid (¬ era < -1000 → ¬ 1000 < era → B = era) := fun h h' => by rw [← hB]; unfold nwE; rw [if_neg (by omega)]
  rw [hB] at bE hX
  obtain ⟨Y, hY⟩ : ∃ Y, X / 4294967296 = Y := ⟨_, rfl⟩
  have m1 : wrap64 (B * 4294967296) = B * 4294967296 := w64i _ (by omega) (by omega)
  have m2 : wrap64 (at' / 4294967296) = at' / 4294967296 := w64i _ (by omega) (by omega)
  have m3 : B * 4294967296 + at' / 4294967296 = Y := by omega
  have bY : -4611686018427387904 ≤ Y + 262144 ∧ Y + 262144 ≤ 4611686018427387904 ∧ -4611686018427387904 ≤ Y := by omega
  have m4 : wrap64 Y = Y := w64i _ (by omega) (by omega)
  have HM : Hid (wrap64 (B * 4294967296) = B * 4294967296 ∧ wrap64 (at' / 4294967296) = at' / 4294967296 ∧ B * 4294967296 + at' / 4294967296 = Y ∧ wrap64 Y = Y) := ⟨m1, m2, m3, m4⟩
  have HYb : Hid (-4611686018427387904 ≤ Y + 262144 ∧ Y + 262144 ≤ 4611686018427387904 ∧ -4611686018427387904 ≤ Y) := bY
  clear m1 m2 m3 m4 bY
  have HY : Hid (X / 4294967296 = Y) := hY
  have HL : Hid (-9223372036854775808 ≤ l ∧ l ≤ 9223372036854775807) := hl
  clear hv hn ha he bE hX hB hY hl
  go_enter Try.func6, Try.ntmps6
  refine post_hid fun Q hQ => ?_
  refine seq_hid fun R hR => ?_
  go_wp2_with (refine step_boxL (by rfl) 25 _ rfl #[.int .i64 era, .int .u64 at'] (by rfl) (fun u => by rfl) ?_; intro W1 g1 H1)
  rw [hR.out]
  clear hR
  refine seq_hid fun R hR => ?_
  go_wp2_with (go_at_call 16; refine (shown_any _).mono ?_; rintro e w1 ⟨rfl, hb⟩; have H2 : Hid (Below w.heap.size w w1 ∧ Bk g1 w1 #[.int .i64 era, .int .u64 at'] 25 ∧ w.heap.size ≤ g1) := ⟨below_thru H1.out.be hb, Bk.kept H1.out.bk (hb.block _ H1.out.bk.lt), by rw [H1.out.at']; exact Nat.le_refl _⟩; clear hb)
  rw [hR.out]
  clear hR H1
  have c0 : w1.cell? ⟨g1, 0, none⟩ = some (.int .i64 era) := H2.out.2.1.cell 0
  have c1 : w1.cell? ⟨g1, 1, none⟩ = some (.int .u64 at') := H2.out.2.1.cell 1
  refine seq_hid fun R hR => ?_
  go_wp2_with (go_at_call 7; have hK := wc_new (w := w) H2.out.1 era at' 0 0 HX.out.2.2.1 HX.out.2.2.2 (zS X 0) HX.out.1; (with_reducible refine hK.mono ?_); clear hK; rintro e w2 ⟨p, rfl, h1, h2, h3⟩; have H3 : Hid (Wg w w2 g1 era at' p (zS X 0)) := ⟨h1, Bk.kept H2.out.2.1 (h3.block _ H2.out.2.1.lt), fun e => by have := H2.out.2.1.lt; omega, H2.out.2.2⟩; clear h1 h2 h3)
  rw [hR.out]
  clear hR c0 c1 H2
  by_cases hr : 0 ≤ l ∧ l ≤ 2
  · have HS : Hid (slS (zS X 0) l = lS X l) := by show _ = _; unfold slS; rw [if_pos hr]; rfl
    have hb : decide (0 ≤ l ∧ l ≤ 2) = true := decide_eq_true hr
    refine seq_hid fun R hR => ?_
    go_wp2_with (go_at_call 23; have hK := wc_setLeap H3.out.c l (lS X l) HS.out true hb; (with_reducible refine hK.mono ?_); clear hK; rintro e w3 ⟨rfl, h1, h2⟩; have H4 : Hid (Wg w w3 g1 era at' p (lS X l)) := H3.out.mod h1 h2; clear h1 h2)
    rw [hR.out]
    clear hR H3 hb
    have hmm := @run_makeMap Try.prog
    refine seq_hid fun R hR => ?_
    have M0 : Hid (Mq (w3.alloc (.map #[] 0)) w3.heap.size 0 (fun _ => .int .i64 0)) := Mq.made w3
    have B0 : Hid (Below w3.heap.size w3 (w3.alloc (.map #[] 0))) := (Below.refl _ _).alloc (Nat.le_refl _) _
    have HK : Hid ((Lit.int .i64 l).wf = true) := by
      show _ = _
      rcases (show l = 0 ∨ l = 1 ∨ l = 2 by omega) with rfl | rfl | rfl <;> decide
    go_wp2_with (first
      | (refine step_putq rfl _ _ _ rfl w3.heap.size 0 _ _ _ (by rfl) (by rfl) (by rfl) (by decide) (by decide) (by decide) M0.out ?_; intro v1 n1 g1; have M1 : Hid (Mq v1 w3.heap.size 1 _) := n1; have B1 : Hid (Below w3.heap.size w3 v1) := H4.out.new B0.out g1 (Nat.le_refl _); clear n1 g1)
      | (refine step_putq rfl _ _ _ rfl w3.heap.size 1 _ _ _ (by rfl) (by rfl) (by rfl) (by decide) (by decide) (by decide) M1.out ?_; intro v2 n2 g2; have M2 : Hid (Mq v2 w3.heap.size 2 _) := n2; have B2 : Hid (Below w3.heap.size w3 v2) := H4.out.new B1.out g2 (Nat.le_refl _); clear n2 g2)
      | (refine step_putq rfl _ _ _ rfl w3.heap.size 2 _ _ _ (by rfl) (by rfl) (by rfl) (by decide) (by decide) (by decide) M2.out ?_; intro v3 n3 g3; have M3 : Hid (Mq v3 w3.heap.size 3 _) := n3; have B3 : Hid (Below w3.heap.size w3 v3) := H4.out.new B2.out g3 (Nat.le_refl _); clear n3 g3; have L := M3.out.get HK.out; have L2 : (Instr.lookup 56 (.map (some w3.heap.size)) (.int .i64 l) false).run Try.prog v3 = .ok (.int .i64 (lpW l)) v3 := (by rw [L]; congr 1; unfold lpW; (repeat' split) <;> first | rfl | omega); clear L))
    rw [hR.out]
    clear hR
    have H5 : Hid (Wg w v3 g1 era at' p (lS X l)) := H4.out.thru B3.out
    clear M0 M1 M2 M3 B0 B1 B2 B3 H4 hmm HS HK
    have c0 : v3.cell? ⟨g1, 0, none⟩ = some (.int .i64 era) := H5.out.bk.cell 0
    have f0 : v3.frozen? ⟨g1, 0, none⟩ = false := H5.out.bk.frozen 0
    by_cases hc : era < -1000
    · go_upto_region 9 with fail
      refine world_hid fun wc hWc => ?_
      have H6 : Hid (Wg w wc g1 B at' p (lS X l)) := by
        rw [hWc.out]
        rw [E0.out hc]
        exact ⟨H5.out.c.other (grownBy_set _ ⟨g1, 0, none⟩ _) H5.out.lg H5.out.np.symm, H5.out.bk.set (j := 0) _, H5.out.np, H5.out.lg⟩
      clear hWc H5 c0 f0 E0 E1 E2
      have c0 : wc.cell? ⟨g1, 0, none⟩ = some (.int .i64 B) := H6.out.bk.cell 0
      have c1 : wc.cell? ⟨g1, 1, none⟩ = some (.int .u64 at') := H6.out.bk.cell 1
      obtain ⟨m1, m2, m3, m4⟩ := HM.out
      go_wp2_with (go_at_call 24; have hK := floor_any Y wc (by have := HYb.out; omega) (by have := HYb.out; omega); (with_reducible refine hK.mono ?_); clear hK; rintro e w7 ⟨rfl, hw⟩; rw [hw]; clear hw)
      clear m1 m2 m3 m4
      go_loopw [10, 52] (fun a i wr => ∃ (k N : Nat), i = .int .i64 k ∧ a = .int .i64 N ∧ (k : Int) ≤ n ∧ (N : Int) ≤ 262144 ∧ Hid (Wg w wr g1 B at' p (lepS (lS X l) N))) (fun _ i _ => n - (intOf i).toNat)
      case atStart => exact ⟨0, 0, rfl, rfl, by omega, by omega, by rw [lS_zero]; exact H6.out⟩
      case round =>
        clear H6 c0 c1
        obtain ⟨k, N, rfl, rfl, hk, bN, HS⟩ := hrel
        by_cases hlt : (k : Int) < n
        · have hn63 : (n : Int) ≤ 9223372036854775807 := by rw [HV.out.2]; exact HV.out.1.lim
          have kw : wrap64 ((k : Int) + 1) = k + 1 := w64i _ (by omega) (by omega)
          have hkx : k < xs.length := by have := HV.out.2; omega
          obtain ⟨ad, hix, hab, hac, hok⟩ := (HV.out.1.below HS.out.c.be (Nat.le_refl _)).at k hkx
          obtain ⟨y, hy⟩ : ∃ y, xs.getD k 0 = y := ⟨_, rfl⟩
          rw [hy] at hac hok
          clear hy hab hkx
          by_cases y0 : y < 0
          · go_wp2_with fail
            go_roundw
            case rel => exact ⟨k + 1, N, by go_num, rfl, by omega, by omega, HS.out⟩
            case measure => simp [intOf]; omega
          by_cases y1 : 131072 < y
          · go_wp2_with fail
            go_roundw
            case rel => exact ⟨k + 1, N, by go_num, rfl, by omega, by omega, HS.out⟩
            case measure => simp [intOf]; omega
          have w2r : wrap64 ((N : Int) + y) = N + y := w64i _ (by omega) (by omega)
          by_cases y2 : 262144 < (N : Int) + y
          · go_wp2_with fail
            go_roundw
            case rel => exact ⟨k + 1, N, by go_num, rfl, by omega, by omega, HS.out⟩
            case measure => simp [intOf]; omega
          obtain ⟨m, rfl⟩ : ∃ m : Nat, y = m := ⟨y.toNat, by omega⟩
          obtain ⟨M, hM⟩ : ∃ M : Nat, N + m = M := ⟨_, rfl⟩
          have hMi : (N : Int) + m = M := by omega
          have m5 : wrap64 (Y + (M : Int)) = Y + M := w64i _ (by have := HYb.out; omega) (by have := HYb.out; omega)
          have KF : Hid (∀ u, Calls Try.prog 24 #[.int .i64 (Y + M)] u fun e w' => e = .returned (.int .i64 ((Y + M) / 86400)) ∧ w' = u) := fun u => floor_any (Y + M) u (by have := HYb.out; omega) (by have := HYb.out; omega)
          have HP : Hid (paS (lepS (lS X l) N) m = lepS (lS X l) M ∧ (if paE (lepS (lS X l) N) m = true then 1 else 0 : Int) = 0) := by
            obtain ⟨h1, h2⟩ := lS_pass (X := X) (l := l) N m (by omega)
            rw [h2, h1, hM]
            exact ⟨rfl, rfl⟩
          have HZ : Hid ((lepS (lS X l) M).e = if Y / 86400 < (Y + M) / 86400 then lpW l else 0) := by
            show _ = _
            rw [lep_e, HY.out]
          rw [hMi] at w2r
          by_cases hd : Y / 86400 < (Y + M) / 86400
          · have HE : Hid ((lepS (lS X l) M).e = lpW l) := by show _ = _; rw [HZ.out, if_pos hd]
            clear HZ
            obtain ⟨m1, m2, m3, m4⟩ := HM.out
            go_wp2_with (first
              | (go_at_call 10; have hK := wc_pass HS.out.c m (lepS (lS X l) M) HP.out.1 0 HP.out.2; (with_reducible refine hK.mono ?_); clear hK; rintro e v6 ⟨rfl, h1, h2⟩; have H7 : Hid (Wg w v6 g1 B at' p (lepS (lS X l) M)) := HS.out.mod h1 h2; clear h1 h2; have c0 : v6.cell? ⟨g1, 0, none⟩ = some (.int .i64 B) := (H7.out.bk.cell 0); have c1 : v6.cell? ⟨g1, 1, none⟩ = some (.int .u64 at') := (H7.out.bk.cell 1))
              | (go_at_call 24; have hK := KF.out v6; (with_reducible refine hK.mono ?_); clear hK; rintro e w7 ⟨rfl, hw⟩; rw [hw]; clear hw)
              | (go_at_call 11; have hK := wc_error H7.out.c (lpW l) HE.out; (with_reducible refine hK.mono ?_); clear hK; rintro e w7 ⟨rfl, hw⟩; rw [hw]; clear hw))
            clear m1 m2 m3 m4 m5
            go_roundw
            case rel => exact ⟨k + 1, M, by go_num, rfl, by omega, by omega, H7.out⟩
            case measure => simp [intOf]; omega
          · have HE : Hid ((lepS (lS X l) M).e = 0) := by show _ = _; rw [HZ.out, if_neg hd]
            clear HZ
            obtain ⟨m1, m2, m3, m4⟩ := HM.out
            go_wp2_with (first
              | (go_at_call 10; have hK := wc_pass HS.out.c m (lepS (lS X l) M) HP.out.1 0 HP.out.2; (with_reducible refine hK.mono ?_); clear hK; rintro e v6 ⟨rfl, h1, h2⟩; have H7 : Hid (Wg w v6 g1 B at' p (lepS (lS X l) M)) := HS.out.mod h1 h2; clear h1 h2; have c0 : v6.cell? ⟨g1, 0, none⟩ = some (.int .i64 B) := (H7.out.bk.cell 0); have c1 : v6.cell? ⟨g1, 1, none⟩ = some (.int .u64 at') := (H7.out.bk.cell 1))
              | (go_at_call 24; have hK := KF.out v6; (with_reducible refine hK.mono ?_); clear hK; rintro e w7 ⟨rfl, hw⟩; rw [hw]; clear hw)
              | (go_at_call 11; have hK := wc_error H7.out.c 0 HE.out; (with_reducible refine hK.mono ?_); clear hK; rintro e w7 ⟨rfl, hw⟩; rw [hw]; clear hw))
            clear m1 m2 m3 m4 m5
            go_roundw
            case rel => exact ⟨k + 1, M, by go_num, rfl, by omega, by omega, H7.out⟩
            case measure => simp [intOf]; omega
        · go_wp2_with fail
          rw [hQ.out]
          go_ret
          exact ⟨rfl, HS.out.c.be⟩
    by_cases hd : 1000 < era
    · go_upto_region 9 with fail
      refine world_hid fun wc hWc => ?_
      have H6 : Hid (Wg w wc g1 B at' p (lS X l)) := by
        rw [hWc.out]
        rw [E1.out hd]
        exact ⟨H5.out.c.other (grownBy_set _ ⟨g1, 0, none⟩ _) H5.out.lg H5.out.np.symm, H5.out.bk.set (j := 0) _, H5.out.np, H5.out.lg⟩
      clear hWc H5 c0 f0 E0 E1 E2
      have c0 : wc.cell? ⟨g1, 0, none⟩ = some (.int .i64 B) := H6.out.bk.cell 0
      have c1 : wc.cell? ⟨g1, 1, none⟩ = some (.int .u64 at') := H6.out.bk.cell 1
      obtain ⟨m1, m2, m3, m4⟩ := HM.out
      go_wp2_with (go_at_call 24; have hK := floor_any Y wc (by have := HYb.out; omega) (by have := HYb.out; omega); (with_reducible refine hK.mono ?_); clear hK; rintro e w7 ⟨rfl, hw⟩; rw [hw]; clear hw)
      clear m1 m2 m3 m4
      go_loopw [10, 52] (fun a i wr => ∃ (k N : Nat), i = .int .i64 k ∧ a = .int .i64 N ∧ (k : Int) ≤ n ∧ (N : Int) ≤ 262144 ∧ Hid (Wg w wr g1 B at' p (lepS (lS X l) N))) (fun _ i _ => n - (intOf i).toNat)
      case atStart => exact ⟨0, 0, rfl, rfl, by omega, by omega, by rw [lS_zero]; exact H6.out⟩
      case round =>
        clear H6 c0 c1
        obtain ⟨k, N, rfl, rfl, hk, bN, HS⟩ := hrel
        by_cases hlt : (k : Int) < n
        · have hn63 : (n : Int) ≤ 9223372036854775807 := by rw [HV.out.2]; exact HV.out.1.lim
          have kw : wrap64 ((k : Int) + 1) = k + 1 := w64i _ (by omega) (by omega)
          have hkx : k < xs.length := by have := HV.out.2; omega
          obtain ⟨ad, hix, hab, hac, hok⟩ := (HV.out.1.below HS.out.c.be (Nat.le_refl _)).at k hkx
          obtain ⟨y, hy⟩ : ∃ y, xs.getD k 0 = y := ⟨_, rfl⟩
          rw [hy] at hac hok
          clear hy hab hkx
          by_cases y0 : y < 0
          · go_wp2_with fail
            go_roundw
            case rel => exact ⟨k + 1, N, by go_num, rfl, by omega, by omega, HS.out⟩
            case measure => simp [intOf]; omega
          by_cases y1 : 131072 < y
          · go_wp2_with fail
            go_roundw
            case rel => exact ⟨k + 1, N, by go_num, rfl, by omega, by omega, HS.out⟩
            case measure => simp [intOf]; omega
          have w2r : wrap64 ((N : Int) + y) = N + y := w64i _ (by omega) (by omega)
          by_cases y2 : 262144 < (N : Int) + y
          · go_wp2_with fail
            go_roundw
            case rel => exact ⟨k + 1, N, by go_num, rfl, by omega, by omega, HS.out⟩
            case measure => simp [intOf]; omega
          obtain ⟨m, rfl⟩ : ∃ m : Nat, y = m := ⟨y.toNat, by omega⟩
          obtain ⟨M, hM⟩ : ∃ M : Nat, N + m = M := ⟨_, rfl⟩
          have hMi : (N : Int) + m = M := by omega
          have m5 : wrap64 (Y + (M : Int)) = Y + M := w64i _ (by have := HYb.out; omega) (by have := HYb.out; omega)
          have KF : Hid (∀ u, Calls Try.prog 24 #[.int .i64 (Y + M)] u fun e w' => e = .returned (.int .i64 ((Y + M) / 86400)) ∧ w' = u) := fun u => floor_any (Y + M) u (by have := HYb.out; omega) (by have := HYb.out; omega)
          have HP : Hid (paS (lepS (lS X l) N) m = lepS (lS X l) M ∧ (if paE (lepS (lS X l) N) m = true then 1 else 0 : Int) = 0) := by
            obtain ⟨h1, h2⟩ := lS_pass (X := X) (l := l) N m (by omega)
            rw [h2, h1, hM]
            exact ⟨rfl, rfl⟩
          have HZ : Hid ((lepS (lS X l) M).e = if Y / 86400 < (Y + M) / 86400 then lpW l else 0) := by
            show _ = _
            rw [lep_e, HY.out]
          rw [hMi] at w2r
          by_cases hd : Y / 86400 < (Y + M) / 86400
          · have HE : Hid ((lepS (lS X l) M).e = lpW l) := by show _ = _; rw [HZ.out, if_pos hd]
            clear HZ
            obtain ⟨m1, m2, m3, m4⟩ := HM.out
            go_wp2_with (first
              | (go_at_call 10; have hK := wc_pass HS.out.c m (lepS (lS X l) M) HP.out.1 0 HP.out.2; (with_reducible refine hK.mono ?_); clear hK; rintro e v6 ⟨rfl, h1, h2⟩; have H7 : Hid (Wg w v6 g1 B at' p (lepS (lS X l) M)) := HS.out.mod h1 h2; clear h1 h2; have c0 : v6.cell? ⟨g1, 0, none⟩ = some (.int .i64 B) := (H7.out.bk.cell 0); have c1 : v6.cell? ⟨g1, 1, none⟩ = some (.int .u64 at') := (H7.out.bk.cell 1))
              | (go_at_call 24; have hK := KF.out v6; (with_reducible refine hK.mono ?_); clear hK; rintro e w7 ⟨rfl, hw⟩; rw [hw]; clear hw)
              | (go_at_call 11; have hK := wc_error H7.out.c (lpW l) HE.out; (with_reducible refine hK.mono ?_); clear hK; rintro e w7 ⟨rfl, hw⟩; rw [hw]; clear hw))
            clear m1 m2 m3 m4 m5
            go_roundw
            case rel => exact ⟨k + 1, M, by go_num, rfl, by omega, by omega, H7.out⟩
            case measure => simp [intOf]; omega
          · have HE : Hid ((lepS (lS X l) M).e = 0) := by show _ = _; rw [HZ.out, if_neg hd]
            clear HZ
            obtain ⟨m1, m2, m3, m4⟩ := HM.out
            go_wp2_with (first
              | (go_at_call 10; have hK := wc_pass HS.out.c m (lepS (lS X l) M) HP.out.1 0 HP.out.2; (with_reducible refine hK.mono ?_); clear hK; rintro e v6 ⟨rfl, h1, h2⟩; have H7 : Hid (Wg w v6 g1 B at' p (lepS (lS X l) M)) := HS.out.mod h1 h2; clear h1 h2; have c0 : v6.cell? ⟨g1, 0, none⟩ = some (.int .i64 B) := (H7.out.bk.cell 0); have c1 : v6.cell? ⟨g1, 1, none⟩ = some (.int .u64 at') := (H7.out.bk.cell 1))
              | (go_at_call 24; have hK := KF.out v6; (with_reducible refine hK.mono ?_); clear hK; rintro e w7 ⟨rfl, hw⟩; rw [hw]; clear hw)
              | (go_at_call 11; have hK := wc_error H7.out.c 0 HE.out; (with_reducible refine hK.mono ?_); clear hK; rintro e w7 ⟨rfl, hw⟩; rw [hw]; clear hw))
            clear m1 m2 m3 m4 m5
            go_roundw
            case rel => exact ⟨k + 1, M, by go_num, rfl, by omega, by omega, H7.out⟩
            case measure => simp [intOf]; omega
        · go_wp2_with fail
          rw [hQ.out]
          go_ret
          exact ⟨rfl, HS.out.c.be⟩
    · go_upto_region 9 with fail
      refine world_hid fun wc hWc => ?_
      have H6 : Hid (Wg w wc g1 B at' p (lS X l)) := by
        rw [hWc.out]
        rw [E2.out (by omega) (by omega)]
        exact H5.out
      clear hWc H5 c0 f0 E0 E1 E2
      have c0 : wc.cell? ⟨g1, 0, none⟩ = some (.int .i64 B) := H6.out.bk.cell 0
      have c1 : wc.cell? ⟨g1, 1, none⟩ = some (.int .u64 at') := H6.out.bk.cell 1
      obtain ⟨m1, m2, m3, m4⟩ := HM.out
      go_wp2_with (go_at_call 24; have hK := floor_any Y wc (by have := HYb.out; omega) (by have := HYb.out; omega); (with_reducible refine hK.mono ?_); clear hK; rintro e w7 ⟨rfl, hw⟩; rw [hw]; clear hw)
      clear m1 m2 m3 m4
      go_loopw [10, 52] (fun a i wr => ∃ (k N : Nat), i = .int .i64 k ∧ a = .int .i64 N ∧ (k : Int) ≤ n ∧ (N : Int) ≤ 262144 ∧ Hid (Wg w wr g1 B at' p (lepS (lS X l) N))) (fun _ i _ => n - (intOf i).toNat)
      case atStart => exact ⟨0, 0, rfl, rfl, by omega, by omega, by rw [lS_zero]; exact H6.out⟩
      case round =>
        clear H6 c0 c1
        obtain ⟨k, N, rfl, rfl, hk, bN, HS⟩ := hrel
        by_cases hlt : (k : Int) < n
        · have hn63 : (n : Int) ≤ 9223372036854775807 := by rw [HV.out.2]; exact HV.out.1.lim
          have kw : wrap64 ((k : Int) + 1) = k + 1 := w64i _ (by omega) (by omega)
          have hkx : k < xs.length := by have := HV.out.2; omega
          obtain ⟨ad, hix, hab, hac, hok⟩ := (HV.out.1.below HS.out.c.be (Nat.le_refl _)).at k hkx
          obtain ⟨y, hy⟩ : ∃ y, xs.getD k 0 = y := ⟨_, rfl⟩
          rw [hy] at hac hok
          clear hy hab hkx
          by_cases y0 : y < 0
          · go_wp2_with fail
            go_roundw
            case rel => exact ⟨k + 1, N, by go_num, rfl, by omega, by omega, HS.out⟩
            case measure => simp [intOf]; omega
          by_cases y1 : 131072 < y
          · go_wp2_with fail
            go_roundw
            case rel => exact ⟨k + 1, N, by go_num, rfl, by omega, by omega, HS.out⟩
            case measure => simp [intOf]; omega
          have w2r : wrap64 ((N : Int) + y) = N + y := w64i _ (by omega) (by omega)
          by_cases y2 : 262144 < (N : Int) + y
          · go_wp2_with fail
            go_roundw
            case rel => exact ⟨k + 1, N, by go_num, rfl, by omega, by omega, HS.out⟩
            case measure => simp [intOf]; omega
          obtain ⟨m, rfl⟩ : ∃ m : Nat, y = m := ⟨y.toNat, by omega⟩
          obtain ⟨M, hM⟩ : ∃ M : Nat, N + m = M := ⟨_, rfl⟩
          have hMi : (N : Int) + m = M := by omega
          have m5 : wrap64 (Y + (M : Int)) = Y + M := w64i _ (by have := HYb.out; omega) (by have := HYb.out; omega)
          have KF : Hid (∀ u, Calls Try.prog 24 #[.int .i64 (Y + M)] u fun e w' => e = .returned (.int .i64 ((Y + M) / 86400)) ∧ w' = u) := fun u => floor_any (Y + M) u (by have := HYb.out; omega) (by have := HYb.out; omega)
          have HP : Hid (paS (lepS (lS X l) N) m = lepS (lS X l) M ∧ (if paE (lepS (lS X l) N) m = true then 1 else 0 : Int) = 0) := by
            obtain ⟨h1, h2⟩ := lS_pass (X := X) (l := l) N m (by omega)
            rw [h2, h1, hM]
            exact ⟨rfl, rfl⟩
          have HZ : Hid ((lepS (lS X l) M).e = if Y / 86400 < (Y + M) / 86400 then lpW l else 0) := by
            show _ = _
            rw [lep_e, HY.out]
          rw [hMi] at w2r
          by_cases hd : Y / 86400 < (Y + M) / 86400
          · have HE : Hid ((lepS (lS X l) M).e = lpW l) := by show _ = _; rw [HZ.out, if_pos hd]
            clear HZ
            obtain ⟨m1, m2, m3, m4⟩ := HM.out
            go_wp2_with (first
              | (go_at_call 10; have hK := wc_pass HS.out.c m (lepS (lS X l) M) HP.out.1 0 HP.out.2; (with_reducible refine hK.mono ?_); clear hK; rintro e v6 ⟨rfl, h1, h2⟩; have H7 : Hid (Wg w v6 g1 B at' p (lepS (lS X l) M)) := HS.out.mod h1 h2; clear h1 h2; have c0 : v6.cell? ⟨g1, 0, none⟩ = some (.int .i64 B) := (H7.out.bk.cell 0); have c1 : v6.cell? ⟨g1, 1, none⟩ = some (.int .u64 at') := (H7.out.bk.cell 1))
              | (go_at_call 24; have hK := KF.out v6; (with_reducible refine hK.mono ?_); clear hK; rintro e w7 ⟨rfl, hw⟩; rw [hw]; clear hw)
              | (go_at_call 11; have hK := wc_error H7.out.c (lpW l) HE.out; (with_reducible refine hK.mono ?_); clear hK; rintro e w7 ⟨rfl, hw⟩; rw [hw]; clear hw))
            clear m1 m2 m3 m4 m5
            go_roundw
            case rel => exact ⟨k + 1, M, by go_num, rfl, by omega, by omega, H7.out⟩
            case measure => simp [intOf]; omega
          · have HE : Hid ((lepS (lS X l) M).e = 0) := by show _ = _; rw [HZ.out, if_neg hd]
            clear HZ
            obtain ⟨m1, m2, m3, m4⟩ := HM.out
            go_wp2_with (first
              | (go_at_call 10; have hK := wc_pass HS.out.c m (lepS (lS X l) M) HP.out.1 0 HP.out.2; (with_reducible refine hK.mono ?_); clear hK; rintro e v6 ⟨rfl, h1, h2⟩; have H7 : Hid (Wg w v6 g1 B at' p (lepS (lS X l) M)) := HS.out.mod h1 h2; clear h1 h2; have c0 : v6.cell? ⟨g1, 0, none⟩ = some (.int .i64 B) := (H7.out.bk.cell 0); have c1 : v6.cell? ⟨g1, 1, none⟩ = some (.int .u64 at') := (H7.out.bk.cell 1))
              | (go_at_call 24; have hK := KF.out v6; (with_reducible refine hK.mono ?_); clear hK; rintro e w7 ⟨rfl, hw⟩; rw [hw]; clear hw)
              | (go_at_call 11; have hK := wc_error H7.out.c 0 HE.out; (with_reducible refine hK.mono ?_); clear hK; rintro e w7 ⟨rfl, hw⟩; rw [hw]; clear hw))
            clear m1 m2 m3 m4 m5
            go_roundw
            case rel => exact ⟨k + 1, M, by go_num, rfl, by omega, by omega, H7.out⟩
            case measure => simp [intOf]; omega
        · go_wp2_with fail
          rw [hQ.out]
          go_ret
          exact ⟨rfl, HS.out.c.be⟩
  · have hb : decide (0 ≤ l ∧ l ≤ 2) = false := decide_eq_false hr
    by_cases h0 : l < 0
    · go_wp2_with (go_at_call 23; have hK := wc_setLeap H3.out.c l _ rfl false hb; (with_reducible refine hK.mono ?_); clear hK; rintro e w3 ⟨rfl, h1, h2⟩; have H4 : Hid (Below w.heap.size w w3) := h1.be; clear h1 h2)
      rw [hQ.out]
      go_ret
      exact ⟨rfl, H4.out⟩
    · have h2 : 2 < l := by omega
      go_wp2_with (go_at_call 23; have hK := wc_setLeap H3.out.c l _ rfl false hb; (with_reducible refine hK.mono ?_); clear hK; rintro e w3 ⟨rfl, h1, h2⟩; have H4 : Hid (Below w.heap.size w w3) := h1.be; clear h1 h2)
      rw [hQ.out]
      go_ret
      exact ⟨rfl, H4.out⟩
end Go.Proofs.Ytdmaaigchfgmdaa
