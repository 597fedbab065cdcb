/- The reference's functions: seconds, since, slewed, stepped, measured. -/
import Derived.Test.YtbagfnafkpbanaaLpC
namespace Go.Proofs.Ytbagfnafkpbanaa
open Go Go.RowKit Go.Sort
set_option linter.unusedVariables false
/-- a drawn region whose last operation stores; the others read, or call what makes blocks of its own; the class a letter -/
theorem wp_region_lastG {id : Nat} {Q : Exit → Act → World → Prop} {a : Act} {w : World} {l : List Oper} (hm : Try.prog.follows .mixedOrders = true) (hL : lastT l = true) (hn : l.isEmpty = false) (hB : Region.lexB .any (idleLast l).toArray = true)
    (h : ∀ C : World → Prop, (∀ u, C u → Gr w u) → (∀ u u', C u → Gr u u' → C u') → wpQuiet Try.prog (idleLast l).toArray C (fun a => ∀ w', Gr w w' → wpOp Try.prog l.toArray Q (l.length - 1) (fun a' w'' => Q .normal a' w'') a w') (idleLast l) a) : (Code.region id l.toArray true).wp Try.prog Q a w := by
  have hne : l ≠ [] := by intro e; rw [e] at hn; cases hn
  simp only [Region.lexB, Bool.and_eq_true] at hB
  refine wp_region_any hm (wpAny_lastT (C := Gr w) hL hne _ _ _ _ ((Below.refl _ _).drew) (by simp) ?_ (cls_none _ _) ?_)
  · have hp : 0 < l.length := List.length_pos_iff.2 hne
    have hp2 : l.length - 1 < l.length := by omega
    simp [hp2]
  · have := wpAnyQ_lex (C := Gr w) (md := .any) hB.1 (idleLast l) 0 (Array.replicate (idleLast l).toArray.size false) a (by simp) (by simpa using hB.2) (h (Gr w) (fun u h => h) (fun u u' h k => Below.trans h (Below.mono k (Below.size h))))
    simpa [idle_len] using this
theorem Rp.kept {w w' : World} {q : Nat} {s : Lp} (h : Rp w q s) (hg : Gr w w') : Rp w' q s := h.below hg (Bk.lt h)
theorem grownBy_gr {w a b : World} {r : Option Nat} (h : w.grownBy a r) (k : Gr a b) : w.grownBy b r := grownBy_trans h (grownBy_below k r)
theorem rseconds_any (n : Int) (w : World) (h0 : 0 ≤ n) (h1 : n ≤ 1073741824) : Calls Try.prog 56 #[.int .i64 n] w fun e w' => e = .returned (.int .i64 (scF n)) ∧ Below w.heap.size w w' := by
  obtain ⟨A, hA⟩ : ∃ A, n * 65536 = A := ⟨_, rfl⟩
  obtain ⟨k1, k2⟩ := wrapS hA (by omega) (by omega)
  have HK : Hid (∀ u, Calls Try.prog 68 #[.int .i64 A, .int .i64 281474976710656] u fun e w' => e = .returned (.int .i64 (scF n)) ∧ Below u.heap.size u w') := fun u => by
    have e : scF n = Fx.cl 4611686018427387904 (A * 281474976710656 / 4294967296) := by unfold scF sv; congr 1; omega
    rw [e]
    exact rmul_any _ _ _ (by omega) (by omega) (by omega) (by omega)
  clear hA h0 h1
  go_enter Try.func56, Try.ntmps56
  go_wp2_with (go_at_call 68; refine (HK.out _).mono ?_; rintro e w1 ⟨rfl, hb⟩)
  go_ret
  exact ⟨rfl, hb⟩
theorem reight_any (n : Int) (w : World) (h0 : 0 ≤ n) (h1 : n ≤ 1073741824) : Calls Try.prog 58 #[.int .i64 n] w fun e w' => e = .returned (.int .i64 (scF (8 * n))) ∧ Below w.heap.size w w' := by
  obtain ⟨S, hS⟩ : ∃ S, scF n = S := ⟨_, rfl⟩
  have eS : S = 4294967296 * n := by rw [← hS]; exact sv_in (by omega) (by omega)
  have K1 : Hid (∀ u, Calls Try.prog 56 #[.int .i64 n] u fun e w' => e = .returned (.int .i64 S) ∧ Below u.heap.size u w') := fun u => by rw [← hS]; exact rseconds_any n u h0 h1
  have K2 : Hid (∀ u, Calls Try.prog 39 #[.int .i64 S, .int .i64 3] u fun e w' => e = .returned (.int .i64 (scF (8 * n))) ∧ Below u.heap.size u w') := fun u => by
    have e : scF (8 * n) = Fx.sh S 3 := by
      unfold Fx.sh scF sv
      rw [if_neg (by decide), eS]
      congr 1
      have : (2 : Int) ^ (3 : Int).toNat = 8 := by decide
      rw [this]; omega
    rw [e]
    exact rshift_any _ _ _ (by omega) (by omega) (by omega) (by omega)
  clear hS eS h0 h1
  go_enter Try.func58, Try.ntmps58
  go_wp2_with (first
    | (go_at_call 56; refine (K1.out _).mono ?_; rintro e w1 ⟨rfl, hb1⟩)
    | (go_at_call 39; refine (K2.out _).mono ?_; rintro e w2 ⟨rfl, hb2⟩))
  go_ret
  exact ⟨rfl, hb1.trans (hb2.mono hb1.size)⟩
theorem rsince_any (q : Nat) (s : Lp) (n : Int) (w : World) (h : Rp w q s) (hs : OkL s) (hn : 0 ≤ n ∧ n ≤ 1073741824) : Calls Try.prog 34 #[.pointer (some ⟨q, 0, none⟩), .int .i64 n] w fun e w' => e = .returned (.int .i64 (sinS s n)) ∧ w' = w := by
  have c7 : w.cell? ⟨q, 7, none⟩ = some (.int .i64 s.wn) := h.cell 7
  obtain ⟨V, hV⟩ : ∃ V, n - s.wn = V := ⟨_, rfl⟩
  obtain ⟨v1, v2⟩ := wrapS hV (by have := hs.w0; have := hs.w1; omega) (by have := hs.w0; have := hs.w1; omega)
  have mx1 : ∀ u, (Builtin.max_ #[3, 3] 3 #[.int .i64 0, .int .i64 V]).run Try.prog u = .ok (.int .i64 (sinS s n)) u := fun u => by
    rw [run_mx, ← hV]; unfold sinS; congr 2; omega
  clear h hs hn hV
  go_enter Try.func34, Try.ntmps34
  go_wp2
  go_ret
  exact ⟨rfl, rfl⟩
set_option maxHeartbeats 400000 in
theorem rtick_any (q : Nat) (s : Lp) (w : World) (h : Rp w q s) (hs : OkL s) : Calls Try.prog 20 #[.pointer (some ⟨q, 0, none⟩)] w fun e w' => e = .returned (.int .i64 (tkX s)) ∧ Rp w' q (ticS s) ∧ w.grownBy w' (some q) := by
  have HP : Hid (Rp w q s) := h
  have hb := tk_bd hs
  have e0 := hs.e0; have e1 := hs.e1; have l0 := hs.l0; have l1 := hs.l1
  obtain ⟨X, hX⟩ : ∃ X, tkX s = X := ⟨_, rfl⟩
  rw [hX] at hb
  obtain ⟨A, hA⟩ : ∃ A, s.exp + 2 = A := ⟨_, rfl⟩
  obtain ⟨B, hB⟩ : ∃ B, -A = B := ⟨_, rfl⟩
  obtain ⟨L, hL⟩ : ∃ L, s.left - X = L := ⟨_, rfl⟩
  obtain ⟨k1, k2⟩ := wrapS hA (by omega) (by omega)
  obtain ⟨k3, k4⟩ := wrapS hB (by omega) (by omega)
  have HK : Hid (∀ u, Calls Try.prog 39 #[.int .i64 s.left, .int .i64 B] u fun e w' => e = .returned (.int .i64 X) ∧ Below u.heap.size u w') := fun u => by
    rw [← hX, ← hB, ← hA]; exact rshift_any _ _ _ (by omega) (by omega) (by omega) (by omega)
  have HS : Hid (∀ u, Calls Try.prog 40 #[.int .i64 s.left, .int .i64 X] u fun e w' => e = .returned (.int .i64 L) ∧ Below u.heap.size u w') := fun u => by
    have e : L = Fx.cl 4611686018427387904 (s.left + -X) := by rw [Fx.cl_in (by omega) (by omega)]; omega
    rw [e]
    exact rsub_any _ _ _ (by omega) (by omega) (by omega) (by omega)
  have HE : Hid (ticS s = { s with left := L } ∧ tkX s = X) := by refine ⟨?_, hX⟩; rw [← hL, ← hX]; rfl
  clear h hs hb e0 e1 l0 l1 hX hA hB hL
  rw [HE.out.2]
  go_enter Try.func20, Try.ntmps20
  refine post_hid fun Q hQ => ?_
  go_wp2_with fail
  refine wp_region_grown (by kernel_rfl) (by kernel_rfl) ?_
  intro C hC hG
  have a5 : Hid (∀ u, C u → u.cell? ⟨q, 5, none⟩ = some (.int .i64 s.left)) := fun u hu => (HP.out.kept (hC u hu)).cell 5
  have a8 : Hid (∀ u, C u → u.cell? ⟨q, 8, none⟩ = some (.int .i64 s.exp)) := fun u hu => (HP.out.kept (hC u hu)).cell 8
  have Z1 : Hid (∀ u, C u → Calls Try.prog 39 #[.int .i64 s.left, .int .i64 B] u fun e w' => e = .returned (.int .i64 X) ∧ C w') := fun u hu => (HK.out u).mono fun e w' ⟨h1, h2⟩ => ⟨h1, hG u w' hu h2⟩
  refine QW.out ?_
  repeat (first
    | (refine qa_valW (by rfl) ?_; apply Exists.intro; refine ⟨fun u hu => ?_, ?_⟩; ((have e2 := a5.out u hu; have e10 := a8.out u hu); go_simp; exact rfl); try go_simp)
    | (refine qa_callW (by rfl) 39 _ _ ?_ (fun u hu => Z1.out u hu) ?_; (focus (intro u hu; go_simp; first | done | exact rfl)); try go_simp))
  refine qw_nil ?_
  intro W hu
  have H1 : Hid (Rp W q s ∧ w.grownBy W (some q)) := ⟨HP.out.kept hu, grownBy_below hu _⟩
  have c5 : W.cell? ⟨q, 5, none⟩ = some (.int .i64 s.left) := H1.out.1.cell 5
  clear a5 a8 Z1 hC hG hu HK
  go_wp2_with (go_at_call 40; refine (HS.out _).mono ?_; rintro e w2 ⟨rfl, hb2⟩; have H2 : Hid (Rp w2 q s ∧ w.grownBy w2 (some q)) := (⟨H1.out.1.kept hb2, grownBy_gr H1.out.2 hb2⟩); have f5 : w2.frozen? ⟨q, 5, none⟩ = false := (H2.out.1.frozen 5); have c5b : w2.cell? ⟨q, 5, none⟩ = some (.int .i64 s.left) := (H2.out.1.cell 5); clear hb2)
  rw [hQ.out]
  go_ret
  refine ⟨rfl, ?_, grownBy_trans H2.out.2 (grownBy_set _ ⟨q, 5, none⟩ _)⟩
  rw [HE.out.1]
  exact H2.out.1.set (j := 5) _
set_option maxHeartbeats 400000 in
theorem rstep_any (q : Nat) (s : Lp) (o n : Int) (w : World) (h : Rp w q s) : Calls Try.prog 36 #[.pointer (some ⟨q, 0, none⟩), .int .i64 o, .int .i64 n] w fun e w' => e = .returned (.tuple #[.int .i64 2, .int .i64 o]) ∧ Rp w' q (resS s n) ∧ w.grownBy w' (some q) := by
  have HP : Hid (Rp w q s) := h
  have c3 : w.cell? ⟨q, 3, none⟩ = some (.int .i64 s.st) := h.cell 3
  have c5 : w.cell? ⟨q, 5, none⟩ = some (.int .i64 s.left) := h.cell 5
  have c6 : w.cell? ⟨q, 6, none⟩ = some (.int .i64 s.base) := h.cell 6
  have c7 : w.cell? ⟨q, 7, none⟩ = some (.int .i64 s.wn) := h.cell 7
  have c8 : w.cell? ⟨q, 8, none⟩ = some (.int .i64 s.exp) := h.cell 8
  have c9 : w.cell? ⟨q, 9, none⟩ = some (.int .i64 s.tally) := h.cell 9
  have f3 : w.frozen? ⟨q, 3, none⟩ = false := h.frozen 3
  have f5 : w.frozen? ⟨q, 5, none⟩ = false := h.frozen 5
  have f6 : w.frozen? ⟨q, 6, none⟩ = false := h.frozen 6
  have f7 : w.frozen? ⟨q, 7, none⟩ = false := h.frozen 7
  have f8 : w.frozen? ⟨q, 8, none⟩ = false := h.frozen 8
  have f9 : w.frozen? ⟨q, 9, none⟩ = false := h.frozen 9
  clear h
  by_cases hz : s.st = 0
  · have E : Hid (resS s n = ⟨s.most, s.panics, s.stepout, 3, s.rate, 0, 0, n, 3, 0⟩) := by show _ = _; unfold resS; rw [if_pos hz]
    rw [hz] at c3
    go_enter Try.func36, Try.ntmps36
    refine post_hid fun Q hQ => ?_
    go_wp2_with fail
    rw [hQ.out]
    go_ret2
    rw [E.out]
    refine ⟨rfl, (((((HP.out.set (j := 5) _).set (j := 6) _).set (j := 7) _).set (j := 8) _).set (j := 9) _).set (j := 3) _, ?_⟩
    refine grownBy_trans (grownBy_set _ ⟨q, 5, none⟩ _) (grownBy_trans (grownBy_set _ ⟨q, 6, none⟩ _) (grownBy_trans (grownBy_set _ ⟨q, 7, none⟩ _) (grownBy_trans (grownBy_set _ ⟨q, 8, none⟩ _) (grownBy_trans (grownBy_set _ ⟨q, 9, none⟩ _) (grownBy_set _ ⟨q, 3, none⟩ _)))))
  · have E : Hid (resS s n = ⟨s.most, s.panics, s.stepout, 4, s.rate, 0, 0, n, 3, 0⟩) := by show _ = _; unfold resS; rw [if_neg hz]
    have hz2 : (s.st == 0) = false := by simpa using hz
    go_enter Try.func36, Try.ntmps36
    refine post_hid fun Q hQ => ?_
    go_wp2_with fail
    rw [hQ.out]
    go_ret2
    rw [E.out]
    refine ⟨rfl, (((((HP.out.set (j := 5) _).set (j := 6) _).set (j := 7) _).set (j := 8) _).set (j := 9) _).set (j := 3) _, ?_⟩
    refine grownBy_trans (grownBy_set _ ⟨q, 5, none⟩ _) (grownBy_trans (grownBy_set _ ⟨q, 6, none⟩ _) (grownBy_trans (grownBy_set _ ⟨q, 7, none⟩ _) (grownBy_trans (grownBy_set _ ⟨q, 8, none⟩ _) (grownBy_trans (grownBy_set _ ⟨q, 9, none⟩ _) (grownBy_set _ ⟨q, 3, none⟩ _)))))
set_option maxHeartbeats 1000000 in
theorem rmeasure_any (q : Nat) (s : Lp) (o n : Int) (w : World) (h : Rp w q s) (hs : OkL s) (ho : -4611686018427387904 ≤ o ∧ o ≤ 4611686018427387904) (hn : 0 ≤ n ∧ n ≤ 1073741824) : Calls Try.prog 35 #[.pointer (some ⟨q, 0, none⟩), .int .i64 o, .int .i64 n] w fun e w' => e = .returned (.tuple #[]) ∧ Rp w' q (meaS s o (sinS s n)) ∧ w.grownBy w' (some q) := by
  obtain ⟨D, hD⟩ : ∃ D, sinS s n = D := ⟨_, rfl⟩
  have bD : 0 ≤ D ∧ D ≤ 1073741824 := by have := hs.w0; rw [← hD]; unfold sinS; omega
  have HP : Hid (Rp w q s ∧ OkL s ∧ (0 ≤ n ∧ n ≤ 1073741824) ∧ sinS s n = D) := ⟨h, hs, hn, hD⟩
  rw [hD]
  obtain ⟨E, hE⟩ : ∃ E, max D 1 = E := ⟨_, rfl⟩
  obtain ⟨B, hB⟩ : ∃ B, sv (o - s.base) = B := ⟨_, rfl⟩
  obtain ⟨S, hS⟩ : ∃ S, scF E = S := ⟨_, rfl⟩
  obtain ⟨X, hX⟩ : ∃ X, rtF B S = X := ⟨_, rfl⟩
  have bX : -140737488355 ≤ X ∧ X ≤ 140737488355 := by rw [← hX]; exact rt_bd _ _
  obtain ⟨Y, hY⟩ : ∃ Y, s.rate + X = Y := ⟨_, rfl⟩
  have hr0 := hs.r0
  have hr1 := hs.r1
  obtain ⟨k1, k2⟩ := wrapS hY (by omega) (by omega)
  obtain ⟨T, hT⟩ : ∃ T, cf Y = T := ⟨_, rfl⟩
  have HE : Hid (meaS s o D = { s with rate := T }) := by
    show _ = _
    unfold meaS turnS meaX
    rw [hE, hB, hS, hX, hY, hT]
  have q1 := sv_bd (o - s.base)
  rw [hB] at q1
  have q2 : -4611686018427387904 ≤ S ∧ S ≤ 4611686018427387904 := by rw [← hS]; exact sv_bd _
  have K1 : Hid (∀ u, Calls Try.prog 40 #[.int .i64 o, .int .i64 s.base] u fun e w' => e = .returned (.int .i64 B) ∧ Below u.heap.size u w') := fun u => by
    have hb0 := hs.b0
    have hb1 := hs.b1
    have := rsub_any o s.base u (by omega) (by omega) (by omega) (by omega)
    rw [← Int.sub_eq_add_neg] at this
    rw [← hB]
    exact this
  have K2 : Hid (∀ u, Calls Try.prog 56 #[.int .i64 E] u fun e w' => e = .returned (.int .i64 S) ∧ Below u.heap.size u w') := fun u => by rw [← hS]; exact rseconds_any _ _ (by omega) (by omega)
  have K3 : Hid (∀ u, Calls Try.prog 55 #[.int .i64 B, .int .i64 S] u fun e w' => e = .returned (.int .i64 X) ∧ Below u.heap.size u w') := fun u => by rw [← hX]; exact rrate_any _ _ _ (by omega) (by omega) (by omega) (by omega)
  have K4 : Hid (∀ u, Calls Try.prog 24 #[.int .i64 Y] u fun e w' => e = .returned (.int .i64 T) ∧ Below u.heap.size u w') := fun u => by rw [← hT]; exact rcutf_any _ _ (by omega) (by omega)
  have mx1 : ∀ u, (Builtin.max_ #[3, 3] 3 #[.int .i64 1, .int .i64 D]).run Try.prog u = .ok (.int .i64 E) u := fun u => by rw [run_mx, ← hE]; congr 2; omega
  clear h hs hn ho hD bD hE hB hS hX bX hY hr0 hr1 hT q1 q2
  go_enter Try.func35, Try.ntmps35
  refine post_hid fun Q hQ => ?_
  go_wp2_with (go_at_call 34; refine (rsince_any q s n _ HP.out.1 HP.out.2.1 HP.out.2.2.1).mono ?_; rintro e w' ⟨rfl, hw⟩; rw [hw, HP.out.2.2.2]; clear hw)
  refine wp_region_lastG (by kernel_rfl) (by kernel_rfl) (by rfl) (by kernel_rfl) ?_
  intro C hC hG
  simp only [idleLast, idle]
  have a4 : Hid (∀ u, C u → u.cell? ⟨q, 4, none⟩ = some (.int .i64 s.rate)) := fun u hu => (HP.out.1.kept (hC u hu)).cell 4
  have a6 : Hid (∀ u, C u → u.cell? ⟨q, 6, none⟩ = some (.int .i64 s.base)) := fun u hu => (HP.out.1.kept (hC u hu)).cell 6
  have cg : ∀ {f args v}, Hid (∀ u, Calls Try.prog f args u fun e w' => e = .returned v ∧ Below u.heap.size u w') → Hid (∀ u, C u → Calls Try.prog f args u fun e w' => e = .returned v ∧ C w') := fun h u hu => (h.out u).mono fun e w' ⟨h1, h2⟩ => ⟨h1, hG u w' hu h2⟩
  have Z1 := cg K1
  have Z2 := cg K2
  have Z3 := cg K3
  have Z4 := cg K4
  clear cg K1 K2 K3 K4
  refine QW.out ?_
  repeat (first
    | (refine qa_valW (by rfl) ?_; apply Exists.intro; refine ⟨fun u hu => ?_, ?_⟩; ((have e2 := a4.out u hu; have e10 := a6.out u hu); go_simp; exact rfl); try go_simp)
    | (refine qa_callW (by rfl) 40 _ _ ?_ (fun u hu => Z1.out u hu) ?_; (focus (intro u hu; go_simp; first | done | exact rfl)); try go_simp)
    | (refine qa_callW (by rfl) 56 _ _ ?_ (fun u hu => Z2.out u hu) ?_; (focus (intro u hu; go_simp; first | done | exact rfl)); try go_simp)
    | (refine qa_callW (by rfl) 55 _ _ ?_ (fun u hu => Z3.out u hu) ?_; (focus (intro u hu; go_simp; first | done | exact rfl)); try go_simp)
    | (refine qa_callW (by rfl) 24 _ _ ?_ (fun u hu => Z4.out u hu) ?_; (focus (intro u hu; go_simp; first | done | exact rfl)); try go_simp))
  refine qw_nil ?_
  intro W hu
  have HX : Hid (Rp W q s ∧ w.grownBy W (some q)) := ⟨HP.out.1.kept hu, grownBy_below hu _⟩
  clear a4 a6 Z1 Z2 Z3 Z4 hC hG hu
  refine wpOp_stL (cs := lpL s) _ (by rfl) rfl 30 _ _ rfl HX.out.1 4 (.int .i64 T) (by rfl) (by rfl) rfl (by kernel_rfl) (by simp [lpL]) rfl ?_
  intro W2 hp hg _
  have h1 : Rp W2 q { s with rate := T } := hp
  have H2 : Hid (Rp W2 q { s with rate := T } ∧ w.grownBy W2 (some q)) := ⟨h1, grownBy_trans HX.out.2 hg⟩
  clear hp hg h1
  go_simp
  rw [hQ.out]
  go_end0
  rw [HE.out]
  exact ⟨rfl, H2.out⟩
end Go.Proofs.Ytbagfnafkpbanaa
