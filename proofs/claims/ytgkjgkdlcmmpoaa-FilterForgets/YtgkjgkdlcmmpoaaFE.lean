/- What Add, Clear and tell do. -/
import Derived.Test.YtgkjgkdlcmmpoaaFD
namespace Go.Proofs.Ytgkjgkdlcmmpoaa
open Go Go.RowKit Fi
theorem wpOp_stin {ops : Array Oper} {Q : Exit → Act → World → Prop} {i0 : Nat} {K : Act → World → Prop} {a : Act} {w : World} (o : Oper) (ho : ops[i0]? = some o) (hgd : o.guard = none) (e : TypeId) (x y : Operand) (hop : o.op = .store e x y)
    {p : Nat} {T : TypeId} {cs : List Value} (h : Bk p w cs.toArray T) (i : Nat) (r : List Value) (hx : a.eval x = .pointer (some ⟨p, i, none⟩)) (hy : a.eval y = .agg r.toArray) (hi : (Try.prog.info? e).map (·.size) = some r.length) (hle : i + r.length ≤ cs.length) (h1 : ∀ u ∈ r, u.oneCell' = true)
    (hK : K (a.put o.dst undef) (w.setRow p (cs.take i ++ r ++ cs.drop (i + r.length)).toArray)) : wpOp Try.prog ops Q i0 K a w := by
  unfold wpOp
  rw [ho]
  have hw : Region.wanted o (yielded ops a.tmps) = true := by simp [Region.wanted, hgd]
  simp only [hw, if_true]
  exact .inl (wp_stin e x y hop h i r hx hy hi hle h1 hK)
theorem grownBy_row (w : World) (p : Nat) (cs : Array Value) : w.grownBy (w.setRow p cs) (some p) := ⟨rfl, rfl, rfl, by simp, fun q _ hq => setRow_other w p q _ (fun e => hq (by rw [e]))⟩
theorem grownBy_alloc (w : World) (o : Obj) (r : Option Nat) : w.grownBy (w.alloc o) r := grownBy_below ((Below.refl _ _).alloc (Nat.le_refl _) _) r
set_option maxRecDepth 20000 in
set_option maxHeartbeats 1000000 in
theorem add_b (p : Nat) (rs : List Smp) (n c : Nat) (t : Bool) (la : Int) (s : Smp) (w : World) (h : Fb w p rs n c t la) (hn : (n : Int) < 8) (hc : (c : Int) ≤ 8) :
    Calls Try.prog 9 #[.pointer (some ⟨p, 0, none⟩), .agg (smL s).toArray] w fun e w' => e = .returned (.tuple #[]) ∧ Fb w' p (rs.set ((n + 7) % 8) s) ((n + 7) % 8 : Nat) (min 8 (c + 1) : Nat) t la ∧ w.grownBy w' (some p) := by
  obtain ⟨i, hi⟩ : ∃ i, i = (n + 7) % 8 := ⟨_, rfl⟩
  have hi8 : i < 8 := by omega
  obtain ⟨c', hc'⟩ : ∃ c', c' = min 8 (c + 1) := ⟨_, rfl⟩
  rw [← hi, ← hc']
  have e1 : IntKind.i64.wrap ((n : Int) + 8) = (n : Int) + 8 := by rw [IntKind.wrap_i64]; omega
  have e2 : ((n : Int) + 8 - 1).tmod 8 = (i : Int) := by rw [Int.tmod_eq_emod_of_nonneg (by omega)]; omega
  have e3 : min ((c : Int) + 1) 8 = (c' : Int) := by omega
  have hix := ix_ring p 0 i hi8
  rw [Nat.zero_add] at hix
  clear hi hc'
  obtain ⟨so, sd, sp, sa⟩ := s
  unfold smL
  simp only
  go_enter Try.func9, Try.ntmps9
  refine post_hid fun Q hQ => ?_
  refine seq_hid fun R hR => ?_
  go_wp2
  refine world_hid fun W hW => ?_
  have hB : Below w.heap.size w W := by rw [hW.out]; exact (Below.refl _ _).alloc (Nat.le_refl _) _
  have h0 := h.kept (hB.block p h.lt)
  have g1 := h0.n
  have g2 := h0.frozen
  have HS : Hid (Bk w.heap.size W #[.int .i64 so, .int .i64 sd, .int .i64 sp, .int .u64 sa] 27) := by show Bk _ _ _ _; rw [hW.out]; exact Bk.new _ _ _
  have HB : Hid (Below w.heap.size w W) := hB
  have H0 : Hid (Fb W p rs n c t la) := h0
  have HP : Hid (p < w.heap.size) := h.lt
  clear hW h hB h0
  rw [hR.out]
  clear hR
  refine seq_hid fun R hR => ?_
  go_wp2
  refine world_hid fun W1 hW1 => ?_
  have h1 : Fb W1 p rs i c t la := by rw [hW1.out]; exact H0.out.setN _
  have hg1 : W.grownBy W1 (some p) := by rw [hW1.out]; exact grownBy_set W ⟨p, 32, none⟩ _
  have hS1 : Bk w.heap.size W1 #[.int .i64 so, .int .i64 sd, .int .i64 sp, .int .u64 sa] 27 := HS.out.kept (hg1.block _ HS.out.lt (fun e => by injection e with e; have := HP.out; omega))
  have HG1 : Hid (w.grownBy W1 (some p)) := grownBy_trans (grownBy_below HB.out _) hg1
  have H1 : Hid (Fb W1 p rs i c t la) := h1
  have HC1 : Hid (∀ w', (∃ n, w' = W1.drewN n) → ∀ j u, (smL ⟨so, sd, sp, sa⟩)[j]? = some u → w'.cell? ((⟨w.heap.size, 0, none⟩ : Addr).add j) = some u) := by
    rintro _ ⟨q, rfl⟩ j u hu
    exact cells_of (l := smL ⟨so, sd, sp, sa⟩) hS1 j u hu
  have k1 := h1.n
  clear hW1 h1 hg1 hS1 H0 HB HS g1 g2
  rw [hR.out]
  clear hR
  refine seq_hid fun R hR => ?_
  go_wp2_with fail
  refine wp_region_lastT (by kernel_rfl) (by kernel_rfl) (by rfl) (by kernel_rfl) ?_
  simp only [idleLast, idle]
  repeat (first | (refine quiet_ld6 (by rfl) 27 _ rfl ⟨w.heap.size, 0, none⟩ (by rfl) (smL ⟨so, sd, sp, sa⟩) _ Try.underlying27 rfl (by kernel_rfl) HC1.out ?_) | (quiet_step (fail)))
  refine wpQuiet_nil ?_
  intro _ hw'
  obtain ⟨nq, hw''⟩ := hw'
  subst hw''
  have h2 : Fb (W1.drewN nq) p rs i c t la := H1.out.kept rfl
  refine wpOp_stin _ (by rfl) rfl 27 _ _ rfl h2.blk (i * 4) (smL ⟨so, sd, sp, sa⟩) (by rfl) (by rfl) (by kernel_rfl) (by rw [Fc_len h2.len]; show i * 4 + 4 ≤ 36; omega) (smL_one _) ?_
  have h3 := h2.setS i hi8 ⟨so, sd, sp, sa⟩
  have hg3 : w.grownBy ((W1.drewN nq).setRow p ((Fc rs i c t la).take (i * 4) ++ smL ⟨so, sd, sp, sa⟩ ++ (Fc rs i c t la).drop (i * 4 + (smL ⟨so, sd, sp, sa⟩).length)).toArray) (some p) := grownBy_trans HG1.out (grownBy_trans (grownBy_drewN W1 nq _) (grownBy_row _ _ _))
  generalize (W1.drewN nq).setRow p ((Fc rs i c t la).take (i * 4) ++ smL ⟨so, sd, sp, sa⟩ ++ (Fc rs i c t la).drop (i * 4 + (smL ⟨so, sd, sp, sa⟩).length)).toArray = W3 at *
  have H3 : Hid (Fb W3 p (rs.set i ⟨so, sd, sp, sa⟩) i c t la ∧ w.grownBy W3 (some p)) := ⟨h3, hg3⟩
  have m1 := h3.c
  have m2 := h3.frozen
  clear h2 h3 hg3 HC1 k1 H1 HG1
  go_wp2_with fail
  rw [hR.out, hQ.out]
  clear hR hQ
  have HQ : Hid (∀ x : Int, x = c' → Fb (W3.setCell ⟨p, 33, none⟩ (.int .i64 x)) p (rs.set i ⟨so, sd, sp, sa⟩) i c' t la) := fun x hx => by rw [hx]; exact H3.out.1.setC _
  go_wp2
  all_goals
    go_end0
    exact ⟨rfl, HQ.out _ (by omega), grownBy_trans H3.out.2 (grownBy_set W3 ⟨p, 33, none⟩ _)⟩
theorem getD_set {α : Type} (l : List α) (i j : Nat) (a z : α) (hi : i < l.length) : (l.set i a).getD j z = if i = j then a else l.getD j z := by
  rw [List.getD_eq_getElem?_getD, List.getD_eq_getElem?_getD, List.getElem?_set]
  by_cases e : i = j
  · subst e; rw [if_pos rfl, if_pos rfl, if_pos hi]; rfl
  · rw [if_neg e, if_neg e]
theorem fadd_any (p : Nat) (xs : List Smp) (t : Bool) (la : Int) (s : Smp) (w : World) (h : Fl w p xs t la) :
    Calls Try.prog 9 #[.pointer (some ⟨p, 0, none⟩), .agg (smL s).toArray] w fun e w' => e = .returned (.tuple #[]) ∧ Fl w' p (adS xs s) t la ∧ w.grownBy w' (some p) := by
  obtain ⟨hl, rs, n, hn, hr, hb⟩ := h
  refine (add_b p rs n xs.length t la s w hb (by omega) (by omega)).mono ?_
  rintro e w' ⟨rfl, h2, hg⟩
  have hal := adS_len xs s hl
  refine ⟨rfl, ⟨by omega, _, (n + 7) % 8, by omega, fun i hi => ?_, by rw [hal]; exact h2⟩, hg⟩
  rw [getD_set _ _ _ _ _ (by rw [hb.len]; omega)]
  have e : (adS xs s).getD i z0 = (s :: xs).getD i z0 := by
    unfold adS
    rw [List.getD_eq_getElem?_getD, List.getElem?_take_of_lt (by omega), ← List.getD_eq_getElem?_getD]
  rw [e]
  cases i with
  | zero => rw [if_pos (by omega)]; rfl
  | succ i =>
    rw [if_neg (by omega), List.getD_cons_succ, ← hr i (by omega)]
    congr 1
    omega
theorem Fl.frozen {w : World} {p : Nat} {xs : List Smp} {t : Bool} {la : Int} (h : Fl w p xs t la) (k : Nat) : w.frozen? ⟨p, k, none⟩ = false := by obtain ⟨_, _, _, _, _, h⟩ := h; exact h.frozen k
theorem Fl.c {w : World} {p : Nat} {xs : List Smp} {t : Bool} {la : Int} (h : Fl w p xs t la) : w.cell? ⟨p, 33, none⟩ = some (.int .i64 xs.length) := by obtain ⟨_, _, _, _, _, h⟩ := h; exact h.c
theorem Fl.t {w : World} {p : Nat} {xs : List Smp} {t : Bool} {la : Int} (h : Fl w p xs t la) : w.cell? ⟨p, 34, none⟩ = some (.bool t) := by obtain ⟨_, _, _, _, _, h⟩ := h; exact h.t
theorem Fl.la {w : World} {p : Nat} {xs : List Smp} {t : Bool} {la : Int} (h : Fl w p xs t la) : w.cell? ⟨p, 35, none⟩ = some (.int .u64 la) := by obtain ⟨_, _, _, _, _, h⟩ := h; exact h.la
theorem Fl.told {w : World} {p : Nat} {xs : List Smp} {t : Bool} {la : Int} (h : Fl w p xs t la) (b : Bool) (l : Int) : Fl ((w.setCell ⟨p, 34, none⟩ (.bool b)).setCell ⟨p, 35, none⟩ (.int .u64 l)) p xs b l ∧ w.grownBy ((w.setCell ⟨p, 34, none⟩ (.bool b)).setCell ⟨p, 35, none⟩ (.int .u64 l)) (some p) := by
  obtain ⟨h1, rs, n, h2, h3, h4⟩ := h
  exact ⟨⟨h1, rs, n, h2, h3, (h4.setT b).setL l⟩, grownBy_trans (grownBy_set w ⟨p, 34, none⟩ _) (grownBy_set _ ⟨p, 35, none⟩ _)⟩
theorem sample_any (p : Nat) (xs : List Smp) (t : Bool) (la : Int) (k : Nat) (w : World) (h : Fl w p xs t la) (hk : k < xs.length) :
    Calls Try.prog 28 #[.pointer (some ⟨p, 0, none⟩), .int .i64 k] w fun e w' => e = .returned (.agg (smL (xs.getD k z0)).toArray) ∧ Below w.heap.size w w' := by
  obtain ⟨hl, rs, n, hn, hr, hb⟩ := h
  have := sample_b p rs n k _ t la w hb (by omega) (by omega)
  rw [hr k hk] at this
  exact this
set_option maxHeartbeats 400000 in
theorem clampM_any (a : Int) (w : World) :
    Calls Try.prog 50 #[.int .i64 a, .int .i64 4611686018427387904] w fun e w' => e = .returned (.int .i64 (Fx.cl 4611686018427387904 a)) ∧ w' = w := by
  go_enter Try.func50, Try.ntmps50
  go_wp2_with (go_at_call 47; refine (bound_any _ _ _ (by omega) (by omega)).mono ?_; rintro e w' ⟨rfl, rfl⟩)
  go_ret
  exact ⟨rfl, rfl⟩
set_option maxHeartbeats 400000 in
theorem since_any (a b : Int) (w : World) :
    Calls Try.prog 33 #[.int .u64 a, .int .u64 b] w fun e w' => e = .returned (.int .i64 (sn a b)) ∧ w' = w := by
  go_enter Try.func33, Try.ntmps33
  go_wp2_with (go_at_call 50; refine (clampM_any _ _).mono ?_; rintro e w' ⟨rfl, rfl⟩)
  go_ret
  refine ⟨ret_int' ?_, rfl⟩
  unfold sn
  congr 1
  simp only [IntKind.wrap_u64, wrap64]
  omega
/-- is it new; is a time told then; which one -/
def nwB (t : Bool) (la a : Int) : Bool := !(t && decide (sn a la ≤ 0))
def nwL (t : Bool) (la a : Int) : Int := if nwB t la a then a else la
set_option maxHeartbeats 1000000 in
theorem tell_any (p : Nat) (xs : List Smp) (t : Bool) (la a : Int) (w : World) (h : Fl w p xs t la) :
    Calls Try.prog 20 #[.pointer (some ⟨p, 0, none⟩), .int .u64 a] w fun e w' => e = .returned (.bool (nwB t la a)) ∧ Fl w' p xs (t || nwB t la a) (nwL t la a) ∧ w.grownBy w' (some p) := by
  have h1 := h.t
  have h2 := h.la
  have h3 := h.frozen
  have H : Hid (Fl w p xs t la) := h
  obtain ⟨D, hD⟩ : ∃ D, D = sn a la := ⟨_, rfl⟩
  have HS : Hid (∀ u, Calls Try.prog 33 #[.int .u64 a, .int .u64 la] u fun e w' => e = .returned (.int .i64 D) ∧ w' = u) := fun u => by rw [hD]; exact since_any a la u
  unfold nwL nwB
  rw [← hD]
  clear h hD
  rcases t with _ | _
  · simp only [Bool.false_and, Bool.not_false, Bool.or_true, if_true]
    go_enter Try.func20, Try.ntmps20
    go_wp2
    go_ret
    exact ⟨rfl, H.out.told true a⟩
  · by_cases hd : D ≤ 0
    · have e : decide (D ≤ 0) = true := decide_eq_true hd
      rw [e]
      simp only [Bool.true_and, Bool.not_true, Bool.or_false]
      go_enter Try.func20, Try.ntmps20
      go_wp2_with (go_at_call 33; refine (HS.out _).mono ?_; rintro e w' ⟨rfl, rfl⟩)
      go_ret
      exact ⟨rfl, H.out, grownBy_drewN _ 0 _⟩
    · have e : decide (D ≤ 0) = false := decide_eq_false hd
      rw [e]
      simp only [Bool.and_false, Bool.not_false, Bool.or_true, if_true]
      go_enter Try.func20, Try.ntmps20
      go_wp2_with (go_at_call 33; refine (HS.out _).mono ?_; rintro e w' ⟨rfl, rfl⟩)
      go_ret
      exact ⟨rfl, H.out.told true a⟩
end Go.Proofs.Ytgkjgkdlcmmpoaa
