/- assoc: who is found in the table. -/
import Derived.Test.YtnjdmkgkpdebdaaKA
namespace Go.Proofs.Ytnjdmkgkpdebdaa
open Go Go.RowKit Go.Sort
theorem step_ldatW {ops : Array Oper} {rest : List Oper} {op : Oper} {a : Act} {w : World} {Q : Exit → Act → World → Prop} (ty : TypeId) (x : Operand) (ho : op.op = .load ty x) (hgd : Region.wanted op (yielded ops a.tmps) = true)
    (ad : Addr) (hx : a.eval x = .pointer (some ad)) (cs : List Value) (d : TypeDesc) (hu : Try.prog.underlying ty = some d) (hd : d.isRow = true) (hi : (Try.prog.info? ty).map (·.size) = some cs.length)
    (hc : ∀ j u, cs[j]? = some u → w.cell? (ad.add j) = some u)
    (h : wpList Try.prog ops Q rest (a.put op.dst (.agg cs.toArray)) w) : wpList Try.prog ops Q (op :: rest) a w :=
  wpList_step fun K hK => by
    rw [if_pos hgd]
    unfold Oper.wp execOp
    simp only [ho, hx, Instr.loadAt, Instr.sureAddr, Sem.run_bind, Sem.run_pure, Result.andThen_ok, run_loadVar_at w ad ty cs d hc hu hd hi]
    exact hK _ _ h
theorem own_add (g o k : Nat) : (⟨g, o, none⟩ : Addr).add k = ⟨g, o + k, none⟩ := by unfold Addr.add; split <;> simp_all
/-- what an association is, within a member's block -/
theorem mb_as {w : World} {m : Mb} (h : Bk m.b w (mbL m).toArray 77) : ∀ j u, (asL m.ac)[j]? = some u → w.cell? ((⟨m.b, 1, none⟩ : Addr).add j) = some u := by
  intro j u hu
  rw [own_add, h.cell, Nat.add_comm]
  have hj : j < 12 := by
    rcases Nat.lt_or_ge j 12 with h | h
    · exact h
    · rw [List.getElem?_eq_none (by simpa [asL] using h)] at hu; cases hu
  rcases (show j = 0 ∨ j = 1 ∨ j = 2 ∨ j = 3 ∨ j = 4 ∨ j = 5 ∨ j = 6 ∨ j = 7 ∨ j = 8 ∨ j = 9 ∨ j = 10 ∨ j = 11 by omega) with rfl | rfl | rfl | rfl | rfl | rfl | rfl | rfl | rfl | rfl | rfl | rfl <;> simpa [asL, mbL] using hu
theorem isClock_any (a : As) (w : World) : Calls Try.prog 49 #[.agg (asL a).toArray] w fun e w' => e = .returned (.bool (decide (a.kind = 6))) ∧ Below w.heap.size w w' := by
  unfold asL
  go_enter Try.func49, Try.ntmps49
  go_wp2
  go_ret
  exact ⟨ret_bool' (by rfl), (by repeat' (first | with_reducible exact Below.refl _ _ | with_reducible refine Below.setCell ?_ (by first | (simp; done) | (simp; omega) | omega) _ | with_reducible refine below_drewN ?_ _ | with_reducible refine Below.drew ?_ | with_reducible refine Below.alloc ?_ (by first | (simp; done) | (simp; omega) | omega) _))⟩
def srB (a : As) : Bool := decide (a.kind = 4 ∨ a.kind = 5)
theorem isSearch_any (a : As) (w : World) : Calls Try.prog 42 #[.agg (asL a).toArray] w fun e w' => e = .returned (.bool (srB a)) ∧ Below w.heap.size w w' := by
  unfold asL
  go_enter Try.func42, Try.ntmps42
  go_wp2
  all_goals
    go_ret
    exact ⟨ret_bool' (by rw [Bool.eq_iff_iff]; simp_all [srB]), (by repeat' (first | with_reducible exact Below.refl _ _ | with_reducible refine Below.setCell ?_ (by first | (simp; done) | (simp; omega) | omega) _ | with_reducible refine below_drewN ?_ _ | with_reducible refine Below.drew ?_ | with_reducible refine Below.alloc ?_ (by first | (simp; done) | (simp; omega) | omega) _))⟩
def nkP (a : Int) (c : Bool) (m : Mb) : Bool := decide (m.ac.addr = a) && (decide (m.ac.kind = 6) == c)
theorem nk_yes {a : Int} {c : Bool} {m : Mb} (h : m.ac.addr = a) (hc : decide (m.ac.kind = 6) = c) : nkP a c m = true := by
  unfold nkP; rw [h, hc]; simp
theorem nk_no {a : Int} {c : Bool} {m : Mb} (h : ¬ (m.ac.addr = a ∧ decide (m.ac.kind = 6) = c)) : ¬ nkP a c m = true := by
  unfold nkP
  intro h2
  rw [Bool.and_eq_true, decide_eq_true_eq, beq_iff_eq] at h2
  exact h h2
set_option maxHeartbeats 1000000 in
theorem numberOf_any (q : Nat) (ms : List (Option Mb)) (a : Int) (c : Bool) (w : World) (h : Tb w q ms) : Calls Try.prog 48 #[.pointer (some ⟨q, 0, none⟩), .int .u32 a, .bool c] w fun e w' => e = .returned (.int .i64 (fsF (nkP a c) ms)) ∧ Below w.heap.size w w' := by
  have HT : Hid (Tb w q ms) := h
  obtain ⟨L, HL, hc, hl⟩ := h.row
  have HC : Hid (∀ j u, L[j]? = some u → w.cell? ((⟨q, 0, none⟩ : Addr).add j) = some u) := hc
  clear h hc
  go_enter Try.func48, Try.ntmps48
  refine post_hid fun Q hQ => ?_
  go_wp2_with (refine step_ldat 72 _ rfl rfl ⟨q, 0, none⟩ (by rfl) L _ Try.underlying72 rfl (by rw [hl.out]; kernel_rfl) HC.out ?_)
  go_loopw [13] (fun i wr => ∃ (k : Nat), i = .int .i64 k ∧ (k : Int) ≤ 16 ∧ Hid (Below w.heap.size w wr) ∧ Hid (fsF (nkP a c) ms = fsF (nkP a c) (ms.drop k))) (fun i _ => 16 - (intOf i).toNat)
  case atStart => exact ⟨0, rfl, by omega, Below.refl _ _, rfl⟩
  case round =>
    obtain ⟨k, rfl, hk, HB, HA⟩ := hrel
    have HW : Hid (Tb wr q ms) := HT.out.below HB.out
    by_cases hlt : (k : Int) < 16
    · have hix := HT.out.ix HL.out k (by omega)
      have hdr := drop_at HT.out.len k (by omega)
      obtain ⟨x, hx⟩ : ∃ x, x = ms.getD k none := ⟨_, rfl⟩
      rw [← hx] at hix hdr
      have HD : Hid (ms.drop k = x :: ms.drop (k + 1)) := hdr
      have HX : Hid (x = ms.getD k none) := hx
      clear hx hdr
      cases x with
      | none =>
        unfold ptr at hix
        go_wp2_with fail
        go_roundw
        case rel =>
          refine ⟨k + 1, by go_num, by omega, HB, ?_⟩
          show _ = _
          rw [HA.out, HD.out]
          rfl
        case measure => simp [intOf]; omega
      | some m =>
        unfold ptr at hix
        have HM := (HW.out.mem k m (getD_some HX.out.symm)).1
        have c0 : wr.cell? ⟨m.b, 0, none⟩ = some (.int .i64 m.id) := HM.cell 0
        have c2 : wr.cell? ⟨m.b, 2, none⟩ = some (.int .u32 m.ac.addr) := HM.cell 2
        have HS : Hid (∀ j u, (asL m.ac)[j]? = some u → wr.cell? ((⟨m.b, 1, none⟩ : Addr).add j) = some u) := mb_as HM
        clear HM
        by_cases ha : m.ac.addr = a
        · rw [ha] at c2
          obtain ⟨X, hX⟩ : ∃ X, decide (m.ac.kind = 6) = X := ⟨_, rfl⟩
          have HX2 : Hid (decide (m.ac.kind = 6) = X) := hX
          clear hX
          go_wp2_with (refine step_ldatW 41 _ rfl rfl ⟨m.b, 1, none⟩ (by rfl) (asL m.ac) _ Try.underlying41 rfl (by kernel_rfl) HS.out ?_)
          refine (isClock_any m.ac wr).mono ?_
          rintro e w1 ⟨rfl, hb1⟩
          have H1 : Hid (Below w.heap.size w w1) := below_thru HB.out hb1
          have d0 : w1.cell? ⟨m.b, 0, none⟩ = some (.int .i64 m.id) := (hb1.cell (p := ⟨m.b, 0, none⟩) (World.block_lt_of_cell? _ _ c0)).trans c0
          rw [HX2.out]
          clear hb1 c0 c2
          by_cases hXc : X = c
          · subst hXc
            go_wp2_with fail
            rw [hQ.out]
            go_ret
            refine ⟨ret_int' ?_, H1.out⟩
            rw [HA.out, HD.out, fsF, if_pos (nk_yes ha HX2.out)]
          · have hXc2 : (X == c) = false := by simpa using hXc
            have HN : Hid (¬ nkP a c m = true) := nk_no (fun h => hXc (HX2.out.symm.trans h.2))
            go_wp2_with fail
            go_roundw
            case rel =>
              refine ⟨k + 1, by go_num, by omega, H1, ?_⟩
              show _ = _
              rw [HA.out, HD.out, fsF, if_neg HN.out]
            case measure => simp [intOf]; omega
        · have ha2 : (m.ac.addr == a) = false := by simpa using ha
          have HN : Hid (¬ nkP a c m = true) := nk_no (fun h => ha h.1)
          go_wp2_with fail
          go_roundw
          case rel =>
            refine ⟨k + 1, by go_num, by omega, HB, ?_⟩
            show _ = _
            rw [HA.out, HD.out, fsF, if_neg HN.out]
          case measure => simp [intOf]; omega
    · have HE : Hid (ms.drop k = []) := drop_end HT.out.len k (by omega)
      go_wp2_with fail
      rw [hQ.out]
      go_ret
      refine ⟨ret_int' ?_, HB.out⟩
      rw [HA.out, HE.out]
      rfl
end Go.Proofs.Ytnjdmkgkpdebdaa
