/- Auth: the table of substitutes (AES). -/
import Derived.Test.YtocimfhagkcnlaaDoorAF
import Derived.Test.YtocimfhagkcnlaaDoorAB
namespace Go.Proofs.YtocimfhagkcnlaaDoor
open Go Go.RowKit Go.Sort
set_option linter.unusedVariables false
theorem aidx8 {T : TypeId} {n : Nat} (u : Tryd.prog.underlying T = some (.array n 5)) (p k : Nat) (hk : (k : Int) < n) (w : World) : Sem.run Tryd.prog (Instr.indexAt T (.pointer (some ⟨p, 0, none⟩)) (.int .u8 (k : Int))) w = .ok (.pointer (some ⟨p, k, none⟩)) w := by
  have h0 : (0 : Int) ≤ k := Int.natCast_nonneg k
  have c3 : Tryd.prog.cellsOf 5 = 1 := by kernel_rfl
  have e := add_own p k
  go_simp
/-- the table, so many powers met; the power and its inverse -/
structure Mk where
  l : List Int
  p : Int
  i : Int
def mkS : Nat → Mk
  | 0 => ⟨99 :: List.replicate 255 0, 1, 1⟩
  | n + 1 => ⟨(mkS n).l.set (mkS n).p.toNat (spr (mkS n).i), tms (mkS n).p 3, tms (mkS n).i 246⟩
theorem mkS_len (n : Nat) : (mkS n).l.length = 256 := by
  induction n with
  | zero =>
    show (99 :: List.replicate 255 (0 : Int)).length = 256
    rw [List.length_cons, List.length_replicate]
  | succ n ih => rw [mkS, List.length_set, ih]
theorem mkS8 (n : Nat) : U8 (mkS n).p ∧ U8 (mkS n).i := by
  induction n with
  | zero =>
    show U8 1 ∧ U8 1
    exact ⟨⟨by omega, by omega⟩, ⟨by omega, by omega⟩⟩
  | succ n ih =>
    show U8 (tms (mkS n).p 3) ∧ U8 (tms (mkS n).i 246)
    exact ⟨tms8 ih.1, tms8 ih.2⟩
/-- the table of substitutes -/
def subT : List Int := (mkS 255).l
theorem mkS_ok (n : Nat) : ∀ x ∈ (mkS n).l, U8 x := by
  induction n with
  | zero =>
    intro x hx0
    have hx : x ∈ 99 :: List.replicate 255 (0 : Int) := hx0
    rcases List.mem_cons.1 hx with rfl | hx
    · exact ⟨by omega, by omega⟩
    · have := List.eq_of_mem_replicate hx
      exact ⟨by omega, by omega⟩
  | succ n ih =>
    intro x hx
    rcases List.mem_or_eq_of_mem_set hx with q | q
    · exact ih x q
    · rw [q]; exact spr8 (mkS8 n).2
structure Gw (w wr : World) (l : List Int) : Prop where
  b0 : Bk w.heap.size wr (List.replicate 256 (Value.int .u8 0)).toArray 89
  b1 : Bk (w.heap.size + 1) wr (by' l).toArray 89
  bl : Below w.heap.size w wr
theorem Gw.set {w wr : World} {l : List Int} (h : Gw w wr l) (k : Nat) (x : Int) : Gw w (wr.setCell ⟨w.heap.size + 1, k, none⟩ (.int .u8 x)) (l.set k x) :=
  ⟨bk_far h.b0 (by omega) _, by have := h.b1.set (j := k) (.int .u8 x); rw [by_set] at this; exact this, h.bl.setCell (p := ⟨w.heap.size + 1, k, none⟩) (by show w.heap.size ≤ w.heap.size + 1; omega) _⟩
set_option maxRecDepth 40000 in
set_option maxHeartbeats 8000000 in
theorem makeSubs_any (w : World) :
    Calls Tryd.prog 59 #[] w fun e w' => e = .returned (.agg (by' subT).toArray) ∧ Below w.heap.size w w' := by
  go_enter Tryd.func59, Tryd.ntmps59
  refine post_hid fun Q hQ => ?_
  refine seq_hid fun R0 hR0 => ?_
  go_wp2_with fail
  refine world_hid fun W0 hW0 => ?_
  have K0 : Hid (Bk w.heap.size W0 (List.replicate 256 (Value.int .u8 0)).toArray 89 ∧ Below w.heap.size w W0 ∧ W0.heap.size = w.heap.size + 1) := by
    rw [hW0.out]
    exact ⟨Bk.new w (List.replicate 256 (Value.int .u8 0)).toArray 89, (Below.refl _ _).alloc (Nat.le_refl _) _, by simp⟩
  clear hW0
  rw [hR0.out]
  clear hR0
  refine seq_hid fun R1 hR1 => ?_
  have hs0 : W0.heap.size = w.heap.size + 1 := K0.out.2.2
  have HB : Hid ((W0.alloc (.cells Tryd.zeroCells89 89)).heap[w.heap.size + 1]? = some (.cells Tryd.zeroCells89 89 (0, 0))) := by
    have := heap_alloc_new W0 (.cells Tryd.zeroCells89 89)
    rw [hs0] at this
    exact this
  go_wp2_with (refine step_stR (T := 89) (by rfl) _ _ (by rfl) (w.heap.size + 1) (Tryd.zeroCells89.setIfInBounds 0 (.int .u8 99)) (by rfl) (by rfl) Tryd.zeroCells89 (by kernel_rfl) (by kernel_rfl) (by kernel_rfl) HB.out ?_)
  refine world_hid fun W1 hW1 => ?_
  have K1 : Hid (Gw w W1 (mkS 0).l) := by
    rw [hW1.out]
    refine ⟨bk_row (bk_alloc K0.out.1 _) (by omega), ?_, below_row (K0.out.2.1.alloc (by omega) _) (by omega) _⟩
    have := (show Bk (w.heap.size + 1) (W0.alloc (.cells Tryd.zeroCells89 89)) Tryd.zeroCells89 89 from HB.out).row (Tryd.zeroCells89.setIfInBounds 0 (.int .u8 99))
    rw [show (Tryd.zeroCells89.setIfInBounds 0 (.int .u8 99)) = (by' (mkS 0).l).toArray by kernel_rfl] at this
    rw [show (Tryd.zeroCells89.setIfInBounds 0 (.int .u8 99)) = (by' (mkS 0).l).toArray by kernel_rfl]
    exact this
  clear hW1 HB K0 hs0
  rw [hR1.out]
  clear hR1
  refine seq_hid fun R2 hR2 => ?_
  go_wp2_with fail
  rw [hR2.out]
  clear hR2
  refine seq_hid fun R3 hR3 => ?_
  go_wp2_with fail
  go_loopw [2, 3, 5] (fun pv iv i wr => ∃ (n : Nat) (NI P I : Int), pv = .int .u8 P ∧ iv = .int .u8 I ∧ i = .int .i64 NI ∧ 0 ≤ NI ∧ NI ≤ 255 ∧ Hid (NI = (n : Int) ∧ P = (mkS n).p ∧ I = (mkS n).i ∧ Gw w wr (mkS n).l)) (fun _ _ i _ => (255 - intOf i).toNat)
  case atStart => exact ⟨0, 0, 1, 1, rfl, rfl, rfl, by omega, by omega, rfl, rfl, rfl, K1.out⟩
  case round =>
    clear K1
    obtain ⟨n, NI, P, I, rfl, rfl, rfl, n0, n1, hN⟩ := hrel
    by_cases hlt : NI < 255
    · have hp8 : U8 P := by rw [hN.out.2.1]; exact (mkS8 n).1
      have hi8 : U8 I := by rw [hN.out.2.2.1]; exact (mkS8 n).2
      obtain ⟨PK, hPK⟩ : ∃ k : Nat, (k : Int) = P := ⟨P.toNat, by have := hp8.1; omega⟩
      have HP : Hid (P.toNat = PK ∧ PK < 256) := ⟨by omega, by have := hp8.2; omega⟩
      have hix : ∀ u, Sem.run Tryd.prog (Instr.indexAt 89 (.pointer (some ⟨w.heap.size + 1, 0, none⟩)) (.int .u8 P)) u = .ok (.pointer (some ⟨w.heap.size + 1, PK, none⟩)) u := fun u => by rw [← hPK]; exact aidx8 Tryd.underlying89 _ PK (by have := hp8.2; omega) u
      obtain ⟨y, hy⟩ : ∃ y, y = (mkS n).l.getD PK 0 := ⟨_, rfl⟩
      have ck : wr.cell? ⟨w.heap.size + 1, PK, none⟩ = some (.int .u8 y) := by rw [hN.out.2.2.2.b1.cell, hy]; exact by_get _ _ (by rw [mkS_len]; exact HP.out.2)
      have fk : wr.frozen? ⟨w.heap.size + 1, PK, none⟩ = false := hN.out.2.2.2.b1.frozen PK
      have HSp : Hid (∀ u, Calls Tryd.prog 76 #[.int .u8 I] u fun e w' => e = .returned (.int .u8 (spr I)) ∧ w' = u) := fun u => spread_any I u
      have HT3 : Hid (∀ u, Calls Tryd.prog 77 #[.int .u8 P, .int .u8 3] u fun e w' => e = .returned (.int .u8 (tms P 3)) ∧ w' = u) := fun u => times_any P 3 ⟨by omega, by omega⟩ u
      have HTi : Hid (∀ u, Calls Tryd.prog 77 #[.int .u8 I, .int .u8 246] u fun e w' => e = .returned (.int .u8 (tms I 246)) ∧ w' = u) := fun u => times_any I 246 ⟨by omega, by omega⟩ u
      have KN : Hid (Gw w (wr.setCell ⟨w.heap.size + 1, PK, none⟩ (.int .u8 (spr I))) (mkS (n + 1)).l) := by
        show Gw _ _ _
        rw [mkS, ← hN.out.2.1, ← hN.out.2.2.1, HP.out.1]
        exact hN.out.2.2.2.set PK _
      clear hp8 hi8 hPK hy
      go_wp2_with fail
      refine (HSp.out _).mono ?_
      rintro e' w9 ⟨rfl, hw9⟩
      rw [hw9]
      clear hw9
      go_wp2_with fail
      refine (HT3.out _).mono ?_
      rintro e' w9 ⟨rfl, hw9⟩
      rw [hw9]
      clear hw9
      go_wp2_with fail
      refine (HTi.out _).mono ?_
      rintro e' w9 ⟨rfl, hw9⟩
      rw [hw9]
      clear hw9
      go_wp2_with fail
      exact ⟨⟨n + 1, NI + 1, _, _, rfl, rfl, rfl, by omega, by omega, by have := hN.out.1; omega, by rw [mkS, ← hN.out.2.1], by rw [mkS, ← hN.out.2.2.1], KN.out⟩, by simp [intOf]; omega⟩
    · have KE : Hid (Gw w wr subT) := by
        have e : n = 255 := by have := hN.out.1; omega
        have := hN.out.2.2.2
        rw [e] at this
        exact this
      clear hN
      go_wp2_with fail
      rw [hR3.out]
      clear hR3
      obtain ⟨cs, hcs⟩ : ∃ cs, cs = (by' subT).toArray := ⟨_, rfl⟩
      have hz : cs.size = 256 := by rw [hcs, List.size_toArray, by_len]; exact mkS_len 255
      have HI : Hid ((Tryd.prog.info? 89).map (·.size) = some cs.size ∧ cs.all (·.oneCell') = true ∧ cs.size = 256) := ⟨by rw [hz]; kernel_rfl, by rw [hcs]; exact by_one _, hz⟩
      have HB1 : Hid (Bk (w.heap.size + 1) wr cs 89) := by show Bk _ _ _ _; rw [hcs]; exact KE.out.b1
      have HB0 : Hid (wr.heap[w.heap.size]? = some (.cells (List.replicate 256 (Value.int .u8 0)).toArray 89 (0, 0))) := KE.out.b0
      have HCS : Hid (cs = (by' subT).toArray) := hcs
      clear hcs hz
      go_wp2_with (first | (refine step_lda (by rfl) _ (by rfl) Tryd.underlying89 (w.heap.size + 1) (by rfl) cs HB1.out HI.out.1 ?_) | (refine step_stR (T := 89) (by rfl) _ _ (by rfl) w.heap.size cs (by rfl) (by rfl) (List.replicate 256 (Value.int .u8 0)).toArray HI.out.1 ?_ HI.out.2.1 HB0.out ?_; focus (rw [HI.out.2.2, List.size_toArray, List.length_replicate])))
      rw [hQ.out]
      refine bodyPost_ret (v := .agg (by' subT).toArray) ?_ rfl ⟨rfl, below_row KE.out.bl (Nat.le_refl _) _⟩
      rw [← HCS.out]
      exact res_arr Tryd.results59 Tryd.underlying89 _ _ w.heap.size cs (by rfl) (KE.out.b0.row cs) HI.out.1
end Go.Proofs.YtocimfhagkcnlaaDoor
