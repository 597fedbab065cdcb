/- Auth: a block hidden (AES). -/
import Derived.Test.YtocimfhagkcnlaaDoorAK
namespace Go.Proofs.YtocimfhagkcnlaaDoor
open Go Go.RowKit Go.Sort
set_option linter.unusedVariables false
theorem Uw.below {w wr w' : World} {l : List Int} (h : Uw w wr l) (hb : Below wr.heap.size wr w') : Uw w w' l :=
  ⟨h.b0.kept (hb.block _ h.b0.lt), h.b1.kept (hb.block _ h.b1.lt), h.bl.trans (hb.mono h.bl.size)⟩
theorem Uw.row {w wr : World} {l : List Int} (h : Uw w wr l) (l' : List Int) : Uw w (wr.setRow w.heap.size (by' l').toArray) l' :=
  ⟨h.b0.row _, bk_row h.b1 (by omega), below_row h.bl (Nat.le_refl _) _⟩
/-- the cipher's key of a number -/
def kyK (L : List Int) (k : Nat) : List Int := (List.range 16).map fun j => L.getD (256 + k * 16 + j) 0
theorem kyK_len (L : List Int) (k : Nat) : (kyK L k).length = 16 := by rw [kyK, List.length_map, List.length_range]
theorem kyK8 {L : List Int} (h : ∀ x ∈ L, U8 x) (k : Nat) : ∀ x ∈ kyK L k, U8 x := by
  intro x hx
  obtain ⟨j, _, rfl⟩ := List.mem_map.1 hx
  exact getD8 h _
theorem kyK_cell {w : World} {c : Nat} {L : List Int} (h : Cq w c L) (k : Nat) (hk : k < 11) (j : Nat) (u : Value) (hu : (by' (kyK L k))[j]? = some u) : w.cell? ((⟨c, 256 + k * 16, none⟩ : Addr).add j) = some u := by
  have hj : j < 16 := by
    rcases Nat.lt_or_ge j 16 with q | q
    · exact q
    · rw [List.getElem?_eq_none (by rw [by_len, kyK_len]; exact q)] at hu; cases hu
  have e : (⟨c, 256 + k * 16, none⟩ : Addr).add j = ⟨c, 256 + k * 16 + j, none⟩ := by unfold Addr.add; split <;> simp_all
  rw [e, h.1.cell, by_get _ _ (by rw [h.2.1]; omega)]
  rw [← hu]
  have := by_get (kyK L k) j (by rw [kyK_len]; exact hj)
  rw [List.getElem?_toArray] at this
  rw [this]
  congr 2
  rw [kyK, List.getD_eq_getElem?_getD, List.getD_eq_getElem?_getD, List.getElem?_map, List.getElem?_range hj]
  rfl
theorem aidxK {T : TypeId} {n : Nat} (u : Tryd.prog.underlying T = some (.array n 59)) (p o k : Nat) (hk : (k : Int) < n) (w : World) : Sem.run Tryd.prog (Instr.indexAt T (.pointer (some ⟨p, o, none⟩)) (.int .i64 (k : Int))) w = .ok (.pointer (some ⟨p, o + k * 16, none⟩)) w := by
  have h0 : (0 : Int) ≤ k := Int.natCast_nonneg k
  have c3 : Tryd.prog.cellsOf 59 = 16 := by kernel_rfl
  have e : (⟨p, o, none⟩ : Addr).add (k * 16) = ⟨p, o + k * 16, none⟩ := by unfold Addr.add; split <;> simp_all
  go_simp
theorem info16 {l : List Int} (h : l.length = 16) : (Tryd.prog.info? 59).map (·.size) = some (by' l).length := by rw [by_len, h]; kernel_rfl
theorem info16a {l : List Int} (h : l.length = 16) : (Tryd.prog.info? 59).map (·.size) = some (by' l).toArray.size := by rw [List.size_toArray]; exact info16 h
/-- a block behind so many rounds -/
def ofR (L b : List Int) : Nat → List Int
  | 0 => xoN b (kyK L 0) 16
  | n + 1 => xoN (if n + 1 = 10 then tuN (suN L (ofR L b n) 16) 16 else miN (tuN (suN L (ofR L b n) 16) 16) 16) (kyK L (n + 1)) 16
theorem tuN8' {b : List Int} (h : ∀ x ∈ b, U8 x) (n : Nat) : ∀ x ∈ tuN b n, U8 x := tuN8 h n
theorem ofR_ok {L b : List Int} (hL : ∀ x ∈ L, U8 x) (hb : b.length = 16) (h8 : ∀ x ∈ b, U8 x) (n : Nat) : (ofR L b n).length = 16 ∧ ∀ x ∈ ofR L b n, U8 x := by
  induction n with
  | zero => exact ⟨by rw [ofR, xoN_len, hb], xoN8 h8 (kyK8 hL 0) 16⟩
  | succ n ih =>
    have t8 := tuN8 (suN8 hL ih.2 16) 16
    rw [ofR]
    by_cases h : n + 1 = 10
    · rw [if_pos h]
      exact ⟨by rw [xoN_len, tuN_len], xoN8 t8 (kyK8 hL _) 16⟩
    · rw [if_neg h]
      exact ⟨by rw [xoN_len, miN_len], xoN8 (miN8 t8 16) (kyK8 hL _) 16⟩
set_option maxRecDepth 20000 in
set_option maxHeartbeats 4000000 in
theorem of_any (c : Nat) (L b : List Int) (hb : b.length = 16) (hb8 : ∀ x ∈ b, U8 x) (w : World) (hc : Cq w c L) :
    Calls Tryd.prog 35 #[.pointer (some ⟨c, 0, none⟩), .agg (by' b).toArray] w fun e w' => e = .returned (.agg (by' (ofR L b 10)).toArray) ∧ Below w.heap.size w w' := by
  have HC : Hid (Cq w c L) := hc
  have HL : Hid (b.length = 16 ∧ ∀ x ∈ b, U8 x) := ⟨hb, hb8⟩
  have hcw : c < w.heap.size := hc.1.lt
  clear hb hb8 hc
  obtain ⟨A, hA⟩ : ∃ A, (by' b).toArray = A := ⟨_, rfl⟩
  have HA : Hid ((by' b).toArray = A) := hA
  rw [hA]
  clear hA
  go_enter Tryd.func35, Tryd.ntmps35
  refine post_hid fun Q hQ => ?_
  refine seq_hid fun R0 hR0 => ?_
  go_wp2_with fail
  refine world_hid fun W0 hW0 => ?_
  have K0 : Hid (Uw w W0 b) := by
    rw [hW0.out]
    refine ⟨by rw [HA.out]; exact bk_alloc (Bk.new w _ _) _, ?_, ((Below.refl _ _).alloc (Nat.le_refl _) _).alloc (by simp) _⟩
    have := Bk.new (w.alloc (.cells A 59)) #[.int .u8 0, .int .u8 0, .int .u8 0, .int .u8 0, .int .u8 0, .int .u8 0, .int .u8 0, .int .u8 0, .int .u8 0, .int .u8 0, .int .u8 0, .int .u8 0, .int .u8 0, .int .u8 0, .int .u8 0, .int .u8 0] 59
    rw [size_alloc1] at this
    exact this
  rw [hR0.out]
  clear hW0 hR0
  have HKL0 : (0 : Nat) < 11 := by omega
  have HCW : Hid (Cq W0 c L) := ⟨HC.out.1.kept (K0.out.bl.block _ hcw), HC.out.2.1, HC.out.2.2⟩
  have HC1 : Hid (∀ w', (∃ q : Regrown, w' = grow (redrawn W0 q.d) q.os) → ∀ j u, (by' b)[j]? = some u → w'.cell? ((⟨w.heap.size, 0, none⟩ : Addr).add j) = some u) := by
    rintro _ ⟨q, rfl⟩ j u hu
    refine cell_regrown ?_ _ _
    rw [add_own, K0.out.b0.cell, List.getElem?_toArray]
    exact hu
  have HC2 : Hid (∀ w', (∃ q : Regrown, w' = grow (redrawn W0 q.d) q.os) → ∀ j u, (by' (kyK L 0))[j]? = some u → w'.cell? ((⟨c, 256, none⟩ : Addr).add j) = some u) := by
    rintro _ ⟨q, rfl⟩ j u hu
    refine cell_regrown ?_ _ _
    exact kyK_cell HCW.out 0 HKL0 j u hu
  have HXO : Hid (∀ d os, Calls Tryd.prog 39 #[.agg (by' b).toArray, .agg (by' (kyK L 0)).toArray] (grow (redrawn W0 d) os) fun e w'' => e = .returned (.agg (by' (xoN b (kyK L 0) 16)).toArray) ∧ ∃ p : Regrown, w'' = grow (redrawn W0 p.d) p.os) := fun d os =>
    Calls.regrown_of (xor_any b (kyK L 0) HL.out.1 (kyK_len L 0) _)
  have IS : Hid ((Tryd.prog.info? 59).map (·.size) = some (by' b).length) := info16 HL.out.1
  have IK : Hid ((Tryd.prog.info? 59).map (·.size) = some (by' (kyK L 0)).length) := info16 (kyK_len L 0)
  refine seq_hid fun R1 hR1 => ?_
  go_wp2_with fail
  refine wp_region_last_belowT (by kernel_rfl) (by kernel_rfl) (by rfl) (by kernel_rfl) ?_
  simp only [idleLast, idle]
  repeat (first | (refine quiet_ld6 (by rfl) 59 _ rfl ⟨w.heap.size, 0, none⟩ (by rfl) (by' b) _ Tryd.underlying59 rfl IS.out HC1.out ?_) | (refine quiet_ld6 (by rfl) 59 _ rfl ⟨c, 256, none⟩ (by rfl) (by' (kyK L 0)) _ Tryd.underlying59 rfl IK.out HC2.out ?_) | (quiet_step (exact HXO.out _ _)))
  refine wpQuiet_nil ?_
  intro _ hw'
  obtain ⟨⟨dq, osq⟩, hw''⟩ := hw'
  subst hw''
  have ZG : Hid (Uw w (grow (redrawn W0 dq) osq) b) := K0.out.below (below_regrown W0 dq osq)
  have HBH : Hid ((grow (redrawn W0 dq) osq).heap[w.heap.size]? = some (.cells (by' b).toArray 59 (0, 0))) := ZG.out.b0
  refine wpOp_st _ (by rfl) rfl _ _ rfl (by' (xoN b (kyK L 0) 16)).toArray (by rfl) (by rfl) _ HBH.out (info16a (by rw [xoN_len, HL.out.1])) (by rw [List.size_toArray, List.size_toArray, by_len, by_len, xoN_len]) (by_one _) ?_
  have Z0 : Hid (Uw w ((grow (redrawn W0 dq) osq).setRow w.heap.size (by' (xoN b (kyK L 0) 16)).toArray) (xoN b (kyK L 0) 16)) := ZG.out.row _
  have Z1 : Hid (Uw w ((grow (redrawn W0 dq) osq).setRow w.heap.size (by' (xoN b (kyK L 0) 16)).toArray) (ofR L b 0)) := by show Uw _ _ _; rw [ofR]; exact Z0.out
  clear HC1 HC2 HXO ZG HBH IS IK Z0 HCW K0
  go_wp2_with fail
  refine world_hid fun W1 hW1 => ?_
  have K1 : Hid (Uw w W1 (ofR L b 0)) := by show Uw _ _ _; rw [hW1.out]; exact Z1.out
  clear hW1 Z1
  rw [hR1.out]
  clear hR1
  refine seq_hid fun R2 hR2 => ?_
  go_wp2_with fail
  go_loopw [5] (fun i wr => ∃ (k : Nat) (KI : Int), i = .int .i64 KI ∧ 1 ≤ KI ∧ KI ≤ 11 ∧ Hid (KI = 1 + (k : Int) ∧ Uw w wr (ofR L b k))) (fun i _ => (11 - intOf i).toNat)
  case atStart => exact ⟨0, 1, rfl, by omega, by omega, rfl, K1.out⟩
  case round =>
    clear K1
    obtain ⟨k, KI, rfl, k0, k1, hK⟩ := hrel
    by_cases hlt : KI ≤ 10
    · obtain ⟨l, hl⟩ : ∃ l, l = ofR L b k := ⟨_, rfl⟩
      have SX : Hid (Uw w wr l) := by show Uw _ _ _; rw [hl]; exact hK.out.2
      have HLL : Hid (l.length = 16 ∧ (∀ x ∈ l, U8 x) ∧ l = ofR L b k ∧ KI = 1 + (k : Int)) := by
        have := ofR_ok HC.out.2.2 HL.out.1 HL.out.2 k
        rw [← hl] at this
        exact ⟨this.1, this.2, hl, hK.out.1⟩
      obtain ⟨OK, hOK⟩ : ∃ o : Nat, o = 256 + (k + 1) * 16 := ⟨_, rfl⟩
      have HOK : Hid (OK = 256 + (k + 1) * 16) := hOK
      have hk10 : k < 10 := by have := hK.out.1; omega
      have hix : ∀ u, Sem.run Tryd.prog (Instr.indexAt 91 (.pointer (some ⟨c, 256, none⟩)) (.int .i64 KI)) u = .ok (.pointer (some ⟨c, OK, none⟩)) u := fun u => by
        rw [HOK.out, show KI = ((k + 1 : Nat) : Int) by have := hK.out.1; omega]
        exact aidxK Tryd.underlying91 _ _ (k + 1) (by omega) u
      have AL : Hid ((Tryd.prog.info? 59).map (·.size) = some (by' l).toArray.size) := info16a HLL.out.1
      have HCR : Hid (Cq wr c L) := ⟨HC.out.1.kept (SX.out.bl.block _ hcw), HC.out.2.1, HC.out.2.2⟩
      have HK1 : Hid (k < 10) := hk10
      clear hK hl hOK hk10
      go_wp2_with (refine step_lda (by rfl) _ (by rfl) Tryd.underlying59 w.heap.size (by rfl) (by' l).toArray SX.out.b0 AL.out ?_)
      refine (substituted_any c L l HLL.out.1 HLL.out.2.1 wr HCR.out).mono ?_
      rintro _ w1 ⟨rfl, hb1⟩
      go_wp2_with fail
      refine (turned_any (suN L l 16) (by rw [suN_len, HLL.out.1]) w1).mono ?_
      rintro _ w2 ⟨rfl, hb2⟩
      obtain ⟨t, ht⟩ : ∃ t, t = tuN (suN L l 16) 16 := ⟨_, rfl⟩
      have HT : Hid (t.length = 16 ∧ t = tuN (suN L l 16) 16 ∧ ∀ x ∈ t, U8 x) := ⟨by rw [ht, tuN_len], ht, by rw [ht]; exact tuN8 (suN8 HC.out.2.2 HLL.out.2.1 16) 16⟩
      have S2 : Hid (Uw w w2 l) := (SX.out.below hb1).below hb2
      have HB2 : Hid (w2.heap[w.heap.size]? = some (.cells (by' l).toArray 59 (0, 0))) := S2.out.b0
      have KT : Hid (Uw w (w2.setRow w.heap.size (by' t).toArray) t) := S2.out.row t
      have AT : Hid ((Tryd.prog.info? 59).map (·.size) = some (by' t).toArray.size) := info16a HT.out.1
      rw [← ht]
      clear ht hb1 hb2 SX S2
      by_cases h10 : KI = 10
      · have KP : Hid (Uw w (w2.setRow w.heap.size (by' t).toArray) t) := KT.out
        have HSS : Hid (t.length = 16 ∧ 0 = 0) := ⟨HT.out.1, rfl⟩
        go_wp2_with (refine step_stR (T := 59) (by rfl) _ _ (by rfl) w.heap.size (by' (t)).toArray (by rfl) (by rfl) (by' (l)).toArray AT.out ?_ (by_one _) HB2.out ?_; focus (rw [List.size_toArray, List.size_toArray, by_len, by_len, HT.out.1, HLL.out.1]))
        refine world_hid fun W hW => ?_
        have KW : Hid (Uw w W t) := by show Uw _ _ _; rw [hW.out]; exact KP.out
        clear hW KP
        have HCW : Hid (Cq W c L) := ⟨HC.out.1.kept (KW.out.bl.block _ hcw), HC.out.2.1, HC.out.2.2⟩
        have HC1 : Hid (∀ w', (∃ q : Regrown, w' = grow (redrawn W q.d) q.os) → ∀ j u, (by' t)[j]? = some u → w'.cell? ((⟨w.heap.size, 0, none⟩ : Addr).add j) = some u) := by
          rintro _ ⟨q, rfl⟩ j u hu
          refine cell_regrown ?_ _ _
          rw [add_own, KW.out.b0.cell, List.getElem?_toArray]
          exact hu
        have HC2 : Hid (∀ w', (∃ q : Regrown, w' = grow (redrawn W q.d) q.os) → ∀ j u, (by' (kyK L (k + 1)))[j]? = some u → w'.cell? ((⟨c, 416, none⟩ : Addr).add j) = some u) := by
          rintro _ ⟨q, rfl⟩ j u hu
          refine cell_regrown ?_ _ _
          have q := kyK_cell HCW.out (k + 1) (by have := HK1.out; omega) j u hu
          rw [show 256 + (k + 1) * 16 = 416 by have := HOK.out; have := HLL.out.2.2.2; omega] at q
          exact q
        have HXO : Hid (∀ d os, Calls Tryd.prog 39 #[.agg (by' t).toArray, .agg (by' (kyK L (k + 1))).toArray] (grow (redrawn W d) os) fun e w'' => e = .returned (.agg (by' (xoN t (kyK L (k + 1)) 16)).toArray) ∧ ∃ p : Regrown, w'' = grow (redrawn W p.d) p.os) := fun d os =>
          Calls.regrown_of (xor_any t (kyK L (k + 1)) HSS.out.1 (kyK_len L (k + 1)) _)
        have IS : Hid ((Tryd.prog.info? 59).map (·.size) = some (by' t).length) := info16 HSS.out.1
        have IK : Hid ((Tryd.prog.info? 59).map (·.size) = some (by' (kyK L (k + 1))).length) := info16 (kyK_len L (k + 1))
        have e8 : ofR L b (k + 1) = xoN t (kyK L (k + 1)) 16 := by have := HLL.out.2.2.2; rw [ofR, if_pos (by omega), ← HLL.out.2.2.1, ← HT.out.2.1]
        refine wp_region_last_belowT (by kernel_rfl) (by kernel_rfl) (by rfl) (by kernel_rfl) ?_
        simp only [idleLast, idle]
        repeat (first | (refine quiet_ld6 (by rfl) 59 _ rfl ⟨w.heap.size, 0, none⟩ (by rfl) (by' t) _ Tryd.underlying59 rfl IS.out HC1.out ?_) | (refine quiet_ld6 (by rfl) 59 _ rfl ⟨c, 416, none⟩ (by rfl) (by' (kyK L (k + 1))) _ Tryd.underlying59 rfl IK.out HC2.out ?_) | (quiet_step (exact HXO.out _ _)))
        refine wpQuiet_nil ?_
        intro _ hw'
        obtain ⟨⟨dq, osq⟩, hw''⟩ := hw'
        subst hw''
        have ZG : Hid (Uw w (grow (redrawn W dq) osq) t) := KW.out.below (below_regrown W dq osq)
        have HBH : Hid ((grow (redrawn W dq) osq).heap[w.heap.size]? = some (.cells (by' t).toArray 59 (0, 0))) := ZG.out.b0
        refine wpOp_st _ (by rfl) rfl _ _ rfl (by' (xoN t (kyK L (k + 1)) 16)).toArray (by rfl) (by rfl) _ HBH.out (info16a (by rw [xoN_len, HSS.out.1])) (by rw [List.size_toArray, List.size_toArray, by_len, by_len, xoN_len]) (by_one _) ?_
        have ZN : Hid (Uw w ((grow (redrawn W dq) osq).setRow w.heap.size (by' (xoN t (kyK L (k + 1)) 16)).toArray) (xoN t (kyK L (k + 1)) 16)) := ZG.out.row _
        have ZM : Hid (Uw w ((grow (redrawn W dq) osq).setRow w.heap.size (by' (xoN t (kyK L (k + 1)) 16)).toArray) (ofR L b (k + 1))) := by show Uw _ _ _; rw [e8]; exact ZN.out
        clear HC1 HC2 HXO ZG HBH IS IK ZN e8 KW HCW
        go_wp2_with fail
        exact ⟨⟨k + 1, 11, rfl, by omega, by omega, by have := HLL.out.2.2.2; omega, ZM.out⟩, by simp [intOf]; omega⟩
      · obtain ⟨wt, hwt⟩ : ∃ x, x = w2.setRow w.heap.size (by' t).toArray := ⟨_, rfl⟩
        have KT2 : Hid (Uw w wt t) := by show Uw _ _ _; rw [hwt]; exact KT.out
        have KB : Hid (Bk w.heap.size (w2.setRow w.heap.size (by' t).toArray) (by' t).toArray 59) := KT.out.b0
        go_wp2_with (first | (refine step_lda (by rfl) _ (by rfl) Tryd.underlying59 w.heap.size (by rfl) (by' t).toArray KB.out AT.out ?_) | (refine step_stR (T := 59) (by rfl) _ _ (by rfl) w.heap.size (by' (t)).toArray (by rfl) (by rfl) (by' (l)).toArray AT.out ?_ (by_one _) HB2.out ?_; focus (rw [List.size_toArray, List.size_toArray, by_len, by_len, HT.out.1, HLL.out.1])))
        rw [← hwt]
        refine (mixed_any t HT.out.1 wt).mono ?_
        rintro _ w3 ⟨rfl, hb3⟩
        obtain ⟨s, hs⟩ : ∃ s, s = miN t 16 := ⟨_, rfl⟩
        have HSS : Hid (s.length = 16 ∧ s = miN t 16) := ⟨by rw [hs, miN_len], hs⟩
        have S3 : Hid (Uw w w3 t) := KT2.out.below hb3
        have HB3 : Hid (w3.heap[w.heap.size]? = some (.cells (by' t).toArray 59 (0, 0))) := S3.out.b0
        have KP : Hid (Uw w (w3.setRow w.heap.size (by' s).toArray) s) := S3.out.row s
        have AS : Hid ((Tryd.prog.info? 59).map (·.size) = some (by' s).toArray.size) := info16a HSS.out.1
        rw [← hs]
        clear hs hb3 S3 KT2 KB KT hwt
        go_wp2_with (refine step_stR (T := 59) (by rfl) _ _ (by rfl) w.heap.size (by' (s)).toArray (by rfl) (by rfl) (by' (t)).toArray AS.out ?_ (by_one _) HB3.out ?_; focus (rw [List.size_toArray, List.size_toArray, by_len, by_len, HSS.out.1, HT.out.1]))
        refine world_hid fun W hW => ?_
        have KW : Hid (Uw w W s) := by show Uw _ _ _; rw [hW.out]; exact KP.out
        clear hW KP
        have HCW : Hid (Cq W c L) := ⟨HC.out.1.kept (KW.out.bl.block _ hcw), HC.out.2.1, HC.out.2.2⟩
        have HC1 : Hid (∀ w', (∃ q : Regrown, w' = grow (redrawn W q.d) q.os) → ∀ j u, (by' s)[j]? = some u → w'.cell? ((⟨w.heap.size, 0, none⟩ : Addr).add j) = some u) := by
          rintro _ ⟨q, rfl⟩ j u hu
          refine cell_regrown ?_ _ _
          rw [add_own, KW.out.b0.cell, List.getElem?_toArray]
          exact hu
        have HC2 : Hid (∀ w', (∃ q : Regrown, w' = grow (redrawn W q.d) q.os) → ∀ j u, (by' (kyK L (k + 1)))[j]? = some u → w'.cell? ((⟨c, OK, none⟩ : Addr).add j) = some u) := by
          rintro _ ⟨q, rfl⟩ j u hu
          refine cell_regrown ?_ _ _
          have q := kyK_cell HCW.out (k + 1) (by have := HK1.out; omega) j u hu
          rw [show 256 + (k + 1) * 16 = OK by have := HOK.out; have := HLL.out.2.2.2; omega] at q
          exact q
        have HXO : Hid (∀ d os, Calls Tryd.prog 39 #[.agg (by' s).toArray, .agg (by' (kyK L (k + 1))).toArray] (grow (redrawn W d) os) fun e w'' => e = .returned (.agg (by' (xoN s (kyK L (k + 1)) 16)).toArray) ∧ ∃ p : Regrown, w'' = grow (redrawn W p.d) p.os) := fun d os =>
          Calls.regrown_of (xor_any s (kyK L (k + 1)) HSS.out.1 (kyK_len L (k + 1)) _)
        have IS : Hid ((Tryd.prog.info? 59).map (·.size) = some (by' s).length) := info16 HSS.out.1
        have IK : Hid ((Tryd.prog.info? 59).map (·.size) = some (by' (kyK L (k + 1))).length) := info16 (kyK_len L (k + 1))
        have e8 : ofR L b (k + 1) = xoN s (kyK L (k + 1)) 16 := by have := HLL.out.2.2.2; rw [ofR, if_neg (by omega), ← HLL.out.2.2.1, ← HT.out.2.1, HSS.out.2]
        refine wp_region_last_belowT (by kernel_rfl) (by kernel_rfl) (by rfl) (by kernel_rfl) ?_
        simp only [idleLast, idle]
        repeat (first | (refine quiet_ld6 (by rfl) 59 _ rfl ⟨w.heap.size, 0, none⟩ (by rfl) (by' s) _ Tryd.underlying59 rfl IS.out HC1.out ?_) | (refine quiet_ld6 (by rfl) 59 _ rfl ⟨c, OK, none⟩ (by rfl) (by' (kyK L (k + 1))) _ Tryd.underlying59 rfl IK.out HC2.out ?_) | (quiet_step (exact HXO.out _ _)))
        refine wpQuiet_nil ?_
        intro _ hw'
        obtain ⟨⟨dq, osq⟩, hw''⟩ := hw'
        subst hw''
        have ZG : Hid (Uw w (grow (redrawn W dq) osq) s) := KW.out.below (below_regrown W dq osq)
        have HBH : Hid ((grow (redrawn W dq) osq).heap[w.heap.size]? = some (.cells (by' s).toArray 59 (0, 0))) := ZG.out.b0
        refine wpOp_st _ (by rfl) rfl _ _ rfl (by' (xoN s (kyK L (k + 1)) 16)).toArray (by rfl) (by rfl) _ HBH.out (info16a (by rw [xoN_len, HSS.out.1])) (by rw [List.size_toArray, List.size_toArray, by_len, by_len, xoN_len]) (by_one _) ?_
        have ZN : Hid (Uw w ((grow (redrawn W dq) osq).setRow w.heap.size (by' (xoN s (kyK L (k + 1)) 16)).toArray) (xoN s (kyK L (k + 1)) 16)) := ZG.out.row _
        have ZM : Hid (Uw w ((grow (redrawn W dq) osq).setRow w.heap.size (by' (xoN s (kyK L (k + 1)) 16)).toArray) (ofR L b (k + 1))) := by show Uw _ _ _; rw [e8]; exact ZN.out
        clear HC1 HC2 HXO ZG HBH IS IK ZN e8 KW HCW
        go_wp2_with fail
        exact ⟨⟨k + 1, KI + 1, rfl, by omega, by omega, by have := HLL.out.2.2.2; omega, ZM.out⟩, by simp [intOf]; omega⟩
    · have KE : Hid (Uw w wr (ofR L b 10)) := by
        have e : k = 10 := by have := hK.out.1; omega
        have := hK.out.2
        rw [e] at this
        exact this
      have HLN : Hid ((ofR L b 10).length = 16) := (ofR_ok HC.out.2.2 HL.out.1 HL.out.2 10).1
      clear hK
      go_wp2_with fail
      rw [hR2.out]
      clear hR2
      obtain ⟨cs, hcs⟩ : ∃ cs, cs = (by' (ofR L b 10)).toArray := ⟨_, rfl⟩
      have hz : cs.size = 16 := by rw [hcs, List.size_toArray, by_len]; exact HLN.out
      have HI : Hid ((Tryd.prog.info? 59).map (·.size) = some cs.size ∧ cs.all (·.oneCell') = true ∧ cs.size = 16) := ⟨by rw [hz]; kernel_rfl, by rw [hcs]; exact by_one _, hz⟩
      have HB1 : Hid (Bk (w.heap.size) wr cs 59) := by show Bk _ _ _ _; rw [hcs]; exact KE.out.b0
      have HB0 : Hid (wr.heap[w.heap.size + 1]? = some (.cells #[.int .u8 0, .int .u8 0, .int .u8 0, .int .u8 0, .int .u8 0, .int .u8 0, .int .u8 0, .int .u8 0, .int .u8 0, .int .u8 0, .int .u8 0, .int .u8 0, .int .u8 0, .int .u8 0, .int .u8 0, .int .u8 0] 59 (0, 0))) := KE.out.b1
      have HCS : Hid (cs = (by' (ofR L b 10)).toArray) := hcs
      clear hcs hz
      go_wp2_with (first | (refine step_lda (by rfl) _ (by rfl) Tryd.underlying59 (w.heap.size) (by rfl) cs HB1.out HI.out.1 ?_) | (refine step_stR (T := 59) (by rfl) _ _ (by rfl) (w.heap.size + 1) cs (by rfl) (by rfl) #[.int .u8 0, .int .u8 0, .int .u8 0, .int .u8 0, .int .u8 0, .int .u8 0, .int .u8 0, .int .u8 0, .int .u8 0, .int .u8 0, .int .u8 0, .int .u8 0, .int .u8 0, .int .u8 0, .int .u8 0, .int .u8 0] HI.out.1 ?_ HI.out.2.1 HB0.out ?_; focus (rw [HI.out.2.2]; rfl)))
      rw [hQ.out]
      refine bodyPost_ret (v := .agg (by' (ofR L b 10)).toArray) ?_ rfl ⟨rfl, below_row KE.out.bl (by omega) _⟩
      rw [← HCS.out]
      exact res_arr Tryd.results35 Tryd.underlying59 _ _ (w.heap.size + 1) cs (by rfl) (KE.out.b1.row cs) HI.out.1
end Go.Proofs.YtocimfhagkcnlaaDoor
