/- Auth: blocks mixed (AES). -/
import Derived.Test.YtocimfhagkcnlaaDoorAI
namespace Go.Proofs.YtocimfhagkcnlaaDoor
open Go Go.RowKit Go.Sort
set_option linter.unusedVariables false
def m1 (b : List Int) (I r : Int) : Int := b.getD (I / 4 * 4 + (I + r) % 4).toNat 0
def mx4 (b : List Int) (I : Int) : Int := bits .xor .u8 (bits .xor .u8 (bits .xor .u8 (bits .xor .u8 (tw (m1 b I 0)) (tw (m1 b I 1))) (m1 b I 1)) (m1 b I 2)) (m1 b I 3)
def miN (b : List Int) : Nat → List Int
  | 0 => List.replicate 16 0
  | n + 1 => (miN b n).set n (mx4 b n)
theorem miN_len (b : List Int) (n : Nat) : (miN b n).length = 16 := by
  induction n with
  | zero => rw [miN, List.length_replicate]
  | succ n ih => rw [miN, List.length_set, ih]
theorem m18 {b : List Int} (hb : ∀ x ∈ b, U8 x) (I r : Int) : U8 (m1 b I r) := getD8 hb _
theorem mx48 {b : List Int} (hb : ∀ x ∈ b, U8 x) (I : Int) : U8 (mx4 b I) := xor8 (xor8 (xor8 (xor8 (tw8 (m18 hb _ _)) (tw8 (m18 hb _ _))) (m18 hb _ _)) (m18 hb _ _)) (m18 hb _ _)
theorem miN8 {b : List Int} (hb : ∀ x ∈ b, U8 x) (n : Nat) : ∀ x ∈ miN b n, U8 x := by
  induction n with
  | zero => exact rep8 16
  | succ n ih => rw [miN]; exact set8 ih n (mx48 hb _)
theorem Tw.below {w wr w' : World} {A : Array Value} {l : List Int} (h : Tw w wr A l) (hb : Below wr.heap.size wr w') : Tw w w' A l :=
  ⟨h.b0.kept (hb.block _ h.b0.lt), h.b1.kept (hb.block _ h.b1.lt), h.b2.kept (hb.block _ h.b2.lt), h.bl.trans (hb.mono h.bl.size)⟩
set_option maxHeartbeats 2000000 in
theorem mixed1_any (pb pf pi : Nat) (b : List Int) (F I r : Int) (w : World) (hb : b.length = 16) (hA : Bk pb w (by' b).toArray 59) (hF : F = I / 4 * 4) (hf : w.cell? ⟨pf, 0, none⟩ = some (.int .i64 F)) (hi : w.cell? ⟨pi, 0, none⟩ = some (.int .i64 I)) (i0 : 0 ≤ I) (i1 : I < 16) (r0 : 0 ≤ r) (r1 : r ≤ 3) :
    Calls Tryd.prog 78 #[.int .i64 r, .pointer (some ⟨pb, 0, none⟩), .pointer (some ⟨pf, 0, none⟩), .pointer (some ⟨pi, 0, none⟩)] w fun e w' => e = .returned (.int .u8 (m1 b I r)) ∧ w' = w := by
  obtain ⟨S, hS⟩ : ∃ x : Int, x = I + r := ⟨_, rfl⟩
  obtain ⟨R, hR⟩ : ∃ x : Int, x = S % 4 := ⟨_, rfl⟩
  obtain ⟨P, hP⟩ : ∃ x : Int, x = F + R := ⟨_, rfl⟩
  obtain ⟨PN, hPN⟩ : ∃ q : Nat, (q : Int) = P := ⟨P.toNat, by omega⟩
  have e1 : IntKind.i64.wrap (I + r) = S := by rw [hS, IntKind.wrap_i64]; omega
  have e2 : S.tmod 4 = R := by rw [Int.tmod_eq_emod_of_nonneg (by omega), hR]
  have e3 : IntKind.i64.wrap (F + R) = P := by rw [hP, IntKind.wrap_i64]; omega
  have hix : ∀ u, Sem.run Tryd.prog (Instr.indexAt 59 (.pointer (some ⟨pb, 0, none⟩)) (.int .i64 P)) u = .ok (.pointer (some ⟨pb, PN, none⟩)) u := fun u => by rw [← hPN]; exact aidxB Tryd.underlying59 _ PN (by omega) u
  have HV : Hid (m1 b I r = b.getD PN 0) := by show _ = _; unfold m1; rw [show (I / 4 * 4 + (I + r) % 4).toNat = PN by omega]
  obtain ⟨x, hx⟩ : ∃ x, x = b.getD PN 0 := ⟨_, rfl⟩
  have cp : w.cell? ⟨pb, PN, none⟩ = some (.int .u8 x) := by rw [hA.cell, hx]; exact by_get _ _ (by omega)
  rw [HV.out, ← hx]
  clear hS hR hP hPN hF hx HV hA hb i0 i1 r0 r1
  go_enter Tryd.func78, Tryd.ntmps78
  go_wp2
  go_ret
  exact ⟨rfl, rfl⟩
set_option maxRecDepth 20000 in
set_option maxHeartbeats 4000000 in
theorem mixed_any (b : List Int) (hb : b.length = 16) (w : World) :
    Calls Tryd.prog 64 #[.agg (by' b).toArray] w fun e w' => e = .returned (.agg (by' (miN b 16)).toArray) ∧ Below w.heap.size w w' := by
  have HL : Hid (b.length = 16) := hb
  clear hb
  obtain ⟨A, hA⟩ : ∃ A, (by' b).toArray = A := ⟨_, rfl⟩
  have HA : Hid ((by' b).toArray = A) := hA
  rw [hA]
  clear hA
  go_enter Tryd.func64, Tryd.ntmps64
  refine post_hid fun Q hQ => ?_
  refine seq_hid fun R0 hR0 => ?_
  go_wp2_with fail
  refine world_hid fun W0 hW0 => ?_
  have K0 : Hid (Bk w.heap.size W0 A 59 ∧ Bk (w.heap.size + 1) W0 #[.int .u8 0, .int .u8 0, .int .u8 0, .int .u8 0, .int .u8 0, .int .u8 0, .int .u8 0, .int .u8 0, .int .u8 0, .int .u8 0, .int .u8 0, .int .u8 0, .int .u8 0, .int .u8 0, .int .u8 0, .int .u8 0] 59 ∧ Below w.heap.size w W0 ∧ W0.heap.size = w.heap.size + 2) := by
    rw [hW0.out]
    refine ⟨bk_alloc (Bk.new w _ _) _, ?_, ((Below.refl _ _).alloc (Nat.le_refl _) _).alloc (by simp) _, by simp⟩
    have := Bk.new (w.alloc (.cells A 59)) #[.int .u8 0, .int .u8 0, .int .u8 0, .int .u8 0, .int .u8 0, .int .u8 0, .int .u8 0, .int .u8 0, .int .u8 0, .int .u8 0, .int .u8 0, .int .u8 0, .int .u8 0, .int .u8 0, .int .u8 0, .int .u8 0] 59
    rw [size_alloc1] at this
    exact this
  have hs0 : W0.heap.size = w.heap.size + 2 := K0.out.2.2.2
  rw [hR0.out]
  clear hW0 hR0
  refine seq_hid fun R1 hR1 => ?_
  go_wp2_with fail
  refine world_hid fun W1 hW1 => ?_
  have K1 : Hid (Tw w W1 A (miN b 0)) := by
    rw [hW1.out]
    refine ⟨bk_alloc K0.out.1 _, bk_alloc K0.out.2.1 _, ?_, K0.out.2.2.1.alloc (by omega) _⟩
    have := Bk.new W0 #[.int .u8 0, .int .u8 0, .int .u8 0, .int .u8 0, .int .u8 0, .int .u8 0, .int .u8 0, .int .u8 0, .int .u8 0, .int .u8 0, .int .u8 0, .int .u8 0, .int .u8 0, .int .u8 0, .int .u8 0, .int .u8 0] 59
    rw [hs0] at this
    exact this
  rw [hR1.out]
  clear hW1 hR1 K0 hs0
  refine seq_hid fun R2 hR2 => ?_
  go_wp2_with fail
  go_loopw [7] (fun i wr => ∃ (k : Nat) (KI : Int), i = .int .i64 KI ∧ 0 ≤ KI ∧ KI ≤ 16 ∧ Hid (KI = (k : Int) ∧ Tw w wr A (miN b k))) (fun i _ => (16 - intOf i).toNat)
  case atStart => exact ⟨0, 0, rfl, by omega, by omega, rfl, K1.out⟩
  case round =>
    clear K1
    obtain ⟨k, KI, rfl, k0, k1, hK⟩ := hrel
    by_cases hlt : KI < 16
    · obtain ⟨QI, hQI⟩ : ∃ x : Int, x = KI / 4 := ⟨_, rfl⟩
      obtain ⟨FI, hFI⟩ : ∃ x : Int, x = QI * 4 := ⟨_, rfl⟩
      have e1 : KI.tdiv 4 = QI := by rw [Int.tdiv_eq_ediv_of_nonneg k0, hQI]
      have e1w : IntKind.i64.wrap QI = QI := by rw [IntKind.wrap_i64]; omega
      have e2 : IntKind.i64.wrap (QI * 4) = FI := by rw [hFI, IntKind.wrap_i64]; omega
      have HF : Hid (FI = KI / 4 * 4) := by show _ = _; rw [hFI, hQI]
      have HKI : Hid (KI = (k : Int) ∧ k < 16) := ⟨hK.out.1, by have := hK.out.1; omega⟩
      have hik : ∀ u, Sem.run Tryd.prog (Instr.indexAt 59 (.pointer (some ⟨w.heap.size + 2, 0, none⟩)) (.int .i64 KI)) u = .ok (.pointer (some ⟨w.heap.size + 2, k, none⟩)) u := fun u => by rw [hK.out.1]; exact aidxB Tryd.underlying59 _ k (by have := HKI.out.2; omega) u
      clear hQI hFI
      go_wp2_with fail
      refine world_hid fun W hW => ?_
      have BW : Below wr.heap.size wr W := by rw [hW.out]; exact ((Below.refl _ _).alloc (Nat.le_refl _) _).alloc (by simp) _
      have KW : Hid (Tw w W A (miN b k)) := hK.out.2.below BW
      have ci : W.cell? ⟨wr.heap.size, 0, none⟩ = some (.int .i64 KI) := by rw [hW.out, (bk_alloc (Bk.new wr #[.int .i64 KI] 3) _).cell]; rfl
      have cf : W.cell? ⟨wr.heap.size + 1, 0, none⟩ = some (.int .i64 FI) := by
        have := Bk.new (wr.alloc (.cells #[.int .i64 KI] 3)) #[.int .i64 FI] 3
        rw [size_alloc1] at this
        rw [hW.out, this.cell]; rfl
      have HM : Hid (∀ (n : Nat) (r : Int), 0 ≤ r → r ≤ 3 → Calls Tryd.prog 78 #[.int .i64 r, .pointer (some ⟨w.heap.size, 0, none⟩), .pointer (some ⟨wr.heap.size + 1, 0, none⟩), .pointer (some ⟨wr.heap.size, 0, none⟩)] (W.drewN n) fun e w' => e = .returned (.int .u8 (m1 b KI r)) ∧ w' = W.drewN n) := fun n r r0 r1 =>
        mixed1_any _ _ _ b FI KI r _ HL.out (by rw [HA.out]; exact KW.out.b0) HF.out cf ci k0 hlt r0 r1
      have HSW : Hid (w.heap.size < W.heap.size) := KW.out.b0.lt
      clear hW BW hK cf
      refine wp_region_lastW (by kernel_rfl) (by kernel_rfl) (by rfl) (by kernel_rfl) ?_
      simp only [idleLast, idle]
      repeat (refine qw_step (fun K hK => ?_); go_simp; first | (refine hK _ ?_; clear hK K) | (apply Exists.intro; refine ⟨fun _ => ?_, hK _ ?_⟩; first | (go_at_call 61; exact Calls.quiet_of_same (twice_any _ _)) | (go_at_call 78; exact Calls.quiet_of_same (HM.out _ _ (by decide) (by decide))); clear hK K))
      refine qw_nil ?_
      intro _ hw'
      obtain ⟨nr, hw''⟩ := hw'
      subst hw''
      refine wpOp_stL (cs := by' (miN b k)) _ (by rfl) rfl 5 _ _ rfl (show Bk _ (W.drewN nr) _ _ from KW.out.b2) k (.int .u8 (mx4 b KI)) (by rfl) (by rfl) rfl (by kernel_rfl) (by rw [by_len, miN_len]; exact HKI.out.2) rfl ?_
      intro W2 hp hg hz
      have KN : Hid (Tw w W2 A (miN b (k + 1))) := by
        have e1 : miN b (k + 1) = (miN b k).set k (mx4 b KI) := by rw [miN, HKI.out.1]
        have e2 : (by' (miN b k)).set k (.int .u8 (mx4 b KI)) = by' ((miN b k).set k (mx4 b KI)) := by unfold by'; rw [List.map_set]
        rw [e2, ← e1] at hp
        have hl := KW.out.b2.lt
        have hk := fun q (hq : q < w.heap.size + 2) => hg.block q (by show q < W.heap.size; omega) (by intro e; injection e with e; omega)
        exact ⟨(show Bk _ (W.drewN nr) _ _ from KW.out.b0).kept (hk _ (by omega)), (show Bk _ (W.drewN nr) _ _ from KW.out.b1).kept (hk _ (by omega)), hp, (below_dr KW.out.bl nr).grown hg (by show w.heap.size ≤ W.heap.size; omega) (fun q e => by injection e with e; omega)⟩
      clear hp hg hz HM
      go_wp2_with fail
      exact ⟨⟨k + 1, KI + 1, rfl, by omega, by omega, by have := HKI.out.1; omega, KN.out⟩, by simp [intOf]; omega⟩
    · have KE : Hid (Tw w wr A (miN b 16)) := by
        have e : k = 16 := by have := hK.out.1; omega
        have := hK.out.2
        rw [e] at this
        exact this
      have HLN : Hid ((miN b 16).length = 16) := miN_len b 16
      clear hK
      go_wp2_with fail
      rw [hR2.out]
      clear hR2
      obtain ⟨cs, hcs⟩ : ∃ cs, cs = (by' (miN b 16)).toArray := ⟨_, rfl⟩
      have hz : cs.size = 16 := by rw [hcs, List.size_toArray, by_len]; exact HLN.out
      have HI : Hid ((Tryd.prog.info? 59).map (·.size) = some cs.size ∧ cs.all (·.oneCell') = true ∧ cs.size = 16) := ⟨by rw [hz]; kernel_rfl, by rw [hcs]; exact by_one _, hz⟩
      have HB1 : Hid (Bk (w.heap.size + 2) wr cs 59) := by show Bk _ _ _ _; rw [hcs]; exact KE.out.b2
      have HB0 : Hid (wr.heap[w.heap.size + 1]? = some (.cells #[.int .u8 0, .int .u8 0, .int .u8 0, .int .u8 0, .int .u8 0, .int .u8 0, .int .u8 0, .int .u8 0, .int .u8 0, .int .u8 0, .int .u8 0, .int .u8 0, .int .u8 0, .int .u8 0, .int .u8 0, .int .u8 0] 59 (0, 0))) := KE.out.b1
      have HCS : Hid (cs = (by' (miN b 16)).toArray) := hcs
      clear hcs hz
      go_wp2_with (first | (refine step_lda (by rfl) _ (by rfl) Tryd.underlying59 (w.heap.size + 2) (by rfl) cs HB1.out HI.out.1 ?_) | (refine step_stR (T := 59) (by rfl) _ _ (by rfl) (w.heap.size + 1) cs (by rfl) (by rfl) #[.int .u8 0, .int .u8 0, .int .u8 0, .int .u8 0, .int .u8 0, .int .u8 0, .int .u8 0, .int .u8 0, .int .u8 0, .int .u8 0, .int .u8 0, .int .u8 0, .int .u8 0, .int .u8 0, .int .u8 0, .int .u8 0] HI.out.1 ?_ HI.out.2.1 HB0.out ?_; focus (rw [HI.out.2.2]; rfl)))
      rw [hQ.out]
      refine bodyPost_ret (v := .agg (by' (miN b 16)).toArray) ?_ rfl ⟨rfl, below_row KE.out.bl (by omega) _⟩
      rw [← HCS.out]
      exact res_arr Tryd.results64 Tryd.underlying59 _ _ (w.heap.size + 1) cs (by rfl) (KE.out.b1.row cs) HI.out.1
end Go.Proofs.YtocimfhagkcnlaaDoor
