/- Auth: a state's bytes; a number of bits laid down (SHA). -/
import Derived.Test.YtocimfhagkcnlaaDoorAC
namespace Go.Proofs.YtocimfhagkcnlaaDoor
open Go Go.RowKit Go.Sort
set_option linter.unusedVariables false
/-- so many bytes of a state's words -/
def bB (xs : List Int) : Nat → List Int
  | 0 => List.replicate 32 0
  | n + 1 => (bB xs n).set n ((xs.getD (n / 4) 0 / 2 ^ (24 - n % 4 * 8)) % 256)
theorem bB_len (xs : List Int) (n : Nat) : (bB xs n).length = 32 := by
  induction n with
  | zero => simp [bB]
  | succ n ih => rw [bB, List.length_set, ih]
structure Yw (w wr : World) (S : Array Value) (ys : List Int) : Prop where
  b0 : Bk w.heap.size wr S 49
  b1 : Bk (w.heap.size + 1) wr #[.int .u8 0, .int .u8 0, .int .u8 0, .int .u8 0, .int .u8 0, .int .u8 0, .int .u8 0, .int .u8 0, .int .u8 0, .int .u8 0, .int .u8 0, .int .u8 0, .int .u8 0, .int .u8 0, .int .u8 0, .int .u8 0, .int .u8 0, .int .u8 0, .int .u8 0, .int .u8 0, .int .u8 0, .int .u8 0, .int .u8 0, .int .u8 0, .int .u8 0, .int .u8 0, .int .u8 0, .int .u8 0, .int .u8 0, .int .u8 0, .int .u8 0, .int .u8 0] 26
  b2 : Bk (w.heap.size + 2) wr (by' ys).toArray 26
  bl : Below w.heap.size w wr
theorem Yw.set {w wr : World} {S : Array Value} {ys : List Int} (h : Yw w wr S ys) (k : Nat) (x : Int) : Yw w (wr.setCell ⟨w.heap.size + 2, k, none⟩ (.int .u8 x)) S (ys.set k x) :=
  ⟨bk_far h.b0 (by omega) _, bk_far h.b1 (by omega) _, by have := h.b2.set (j := k) (.int .u8 x); rw [by_set] at this; exact this, h.bl.setCell (p := ⟨w.heap.size + 2, k, none⟩) (by show w.heap.size ≤ w.heap.size + 2; omega) _⟩
set_option maxRecDepth 20000 in
set_option maxHeartbeats 4000000 in
theorem bytes_any (xs : List Int) (hx : xs.length = 8) (w : World) :
    Calls Tryd.prog 30 #[.agg (wd xs).toArray] w fun e w' => e = .returned (.agg (by' (bB xs 32)).toArray) ∧ Below w.heap.size w w' := by
  have HX : Hid (xs.length = 8) := hx
  clear hx
  obtain ⟨S, hS⟩ : ∃ S, (wd xs).toArray = S := ⟨_, rfl⟩
  have HS : Hid ((wd xs).toArray = S) := hS
  rw [hS]
  clear hS
  go_enter Tryd.func30, Tryd.ntmps30
  refine post_hid fun Q hQ => ?_
  refine seq_hid fun R0 hR0 => ?_
  go_wp2_with fail
  obtain ⟨W0, hW0⟩ : ∃ W, W = (w.alloc (.cells S 49)).alloc (.cells #[.int .u8 0, .int .u8 0, .int .u8 0, .int .u8 0, .int .u8 0, .int .u8 0, .int .u8 0, .int .u8 0, .int .u8 0, .int .u8 0, .int .u8 0, .int .u8 0, .int .u8 0, .int .u8 0, .int .u8 0, .int .u8 0, .int .u8 0, .int .u8 0, .int .u8 0, .int .u8 0, .int .u8 0, .int .u8 0, .int .u8 0, .int .u8 0, .int .u8 0, .int .u8 0, .int .u8 0, .int .u8 0, .int .u8 0, .int .u8 0, .int .u8 0, .int .u8 0] 26) := ⟨_, rfl⟩
  have hs0 : W0.heap.size = w.heap.size + 2 := by rw [hW0]; simp
  have K0 : Hid (Bk w.heap.size W0 S 49 ∧ Bk (w.heap.size + 1) W0 #[.int .u8 0, .int .u8 0, .int .u8 0, .int .u8 0, .int .u8 0, .int .u8 0, .int .u8 0, .int .u8 0, .int .u8 0, .int .u8 0, .int .u8 0, .int .u8 0, .int .u8 0, .int .u8 0, .int .u8 0, .int .u8 0, .int .u8 0, .int .u8 0, .int .u8 0, .int .u8 0, .int .u8 0, .int .u8 0, .int .u8 0, .int .u8 0, .int .u8 0, .int .u8 0, .int .u8 0, .int .u8 0, .int .u8 0, .int .u8 0, .int .u8 0, .int .u8 0] 26 ∧ Below w.heap.size w W0) := by
    rw [hW0]
    refine ⟨bk_alloc (Bk.new w _ _) _, ?_, ((Below.refl _ _).alloc (Nat.le_refl _) _).alloc (by simp) _⟩
    have := Bk.new (w.alloc (.cells S 49)) #[.int .u8 0, .int .u8 0, .int .u8 0, .int .u8 0, .int .u8 0, .int .u8 0, .int .u8 0, .int .u8 0, .int .u8 0, .int .u8 0, .int .u8 0, .int .u8 0, .int .u8 0, .int .u8 0, .int .u8 0, .int .u8 0, .int .u8 0, .int .u8 0, .int .u8 0, .int .u8 0, .int .u8 0, .int .u8 0, .int .u8 0, .int .u8 0, .int .u8 0, .int .u8 0, .int .u8 0, .int .u8 0, .int .u8 0, .int .u8 0, .int .u8 0, .int .u8 0] 26
    simpa using this
  rw [← hW0, hR0.out]
  clear hW0 hR0
  refine seq_hid fun R1 hR1 => ?_
  go_wp2_with fail
  obtain ⟨W1, hW1⟩ : ∃ W, W = W0.alloc (.cells #[.int .u8 0, .int .u8 0, .int .u8 0, .int .u8 0, .int .u8 0, .int .u8 0, .int .u8 0, .int .u8 0, .int .u8 0, .int .u8 0, .int .u8 0, .int .u8 0, .int .u8 0, .int .u8 0, .int .u8 0, .int .u8 0, .int .u8 0, .int .u8 0, .int .u8 0, .int .u8 0, .int .u8 0, .int .u8 0, .int .u8 0, .int .u8 0, .int .u8 0, .int .u8 0, .int .u8 0, .int .u8 0, .int .u8 0, .int .u8 0, .int .u8 0, .int .u8 0] 26) := ⟨_, rfl⟩
  have K1 : Hid (Yw w W1 S (bB xs 0)) := by
    rw [hW1]
    refine ⟨bk_alloc K0.out.1 _, bk_alloc K0.out.2.1 _, ?_, K0.out.2.2.alloc (by omega) _⟩
    have := Bk.new W0 #[.int .u8 0, .int .u8 0, .int .u8 0, .int .u8 0, .int .u8 0, .int .u8 0, .int .u8 0, .int .u8 0, .int .u8 0, .int .u8 0, .int .u8 0, .int .u8 0, .int .u8 0, .int .u8 0, .int .u8 0, .int .u8 0, .int .u8 0, .int .u8 0, .int .u8 0, .int .u8 0, .int .u8 0, .int .u8 0, .int .u8 0, .int .u8 0, .int .u8 0, .int .u8 0, .int .u8 0, .int .u8 0, .int .u8 0, .int .u8 0, .int .u8 0, .int .u8 0] 26
    rw [hs0] at this
    exact this
  rw [← hW1, hR1.out]
  clear hW1 hR1 K0 hs0
  refine seq_hid fun R2 hR2 => ?_
  go_wp2_with fail
  go_loopw [5] (fun i wr => ∃ (k : Nat) (KI : Int), i = .int .i64 KI ∧ 0 ≤ KI ∧ KI ≤ 32 ∧ Hid (KI = (k : Int) ∧ Yw w wr S (bB xs k))) (fun i _ => (32 - intOf i).toNat)
  case atStart => exact ⟨0, 0, rfl, by omega, by omega, rfl, K1.out⟩
  case round =>
    clear K1
    obtain ⟨k, KI, rfl, k0, k1, hK⟩ := hrel
    by_cases hlt : KI < 32
    · obtain ⟨ys, hys⟩ : ∃ ys, ys = bB xs k := ⟨_, rfl⟩
      have SW : Hid (Yw w wr S ys) := by show Yw _ _ _ _; rw [hys]; exact hK.out.2
      have HY : Hid (ys.length = 32 ∧ ys = bB xs k) := ⟨by rw [hys, bB_len], hys⟩
      have HKI : Hid (KI = (k : Int)) := hK.out.1
      obtain ⟨KQ, hKQ⟩ : ∃ q : Nat, q = k / 4 := ⟨_, rfl⟩
      obtain ⟨QI, hQI⟩ : ∃ x : Int, x = KI / 4 := ⟨_, rfl⟩
      obtain ⟨RI, hRI⟩ : ∃ x : Int, x = KI % 4 := ⟨_, rfl⟩
      obtain ⟨M8, hM8⟩ : ∃ x : Int, x = RI * 8 := ⟨_, rfl⟩
      obtain ⟨SH, hSH⟩ : ∃ x : Int, x = 24 - M8 := ⟨_, rfl⟩
      have hki := hK.out.1
      have e1 : KI.tdiv 4 = QI := by rw [Int.tdiv_eq_ediv_of_nonneg k0, hQI]
      have e1w : IntKind.i64.wrap QI = QI := by rw [IntKind.wrap_i64]; omega
      have e2 : KI.tmod 4 = RI := by rw [Int.tmod_eq_emod_of_nonneg k0, hRI]
      have e3 : IntKind.i64.wrap (RI * 8) = M8 := by rw [hM8, IntKind.wrap_i64]; omega
      have e4 : IntKind.i64.wrap (24 - M8) = SH := by rw [hSH, IntKind.wrap_i64]; omega
      have s0 : 0 ≤ SH := by omega
      have s1 : SH < 32 := by omega
      have HSH : Hid (SH.toNat = 24 - k % 4 * 8 ∧ KQ = k / 4 ∧ KQ < 8) := ⟨by omega, hKQ, by omega⟩
      have hiq : ∀ u, Sem.run Tryd.prog (Instr.indexAt 49 (.pointer (some ⟨w.heap.size, 0, none⟩)) (.int .i64 QI)) u = .ok (.pointer (some ⟨w.heap.size, KQ, none⟩)) u := fun u => by
        rw [show QI = (KQ : Int) by omega]; exact aidxW Tryd.underlying49 _ KQ (by omega) u
      have hik : ∀ u, Sem.run Tryd.prog (Instr.indexAt 26 (.pointer (some ⟨w.heap.size + 2, 0, none⟩)) (.int .i64 KI)) u = .ok (.pointer (some ⟨w.heap.size + 2, k, none⟩)) u := fun u => by
        rw [hki]; exact aidxB Tryd.underlying26 _ k (by omega) u
      obtain ⟨X, hX⟩ : ∃ x, x = xs.getD KQ 0 := ⟨_, rfl⟩
      have cq : wr.cell? ⟨w.heap.size, KQ, none⟩ = some (.int .u32 X) := by rw [SW.out.b0.cell, ← HS.out, hX]; exact wd_get _ _ (by rw [HX.out]; omega)
      have ck : wr.cell? ⟨w.heap.size + 2, k, none⟩ = some (.int .u8 (ys.getD k 0)) := by rw [SW.out.b2.cell]; exact by_get _ _ (by rw [HY.out.1]; omega)
      obtain ⟨yk, hyk⟩ : ∃ y, y = ys.getD k 0 := ⟨_, rfl⟩
      rw [← hyk] at ck
      have fk : wr.frozen? ⟨w.heap.size + 2, k, none⟩ = false := SW.out.b2.frozen k
      have SN : Hid (Yw w (wr.setCell ⟨w.heap.size + 2, k, none⟩ (.int .u8 (X / 2 ^ SH.toNat % 256))) S (bB xs (k + 1))) := by
        show Yw _ _ _ _
        rw [bB, ← HY.out.2, HSH.out.1, hX, hKQ]
        exact SW.out.set k _
      clear hK hys hKQ hQI hRI hM8 hSH hki hX hyk
      go_wp2_with fail
      exact ⟨⟨k + 1, KI + 1, rfl, by omega, by omega, by have := HKI.out; omega, SN.out⟩, by simp [intOf]; omega⟩
    · have KE : Hid (Yw w wr S (bB xs 32)) := by
        have e : k = 32 := by have := hK.out.1; omega
        have := hK.out.2
        rw [e] at this
        exact this
      clear hK
      go_wp2_with fail
      rw [hR2.out]
      clear hR2
      obtain ⟨cs, hcs⟩ : ∃ cs, cs = (by' (bB xs 32)).toArray := ⟨_, rfl⟩
      have hz : cs.size = 32 := by rw [hcs, List.size_toArray, by_len, bB_len]
      have HCS : Hid (cs = (by' (bB xs 32)).toArray ∧ cs.size = 32) := ⟨hcs, hz⟩
      have HI : Hid ((Tryd.prog.info? 26).map (·.size) = some cs.size ∧ cs.all (·.oneCell') = true) := ⟨by rw [hz]; kernel_rfl, by rw [hcs]; exact by_one _⟩
      have HB2 : Hid (Bk (w.heap.size + 2) wr cs 26) := by show Bk _ _ _ _; rw [hcs]; exact KE.out.b2
      have HB1 : Hid (wr.heap[w.heap.size + 1]? = some (.cells #[.int .u8 0, .int .u8 0, .int .u8 0, .int .u8 0, .int .u8 0, .int .u8 0, .int .u8 0, .int .u8 0, .int .u8 0, .int .u8 0, .int .u8 0, .int .u8 0, .int .u8 0, .int .u8 0, .int .u8 0, .int .u8 0, .int .u8 0, .int .u8 0, .int .u8 0, .int .u8 0, .int .u8 0, .int .u8 0, .int .u8 0, .int .u8 0, .int .u8 0, .int .u8 0, .int .u8 0, .int .u8 0, .int .u8 0, .int .u8 0, .int .u8 0, .int .u8 0] 26 (0, 0))) := KE.out.b1
      clear hcs hz
      go_wp2_with (first | (refine step_lda (by rfl) _ (by rfl) Tryd.underlying26 (w.heap.size + 2) (by rfl) cs HB2.out HI.out.1 ?_) | (refine step_stR (T := 26) (by rfl) _ _ (by rfl) (w.heap.size + 1) cs (by rfl) (by rfl) #[.int .u8 0, .int .u8 0, .int .u8 0, .int .u8 0, .int .u8 0, .int .u8 0, .int .u8 0, .int .u8 0, .int .u8 0, .int .u8 0, .int .u8 0, .int .u8 0, .int .u8 0, .int .u8 0, .int .u8 0, .int .u8 0, .int .u8 0, .int .u8 0, .int .u8 0, .int .u8 0, .int .u8 0, .int .u8 0, .int .u8 0, .int .u8 0, .int .u8 0, .int .u8 0, .int .u8 0, .int .u8 0, .int .u8 0, .int .u8 0, .int .u8 0, .int .u8 0] HI.out.1 ?_ HI.out.2 HB1.out ?_; focus (rw [HCS.out.2]; rfl)))
      rw [hQ.out]
      refine bodyPost_ret (v := .agg (by' (bB xs 32)).toArray) ?_ rfl ⟨rfl, below_row KE.out.bl (by omega) _⟩
      rw [← HCS.out.1]
      exact res_arr Tryd.results30 Tryd.underlying26 _ _ (w.heap.size + 1) cs (by rfl) (KE.out.b1.row cs) HI.out.1
/-- so many bytes of a number laid down at the end of 64, its lowest byte last -/
def pB (xs : List Int) (c : Int) : Nat → List Int
  | 0 => xs
  | m + 1 => (pB xs c m).set (63 - m) (c / 256 ^ m % 256)
theorem pB_len (xs : List Int) (c : Int) (n : Nat) : (pB xs c n).length = xs.length := by
  induction n with
  | zero => rfl
  | succ n ih => rw [pB, List.length_set, ih]
set_option maxRecDepth 20000 in
set_option maxHeartbeats 4000000 in
theorem putBits_any (p : Nat) (xs : List Int) (c : Int) (hx : xs.length = 64) (c0 : 0 ≤ c) (w : World) (h : Bk p w (by' xs).toArray 51) :
    Calls Tryd.prog 29 #[.slice (some ⟨p, 56, none⟩) 8 8, .int .u64 c] w fun e w' => e = .returned (.tuple #[]) ∧ Bk p w' (by' (pB xs c 8)).toArray 51 ∧ w.grownBy w' (some p) := by
  have H : Hid (Bk p w (by' xs).toArray 51 ∧ xs.length = 64 ∧ 0 ≤ c) := ⟨h, hx, c0⟩
  clear h hx c0
  go_enter Tryd.func29, Tryd.ntmps29
  go_wp2_with fail
  go_loopw [1, 4] (fun cv i wr => ∃ (m : Nat) (I C : Int), cv = .int .u64 C ∧ i = .int .i64 I ∧ -1 ≤ I ∧ I ≤ 7 ∧ 0 ≤ C ∧ Hid (I = 7 - (m : Int) ∧ C = c / 256 ^ m ∧ Bk p wr (by' (pB xs c m)).toArray 51 ∧ w.grownBy wr (some p))) (fun _ i _ => (intOf i + 1).toNat)
  case atStart => exact ⟨0, 7, c, rfl, rfl, by omega, by omega, H.out.2.2, by omega, by simp, H.out.1, grownBy_drewN w 0 _⟩
  case round =>
    obtain ⟨m, I, C, rfl, rfl, i0, i1, C0, hK⟩ := hrel
    by_cases hge : 0 ≤ I
    · obtain ⟨PK, hPK⟩ : ∃ q : Nat, q = 63 - m := ⟨_, rfl⟩
      have HP : Hid (PK = 63 - m ∧ m ≤ 7) := ⟨hPK, by have := hK.out.1; omega⟩
      have hix : ∀ u, Sem.run Tryd.prog (Instr.indexAt 23 (.slice (some ⟨p, 56, none⟩) 8 8) (.int .i64 I)) u = .ok (.pointer (some ⟨p, PK, none⟩)) u := fun u => by
        obtain ⟨j, hj⟩ : ∃ j : Nat, I = (j : Int) := ⟨I.toNat, by omega⟩
        rw [hj, show PK = 56 + j by have := hK.out.1; omega]
        exact sidx (by omega) u
      obtain ⟨yk, hyk⟩ : ∃ y, y = (pB xs c m).getD PK 0 := ⟨_, rfl⟩
      have ck : wr.cell? ⟨p, PK, none⟩ = some (.int .u8 yk) := by rw [hK.out.2.2.1.cell, hyk]; exact by_get _ _ (by rw [pB_len, H.out.2.1]; omega)
      have fk : wr.frozen? ⟨p, PK, none⟩ = false := hK.out.2.2.1.frozen PK
      have KN : Hid (I - 1 = 7 - ((m + 1 : Nat) : Int) ∧ C / 256 = c / 256 ^ (m + 1) ∧ Bk p (wr.setCell ⟨p, PK, none⟩ (.int .u8 (C % 256))) (by' (pB xs c (m + 1))).toArray 51 ∧ w.grownBy (wr.setCell ⟨p, PK, none⟩ (.int .u8 (C % 256))) (some p)) := by
        refine ⟨by have := hK.out.1; omega, ?_, ?_, grownBy_trans hK.out.2.2.2 (grownBy_set _ ⟨p, PK, none⟩ _)⟩
        · rw [hK.out.2.1, Int.pow_succ, Int.ediv_ediv_of_nonneg (Int.pow_nonneg (by omega))]
        · have := hK.out.2.2.1.set (j := PK) (.int .u8 (C % 256))
          rw [by_set, hPK, hK.out.2.1] at this
          rw [hPK, hK.out.2.1]
          exact this
      clear hK hPK hyk
      go_wp2_with fail
      exact ⟨⟨m + 1, I - 1, C / 256, rfl, rfl, by omega, by omega, by omega, KN.out⟩, by simp [intOf]; omega⟩
    · have KE : Hid (Bk p wr (by' (pB xs c 8)).toArray 51 ∧ w.grownBy wr (some p)) := by
        have e : m = 8 := by have := hK.out.1; omega
        have := hK.out.2.2
        rw [e] at this
        exact this
      clear hK
      go_wp2_with fail
      go_end0
      exact ⟨rfl, KE.out.1, KE.out.2⟩
end Go.Proofs.YtocimfhagkcnlaaDoor
