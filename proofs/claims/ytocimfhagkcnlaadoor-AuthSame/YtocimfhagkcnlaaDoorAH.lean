/- Auth: blocks added, turned, substituted (AES). -/
import Derived.Test.YtocimfhagkcnlaaDoorAG
namespace Go.Proofs.YtocimfhagkcnlaaDoor
open Go Go.RowKit Go.Sort
set_option linter.unusedVariables false
theorem vidxB {T : TypeId} {n : Nat} (u : Tryd.prog.underlying T = some (.array n 5)) (cs : Array Value) (k : Nat) (v : Value) (hk : (k : Int) < n) (hv : cs[k]? = some v) (w : World) : Sem.run Tryd.prog (Instr.index T (.agg cs) (.int .i64 (k : Int))) w = .ok v w := by
  have h0 : (0 : Int) ≤ k := Int.natCast_nonneg k
  have u2 := Tryd.underlying5
  have c3 : Tryd.prog.cellsOf 5 = 1 := by kernel_rfl
  have r1 : ∀ w, Sem.run Tryd.prog (underlying T) w = .ok (.array n 5) w := run_underlying u
  have r2 : ∀ w, Sem.run Tryd.prog (underlying 5) w = .ok (.int .u8) w := run_underlying u2
  have hk2 : k < n := by omega
  unfold Instr.index part isAgg
  go_simp
/-- two blocks added, the first so many bytes -/
def xoN (a b : List Int) : Nat → List Int
  | 0 => a
  | n + 1 => (xoN a b n).set n (bits .xor .u8 ((xoN a b n).getD n 0) (b.getD n 0))
theorem xoN_len (a b : List Int) (n : Nat) : (xoN a b n).length = a.length := by
  induction n with
  | zero => rfl
  | succ n ih => rw [xoN, List.length_set, ih]
theorem getD8 {l : List Int} (h : ∀ x ∈ l, U8 x) (k : Nat) : U8 (l.getD k 0) := by
  rw [List.getD_eq_getElem?_getD]
  cases e : l[k]? with
  | none => exact ⟨by simp, by simp⟩
  | some x => exact h x (List.mem_of_getElem? e)
theorem set8 {l : List Int} (h : ∀ x ∈ l, U8 x) (k : Nat) {y : Int} (hy : U8 y) : ∀ x ∈ l.set k y, U8 x := fun x hx => by
  rcases List.mem_or_eq_of_mem_set hx with q | q
  · exact h x q
  · rw [q]; exact hy
theorem rep8 (n : Nat) : ∀ x ∈ List.replicate n (0 : Int), U8 x := fun x hx => by
  have := List.eq_of_mem_replicate hx
  exact ⟨by omega, by omega⟩
theorem xoN8 {a b : List Int} (ha : ∀ x ∈ a, U8 x) (hb : ∀ x ∈ b, U8 x) (n : Nat) : ∀ x ∈ xoN a b n, U8 x := by
  induction n with
  | zero => exact ha
  | succ n ih => rw [xoN]; exact set8 ih n (xor8 (getD8 ih n) (getD8 hb n))
structure Xw (w wr : World) (l : List Int) : Prop where
  b0 : Bk w.heap.size wr (by' l).toArray 59
  b2 : Bk (w.heap.size + 2) wr #[.int .u8 0, .int .u8 0, .int .u8 0, .int .u8 0, .int .u8 0, .int .u8 0, .int .u8 0, .int .u8 0, .int .u8 0, .int .u8 0, .int .u8 0, .int .u8 0, .int .u8 0, .int .u8 0, .int .u8 0, .int .u8 0] 59
  bl : Below w.heap.size w wr
theorem Xw.set {w wr : World} {l : List Int} (h : Xw w wr l) (k : Nat) (x : Int) : Xw w (wr.setCell ⟨w.heap.size, k, none⟩ (.int .u8 x)) (l.set k x) :=
  ⟨by have := h.b0.set (j := k) (.int .u8 x); rw [by_set] at this; exact this, bk_far h.b2 (by omega) _, h.bl.setCell (p := ⟨w.heap.size, k, none⟩) (Nat.le_refl _) _⟩
set_option maxRecDepth 20000 in
set_option maxHeartbeats 4000000 in
theorem xor_any (a b : List Int) (ha : a.length = 16) (hb : b.length = 16) (w : World) :
    Calls Tryd.prog 39 #[.agg (by' a).toArray, .agg (by' b).toArray] w fun e w' => e = .returned (.agg (by' (xoN a b 16)).toArray) ∧ Below w.heap.size w w' := by
  have HL : Hid (a.length = 16 ∧ b.length = 16) := ⟨ha, hb⟩
  clear ha hb
  obtain ⟨A, hA⟩ : ∃ A, (by' a).toArray = A := ⟨_, rfl⟩
  obtain ⟨B, hB⟩ : ∃ B, (by' b).toArray = B := ⟨_, rfl⟩
  have HA : Hid ((by' a).toArray = A) := hA
  have HB : Hid ((by' b).toArray = B ∧ (Tryd.prog.info? 59).map (·.size) = some B.size) := ⟨hB, by rw [← hB, List.size_toArray, by_len, HL.out.2]; kernel_rfl⟩
  rw [hA, hB]
  clear hA hB
  go_enter Tryd.func39, Tryd.ntmps39
  refine post_hid fun Q hQ => ?_
  refine seq_hid fun R0 hR0 => ?_
  go_wp2_with fail
  refine world_hid fun W0 hW0 => ?_
  have K0 : Hid (Bk w.heap.size W0 A 59 ∧ Bk (w.heap.size + 1) W0 B 59 ∧ Bk (w.heap.size + 1 + 1) W0 #[.int .u8 0, .int .u8 0, .int .u8 0, .int .u8 0, .int .u8 0, .int .u8 0, .int .u8 0, .int .u8 0, .int .u8 0, .int .u8 0, .int .u8 0, .int .u8 0, .int .u8 0, .int .u8 0, .int .u8 0, .int .u8 0] 59 ∧ Below w.heap.size w W0) := by
    rw [hW0.out]
    refine ⟨bk_alloc (bk_alloc (Bk.new w _ _) _) _, ?_, ?_, (((Below.refl _ _).alloc (Nat.le_refl _) _).alloc (by simp) _).alloc (by simp; omega) _⟩
    · have := Bk.new (w.alloc (.cells A 59)) B 59
      rw [size_alloc1] at this
      exact bk_alloc this _
    · have := Bk.new ((w.alloc (.cells A 59)).alloc (.cells B 59)) #[.int .u8 0, .int .u8 0, .int .u8 0, .int .u8 0, .int .u8 0, .int .u8 0, .int .u8 0, .int .u8 0, .int .u8 0, .int .u8 0, .int .u8 0, .int .u8 0, .int .u8 0, .int .u8 0, .int .u8 0, .int .u8 0] 59
      rw [size_alloc1, size_alloc1] at this
      exact this
  have X0 : Hid (Xw w W0 (xoN a b 0)) := ⟨by show Bk _ _ _ _; rw [show xoN a b 0 = a from rfl, HA.out]; exact K0.out.1, K0.out.2.2.1, K0.out.2.2.2⟩
  rw [hR0.out]
  clear hW0 hR0
  obtain ⟨p2, hp2⟩ : ∃ p, p = w.heap.size + 1 + 1 := ⟨_, rfl⟩
  rw [← hp2]
  have HP2 : Hid (p2 = w.heap.size + 2) := hp2
  clear hp2
  refine seq_hid fun R1 hR1 => ?_
  go_wp2_with (refine step_lda (by rfl) _ (by rfl) Tryd.underlying59 (w.heap.size + 1) (by rfl) B K0.out.2.1 HB.out.2 ?_)
  clear K0
  go_loopw [8] (fun i wr => ∃ (k : Nat) (KI : Int), i = .int .i64 KI ∧ 0 ≤ KI ∧ KI ≤ 16 ∧ Hid (KI = (k : Int) ∧ Xw w wr (xoN a b k))) (fun i _ => (16 - intOf i).toNat)
  case atStart => exact ⟨0, 0, rfl, by omega, by omega, rfl, X0.out⟩
  case round =>
    clear X0
    obtain ⟨k, KI, rfl, k0, k1, hK⟩ := hrel
    by_cases hlt : KI < 16
    · have hk16 : k < 16 := by have := hK.out.1; omega
      obtain ⟨l, hl⟩ : ∃ l, l = xoN a b k := ⟨_, rfl⟩
      have SX : Hid (Xw w wr l) := by show Xw _ _ _; rw [hl]; exact hK.out.2
      have HLL : Hid (l.length = 16 ∧ l = xoN a b k ∧ KI = (k : Int)) := ⟨by rw [hl, xoN_len, HL.out.1], hl, hK.out.1⟩
      have hiv : ∀ u, Sem.run Tryd.prog (Instr.index 59 (.agg B) (.int .i64 KI)) u = .ok (.int .u8 (b.getD k 0)) u := fun u => by
        rw [hK.out.1]
        exact vidxB Tryd.underlying59 B k _ (by omega) (by rw [← HB.out.1]; exact by_get _ _ (by rw [HL.out.2]; exact hk16)) u
      have hix : ∀ u, Sem.run Tryd.prog (Instr.indexAt 59 (.pointer (some ⟨w.heap.size, 0, none⟩)) (.int .i64 KI)) u = .ok (.pointer (some ⟨w.heap.size, k, none⟩)) u := fun u => by rw [hK.out.1]; exact aidxB Tryd.underlying59 _ k (by omega) u
      obtain ⟨y, hy⟩ : ∃ y, y = b.getD k 0 := ⟨_, rfl⟩
      obtain ⟨x, hx⟩ : ∃ x, x = l.getD k 0 := ⟨_, rfl⟩
      rw [← hy] at hiv
      have ck : wr.cell? ⟨w.heap.size, k, none⟩ = some (.int .u8 x) := by rw [SX.out.b0.cell, hx]; exact by_get _ _ (by rw [HLL.out.1]; exact hk16)
      have fk : wr.frozen? ⟨w.heap.size, k, none⟩ = false := SX.out.b0.frozen k
      have KN : Hid (Xw w (wr.setCell ⟨w.heap.size, k, none⟩ (.int .u8 (bits .xor .u8 x y))) (xoN a b (k + 1))) := by
        show Xw _ _ _
        rw [xoN, ← HLL.out.2.1, ← hx, ← hy]
        exact SX.out.set k _
      clear hK hl hy hx hk16
      go_wp2_with fail
      exact ⟨⟨k + 1, KI + 1, rfl, by omega, by omega, by have := HLL.out.2.2; omega, KN.out⟩, by simp [intOf]; omega⟩
    · have KE : Hid (Xw w wr (xoN a b 16)) := by
        have e : k = 16 := by have := hK.out.1; omega
        have := hK.out.2
        rw [e] at this
        exact this
      have HLN : Hid ((xoN a b 16).length = 16) := by show _ = _; rw [xoN_len, HL.out.1]
      have KR : Hid (Bk p2 wr #[.int .u8 0, .int .u8 0, .int .u8 0, .int .u8 0, .int .u8 0, .int .u8 0, .int .u8 0, .int .u8 0, .int .u8 0, .int .u8 0, .int .u8 0, .int .u8 0, .int .u8 0, .int .u8 0, .int .u8 0, .int .u8 0] 59) := by show Bk _ _ _ _; rw [HP2.out]; exact KE.out.b2
      have HP : Hid (w.heap.size ≤ p2) := by show _ ≤ _; rw [HP2.out]; omega
      clear hK
      go_wp2_with fail
      rw [hR1.out]
      clear hR1
      obtain ⟨cs, hcs⟩ : ∃ cs, cs = (by' (xoN a b 16)).toArray := ⟨_, rfl⟩
      have hz : cs.size = 16 := by rw [hcs, List.size_toArray, by_len]; exact HLN.out
      have HI : Hid ((Tryd.prog.info? 59).map (·.size) = some cs.size ∧ cs.all (·.oneCell') = true ∧ cs.size = 16) := ⟨by rw [hz]; kernel_rfl, by rw [hcs]; exact by_one _, hz⟩
      have HB1 : Hid (Bk (w.heap.size) wr cs 59) := by show Bk _ _ _ _; rw [hcs]; exact KE.out.b0
      have HB0 : Hid (wr.heap[p2]? = some (.cells #[.int .u8 0, .int .u8 0, .int .u8 0, .int .u8 0, .int .u8 0, .int .u8 0, .int .u8 0, .int .u8 0, .int .u8 0, .int .u8 0, .int .u8 0, .int .u8 0, .int .u8 0, .int .u8 0, .int .u8 0, .int .u8 0] 59 (0, 0))) := KR.out
      have HCS : Hid (cs = (by' (xoN a b 16)).toArray) := hcs
      clear hcs hz
      go_wp2_with (first | (refine step_lda (by rfl) _ (by rfl) Tryd.underlying59 (w.heap.size) (by rfl) cs HB1.out HI.out.1 ?_) | (refine step_stR (T := 59) (by rfl) _ _ (by rfl) (p2) cs (by rfl) (by rfl) #[.int .u8 0, .int .u8 0, .int .u8 0, .int .u8 0, .int .u8 0, .int .u8 0, .int .u8 0, .int .u8 0, .int .u8 0, .int .u8 0, .int .u8 0, .int .u8 0, .int .u8 0, .int .u8 0, .int .u8 0, .int .u8 0] HI.out.1 ?_ HI.out.2.1 HB0.out ?_; focus (rw [HI.out.2.2]; rfl)))
      rw [hQ.out]
      refine bodyPost_ret (v := .agg (by' (xoN a b 16)).toArray) ?_ rfl ⟨rfl, below_row KE.out.bl (HP.out) _⟩
      rw [← HCS.out]
      exact res_arr Tryd.results39 Tryd.underlying59 _ _ (p2) cs (by rfl) (KR.out.row cs) HI.out.1
end Go.Proofs.YtocimfhagkcnlaaDoor
