/- Auth: a block's words (SHA). -/
import Derived.Test.YtocimfhagkcnlaaDoorAA
namespace Go.Proofs.YtocimfhagkcnlaaDoor
open Go Go.RowKit Go.Sort
set_option linter.unusedVariables false
/-- a byte behind a word -/
def sf (W c : Int) : Int := bits .or .u32 (W * 256 % 4294967296) c
/-- the words, so many bytes taken -/
def wA (b : List Int) : Nat → List Int
  | 0 => List.replicate 64 0
  | m + 1 => (wA b m).set (m / 4) (sf ((wA b m).getD (m / 4) 0) (b.getD m 0))
def s0 (x : Int) : Int := bits .xor .u32 (bits .xor .u32 (rr x 7) (rr x 18)) (x / 2 ^ 3)
def s1 (y : Int) : Int := bits .xor .u32 (bits .xor .u32 (rr y 17) (rr y 19)) (y / 2 ^ 10)
def sg (ws : List Int) (i : Nat) : Int := (((ws.getD (i - 16) 0 + s0 (ws.getD (i - 15) 0)) % 4294967296 + ws.getD (i - 7) 0) % 4294967296 + s1 (ws.getD (i - 2) 0)) % 4294967296
def wB (b : List Int) : Nat → List Int
  | 0 => wA b 64
  | n + 1 => (wB b n).set (16 + n) (sg (wB b n) (16 + n))
theorem wA_len (b : List Int) (m : Nat) : (wA b m).length = 64 := by
  induction m with
  | zero => simp [wA]
  | succ m ih => rw [wA, List.length_set, ih]
theorem wB_len (b : List Int) (m : Nat) : (wB b m).length = 64 := by
  induction m with
  | zero => exact wA_len b 64
  | succ m ih => rw [wB, List.length_set, ih]
theorem wA_step (b : List Int) (k j : Nat) (hj : j < 4) : wA b (4 * k + (j + 1)) = (wA b (4 * k + j)).set k (sf ((wA b (4 * k + j)).getD k 0) (b.getD (4 * k + j) 0)) := by
  have e : (4 * k + j) / 4 = k := by omega
  show wA b (4 * k + j + 1) = _
  rw [wA, e]
/-- the three blocks -/
structure Sw (w wr : World) (BS : Array Value) (ws : List Int) : Prop where
  b0 : Bk w.heap.size wr BS 51
  b1 : Bk (w.heap.size + 1) wr #[.int .u32 0, .int .u32 0, .int .u32 0, .int .u32 0, .int .u32 0, .int .u32 0, .int .u32 0, .int .u32 0, .int .u32 0, .int .u32 0, .int .u32 0, .int .u32 0, .int .u32 0, .int .u32 0, .int .u32 0, .int .u32 0, .int .u32 0, .int .u32 0, .int .u32 0, .int .u32 0, .int .u32 0, .int .u32 0, .int .u32 0, .int .u32 0, .int .u32 0, .int .u32 0, .int .u32 0, .int .u32 0, .int .u32 0, .int .u32 0, .int .u32 0, .int .u32 0, .int .u32 0, .int .u32 0, .int .u32 0, .int .u32 0, .int .u32 0, .int .u32 0, .int .u32 0, .int .u32 0, .int .u32 0, .int .u32 0, .int .u32 0, .int .u32 0, .int .u32 0, .int .u32 0, .int .u32 0, .int .u32 0, .int .u32 0, .int .u32 0, .int .u32 0, .int .u32 0, .int .u32 0, .int .u32 0, .int .u32 0, .int .u32 0, .int .u32 0, .int .u32 0, .int .u32 0, .int .u32 0, .int .u32 0, .int .u32 0, .int .u32 0, .int .u32 0] 87
  b2 : Bk (w.heap.size + 2) wr (wd ws).toArray 87
  bl : Below w.heap.size w wr
theorem bk_far {p g j : Nat} {v : World} {cs : Array Value} {T : TypeId} (h : Bk p v cs T) (hne : p ≠ g) (x : Value) : Bk p (v.setCell ⟨g, j, none⟩ x) cs T := by
  unfold Bk at h ⊢; rw [Below.heap_setCell _ _ _ _ hne]; exact h
theorem bk_alloc {p : Nat} {v : World} {cs : Array Value} {T : TypeId} (h : Bk p v cs T) (o : Obj) : Bk p (v.alloc o) cs T := by
  have := h.lt; unfold Bk at h ⊢; rw [Below.heap_alloc _ _ _ this]; exact h
theorem bk_row {p g : Nat} {v : World} {cs c : Array Value} {T : TypeId} (h : Bk p v cs T) (hne : p ≠ g) : Bk p (v.setRow g c) cs T := by
  unfold Bk at h ⊢; rw [setRow_other _ _ _ _ hne]; exact h
theorem Sw.set {w wr : World} {BS : Array Value} {ws : List Int} (h : Sw w wr BS ws) (k : Nat) (x : Int) : Sw w (wr.setCell ⟨w.heap.size + 2, k, none⟩ (.int .u32 x)) BS (ws.set k x) :=
  ⟨bk_far h.b0 (by omega) _, bk_far h.b1 (by omega) _, by have := h.b2.set (j := k) (.int .u32 x); rw [wd_set] at this; exact this, h.bl.setCell (p := ⟨w.heap.size + 2, k, none⟩) (by show w.heap.size ≤ w.heap.size + 2; omega) _⟩
theorem Sw.drewN {w wr : World} {BS : Array Value} {ws : List Int} (h : Sw w wr BS ws) (n : Nat) : Sw w (wr.drewN n) BS ws := ⟨h.b0, h.b1, h.b2, below_dr h.bl n⟩
set_option maxRecDepth 20000 in
set_option maxHeartbeats 4000000 in
theorem shaWords_any (b : List Int) (hb : b.length = 64) (h0 : ∀ x ∈ b, 0 ≤ x ∧ x < 256) (w : World) :
    Calls Tryd.prog 57 #[.agg (by' b).toArray] w fun e w' => e = .returned (.agg (wd (wB b 48)).toArray) ∧ Below w.heap.size w w' := by
  have HB : Hid (b.length = 64 ∧ ∀ x ∈ b, 0 ≤ x ∧ x < 256) := ⟨hb, h0⟩
  clear hb h0
  obtain ⟨BS, hBS⟩ : ∃ BS, (by' b).toArray = BS := ⟨_, rfl⟩
  have HBS : Hid ((by' b).toArray = BS) := hBS
  rw [hBS]
  clear hBS
  go_enter Tryd.func57, Tryd.ntmps57
  refine post_hid fun Q hQ => ?_
  refine seq_hid fun R0 hR0 => ?_
  go_wp2_with fail
  obtain ⟨W0, hW0⟩ : ∃ W, W = (w.alloc (.cells BS 51)).alloc (.cells #[.int .u32 0, .int .u32 0, .int .u32 0, .int .u32 0, .int .u32 0, .int .u32 0, .int .u32 0, .int .u32 0, .int .u32 0, .int .u32 0, .int .u32 0, .int .u32 0, .int .u32 0, .int .u32 0, .int .u32 0, .int .u32 0, .int .u32 0, .int .u32 0, .int .u32 0, .int .u32 0, .int .u32 0, .int .u32 0, .int .u32 0, .int .u32 0, .int .u32 0, .int .u32 0, .int .u32 0, .int .u32 0, .int .u32 0, .int .u32 0, .int .u32 0, .int .u32 0, .int .u32 0, .int .u32 0, .int .u32 0, .int .u32 0, .int .u32 0, .int .u32 0, .int .u32 0, .int .u32 0, .int .u32 0, .int .u32 0, .int .u32 0, .int .u32 0, .int .u32 0, .int .u32 0, .int .u32 0, .int .u32 0, .int .u32 0, .int .u32 0, .int .u32 0, .int .u32 0, .int .u32 0, .int .u32 0, .int .u32 0, .int .u32 0, .int .u32 0, .int .u32 0, .int .u32 0, .int .u32 0, .int .u32 0, .int .u32 0, .int .u32 0, .int .u32 0] 87) := ⟨_, rfl⟩
  have hs0 : W0.heap.size = w.heap.size + 2 := by rw [hW0]; simp
  have K0 : Hid (Bk w.heap.size W0 BS 51 ∧ Bk (w.heap.size + 1) W0 #[.int .u32 0, .int .u32 0, .int .u32 0, .int .u32 0, .int .u32 0, .int .u32 0, .int .u32 0, .int .u32 0, .int .u32 0, .int .u32 0, .int .u32 0, .int .u32 0, .int .u32 0, .int .u32 0, .int .u32 0, .int .u32 0, .int .u32 0, .int .u32 0, .int .u32 0, .int .u32 0, .int .u32 0, .int .u32 0, .int .u32 0, .int .u32 0, .int .u32 0, .int .u32 0, .int .u32 0, .int .u32 0, .int .u32 0, .int .u32 0, .int .u32 0, .int .u32 0, .int .u32 0, .int .u32 0, .int .u32 0, .int .u32 0, .int .u32 0, .int .u32 0, .int .u32 0, .int .u32 0, .int .u32 0, .int .u32 0, .int .u32 0, .int .u32 0, .int .u32 0, .int .u32 0, .int .u32 0, .int .u32 0, .int .u32 0, .int .u32 0, .int .u32 0, .int .u32 0, .int .u32 0, .int .u32 0, .int .u32 0, .int .u32 0, .int .u32 0, .int .u32 0, .int .u32 0, .int .u32 0, .int .u32 0, .int .u32 0, .int .u32 0, .int .u32 0] 87 ∧ Below w.heap.size w W0) := by
    rw [hW0]
    refine ⟨bk_alloc (Bk.new w _ _) _, ?_, ((Below.refl _ _).alloc (Nat.le_refl _) _).alloc (by simp) _⟩
    have := Bk.new (w.alloc (.cells BS 51)) #[.int .u32 0, .int .u32 0, .int .u32 0, .int .u32 0, .int .u32 0, .int .u32 0, .int .u32 0, .int .u32 0, .int .u32 0, .int .u32 0, .int .u32 0, .int .u32 0, .int .u32 0, .int .u32 0, .int .u32 0, .int .u32 0, .int .u32 0, .int .u32 0, .int .u32 0, .int .u32 0, .int .u32 0, .int .u32 0, .int .u32 0, .int .u32 0, .int .u32 0, .int .u32 0, .int .u32 0, .int .u32 0, .int .u32 0, .int .u32 0, .int .u32 0, .int .u32 0, .int .u32 0, .int .u32 0, .int .u32 0, .int .u32 0, .int .u32 0, .int .u32 0, .int .u32 0, .int .u32 0, .int .u32 0, .int .u32 0, .int .u32 0, .int .u32 0, .int .u32 0, .int .u32 0, .int .u32 0, .int .u32 0, .int .u32 0, .int .u32 0, .int .u32 0, .int .u32 0, .int .u32 0, .int .u32 0, .int .u32 0, .int .u32 0, .int .u32 0, .int .u32 0, .int .u32 0, .int .u32 0, .int .u32 0, .int .u32 0, .int .u32 0, .int .u32 0] 87
    simpa using this
  rw [← hW0, hR0.out]
  clear hW0 hR0
  refine seq_hid fun R1 hR1 => ?_
  go_wp2_with fail
  obtain ⟨W1, hW1⟩ : ∃ W, W = W0.alloc (.cells #[.int .u32 0, .int .u32 0, .int .u32 0, .int .u32 0, .int .u32 0, .int .u32 0, .int .u32 0, .int .u32 0, .int .u32 0, .int .u32 0, .int .u32 0, .int .u32 0, .int .u32 0, .int .u32 0, .int .u32 0, .int .u32 0, .int .u32 0, .int .u32 0, .int .u32 0, .int .u32 0, .int .u32 0, .int .u32 0, .int .u32 0, .int .u32 0, .int .u32 0, .int .u32 0, .int .u32 0, .int .u32 0, .int .u32 0, .int .u32 0, .int .u32 0, .int .u32 0, .int .u32 0, .int .u32 0, .int .u32 0, .int .u32 0, .int .u32 0, .int .u32 0, .int .u32 0, .int .u32 0, .int .u32 0, .int .u32 0, .int .u32 0, .int .u32 0, .int .u32 0, .int .u32 0, .int .u32 0, .int .u32 0, .int .u32 0, .int .u32 0, .int .u32 0, .int .u32 0, .int .u32 0, .int .u32 0, .int .u32 0, .int .u32 0, .int .u32 0, .int .u32 0, .int .u32 0, .int .u32 0, .int .u32 0, .int .u32 0, .int .u32 0, .int .u32 0] 87) := ⟨_, rfl⟩
  have K1 : Hid (Sw w W1 BS (wA b 0)) := by
    rw [hW1]
    refine ⟨bk_alloc K0.out.1 _, bk_alloc K0.out.2.1 _, ?_, K0.out.2.2.alloc (by omega) _⟩
    have := Bk.new W0 #[.int .u32 0, .int .u32 0, .int .u32 0, .int .u32 0, .int .u32 0, .int .u32 0, .int .u32 0, .int .u32 0, .int .u32 0, .int .u32 0, .int .u32 0, .int .u32 0, .int .u32 0, .int .u32 0, .int .u32 0, .int .u32 0, .int .u32 0, .int .u32 0, .int .u32 0, .int .u32 0, .int .u32 0, .int .u32 0, .int .u32 0, .int .u32 0, .int .u32 0, .int .u32 0, .int .u32 0, .int .u32 0, .int .u32 0, .int .u32 0, .int .u32 0, .int .u32 0, .int .u32 0, .int .u32 0, .int .u32 0, .int .u32 0, .int .u32 0, .int .u32 0, .int .u32 0, .int .u32 0, .int .u32 0, .int .u32 0, .int .u32 0, .int .u32 0, .int .u32 0, .int .u32 0, .int .u32 0, .int .u32 0, .int .u32 0, .int .u32 0, .int .u32 0, .int .u32 0, .int .u32 0, .int .u32 0, .int .u32 0, .int .u32 0, .int .u32 0, .int .u32 0, .int .u32 0, .int .u32 0, .int .u32 0, .int .u32 0, .int .u32 0, .int .u32 0] 87
    rw [hs0] at this
    exact this
  rw [← hW1, hR1.out]
  clear hW1 hR1 K0 hs0
  refine seq_hid fun R2 hR2 => ?_
  go_wp2_with fail
  go_loopw [10] (fun i wr => ∃ (k : Nat) (KI : Int), i = .int .i64 KI ∧ 0 ≤ KI ∧ KI ≤ 16 ∧ Hid (KI = (k : Int) ∧ Sw w wr BS (wA b (4 * k)))) (fun i _ => (16 - intOf i).toNat)
  case atStart => exact ⟨0, 0, rfl, by omega, by omega, rfl, K1.out⟩
  case round =>
    clear K1
    obtain ⟨k, KI, rfl, k0, k1, hK⟩ := hrel
    by_cases hlt : KI < 16
    · obtain ⟨A4, hA4⟩ : ∃ x : Int, x = 4 * KI := ⟨_, rfl⟩
      obtain ⟨B4, hB4⟩ : ∃ x : Int, x = A4 + 4 := ⟨_, rfl⟩
      have HAB : Hid (A4 = 4 * KI ∧ B4 = A4 + 4) := ⟨hA4, hB4⟩
      have e1 : IntKind.i64.wrap (4 * KI) = A4 := by rw [hA4, IntKind.wrap_i64]; omega
      have e2 : IntKind.i64.wrap (A4 + 4) = B4 := by rw [hB4, IntKind.wrap_i64]; omega
      have q1 : 0 ≤ A4 := by omega
      have q2 : A4 ≤ 60 := by omega
      have q3 : B4 ≤ 64 := by omega
      have q4 : A4 ≤ B4 := by omega
      have q5 : 0 ≤ B4 := by omega
      obtain ⟨PA, hPA⟩ : ∃ x : Nat, x = 4 * k := ⟨_, rfl⟩
      have HPA : Hid (PA = 4 * k) := hPA
      have t1 : A4.toNat = PA := by have := hK.out.1; omega
      have t2 : B4.toNat - PA = 4 := by have := hK.out.1; omega
      obtain ⟨CC, t3⟩ : ∃ x : Nat, 64 - PA = x := ⟨_, rfl⟩
      have hkn : k < 64 := by have := hK.out.1; omega
      have hix : ∀ u, Sem.run Tryd.prog (Instr.indexAt 87 (.pointer (some ⟨w.heap.size + 2, 0, none⟩)) (.int .i64 KI)) u = .ok (.pointer (some ⟨w.heap.size + 2, k, none⟩)) u := fun u => by rw [hK.out.1]; exact aidxW Tryd.underlying87 _ k (by omega) u
      have HKN : Hid (k < 64) := hkn
      clear hA4 hB4 hPA hkn
      go_wp2_with fail
      go_loopw [20] (fun j w2 => ∃ (m : Nat) (JI : Int), j = .int .i64 JI ∧ 0 ≤ JI ∧ JI ≤ 4 ∧ Hid (JI = (m : Int) ∧ Sw w w2 BS (wA b (4 * k + m)))) (fun j _ => (4 - intOf j).toNat)
      case atStart => exact ⟨0, 0, rfl, by omega, by omega, rfl, hK.out.2⟩
      case round =>
        obtain ⟨m, JI, rfl, j0, j1, hM⟩ := hrel
        obtain ⟨wa, rfl⟩ : ∃ wa, wa = wr := ⟨_, rfl⟩
        by_cases hlj : JI < 4
        · have hm4 : m < 4 := by have := hM.out.1; omega
          have hix2 : ∀ u, Sem.run Tryd.prog (Instr.indexAt 23 (.slice (some ⟨w.heap.size, PA, none⟩) 4 CC) (.int .i64 JI)) u = .ok (.pointer (some ⟨w.heap.size, PA + m, none⟩)) u := fun u => by rw [hM.out.1]; exact sidx (by omega) u
          obtain ⟨c, hc⟩ : ∃ c, c = b.getD (4 * k + m) 0 := ⟨_, rfl⟩
          have hcb : 0 ≤ c ∧ c < 256 := by
            rw [hc, List.getD_eq_getElem?_getD, List.getElem?_eq_getElem (by rw [HB.out.1]; have := hK.out.1; omega)]
            exact HB.out.2 _ (List.getElem_mem _)
          have k0' : wa.cell? ⟨w.heap.size, PA + m, none⟩ = some (.int .u8 c) := by
            rw [hM.out.2.b0.cell, ← HBS.out, HPA.out, hc]
            exact by_get b _ (by rw [HB.out.1]; have := hK.out.1; omega)
          obtain ⟨W, hW⟩ : ∃ W, W = (wA b (4 * k + m)).getD k 0 := ⟨_, rfl⟩
          have k2' : wa.cell? ⟨w.heap.size + 2, k, none⟩ = some (.int .u32 W) := by
            rw [hM.out.2.b2.cell, hW]
            exact wd_get _ _ (by rw [wA_len]; exact HKN.out)
          have f2 : wa.frozen? ⟨w.heap.size + 2, k, none⟩ = false := hM.out.2.b2.frozen k
          have e3 : IntKind.u32.wrap c = c := by rw [IntKind.wrap_u32]; omega
          have KN : Hid (Sw w (wa.setCell ⟨w.heap.size + 2, k, none⟩ (.int .u32 (sf W c))) BS (wA b (4 * k + (m + 1)))) := by
            show Sw _ _ _ _
            rw [wA_step b k m hm4, hW, hc]
            exact hM.out.2.set k _
          have hcb0 := hcb.1
          have hcb1 := hcb.2
          clear hc hW hcb hm4
          unfold sf at KN
          go_wp2_with fail
          exact ⟨⟨m + 1, JI + 1, rfl, by omega, by omega, by have := hM.out.1; omega, KN.out⟩, by simp [intOf]; omega⟩
        · have K4 : Hid (Sw w wa BS (wA b (4 * (k + 1)))) := by
            have e : 4 * k + m = 4 * (k + 1) := by have := hM.out.1; omega
            have := hM.out.2
            rw [e] at this
            exact this
          clear hM
          go_wp2_with fail
          exact ⟨⟨k + 1, KI + 1, rfl, by omega, by omega, by have := hK.out.1; omega, K4.out⟩, by simp [intOf]; omega⟩
    · have K2 : Hid (Sw w wr BS (wB b 0)) := by
        have e : 4 * k = 64 := by have := hK.out.1; omega
        have := hK.out.2
        rw [e] at this
        exact this
      clear hK
      go_wp2_with fail
      rw [hR2.out]
      clear hR2
      go_wp2_with fail
      go_loopw [7] (fun i w2 => ∃ (n : Nat) (NI : Int), i = .int .i64 NI ∧ 16 ≤ NI ∧ NI ≤ 64 ∧ Hid (NI = 16 + (n : Int) ∧ Sw w w2 BS (wB b n))) (fun i _ => (64 - intOf i).toNat)
      case atStart => exact ⟨0, 16, rfl, by omega, by omega, rfl, K2.out⟩
      case round =>
        clear K2
        obtain ⟨n, NI, rfl, n0, n1, hN⟩ := hrel
        obtain ⟨wa, rfl⟩ : ∃ wa, wa = wr := ⟨_, rfl⟩
        by_cases hln : NI < 64
        · obtain ⟨ws, hws⟩ : ∃ ws, ws = wB b n := ⟨_, rfl⟩
          have HW : Hid (ws.length = 64 ∧ ws = wB b n) := ⟨by rw [hws, wB_len], hws⟩
          have SW : Hid (Sw w wa BS ws) := by show Sw _ _ _ _; rw [hws]; exact hN.out.2
          have HNI : Hid (NI = 16 + (n : Int)) := hN.out.1
          clear hN hws
          obtain ⟨PK, hPK⟩ : ∃ p : Nat, p = 16 + n := ⟨_, rfl⟩
          obtain ⟨P16, hP16⟩ : ∃ p : Nat, p = 16 + n - 16 := ⟨_, rfl⟩
          obtain ⟨P15, hP15⟩ : ∃ p : Nat, p = 16 + n - 15 := ⟨_, rfl⟩
          obtain ⟨P7, hP7⟩ : ∃ p : Nat, p = 16 + n - 7 := ⟨_, rfl⟩
          obtain ⟨P2, hP2⟩ : ∃ p : Nat, p = 16 + n - 2 := ⟨_, rfl⟩
          have HP : Hid (PK = 16 + n ∧ P16 = 16 + n - 16 ∧ P15 = 16 + n - 15 ∧ P7 = 16 + n - 7 ∧ P2 = 16 + n - 2) := ⟨hPK, hP16, hP15, hP7, hP2⟩
          obtain ⟨I16, hI16⟩ : ∃ x : Int, x = NI - 16 := ⟨_, rfl⟩
          have e16 : IntKind.i64.wrap (NI - 16) = I16 := by rw [hI16, IntKind.wrap_i64]; omega
          have x16 : ∀ u, Sem.run Tryd.prog (Instr.indexAt 87 (.pointer (some ⟨w.heap.size + 2, 0, none⟩)) (.int .i64 I16)) u = .ok (.pointer (some ⟨w.heap.size + 2, P16, none⟩)) u := fun u => by
            rw [show I16 = ((P16 : Nat) : Int) by have := HNI.out; omega]; exact aidxW Tryd.underlying87 _ _ (by have := HNI.out; omega) u
          obtain ⟨V16, hV16⟩ : ∃ x, x = ws.getD P16 0 := ⟨_, rfl⟩
          have c16 : wa.cell? ⟨w.heap.size + 2, P16, none⟩ = some (.int .u32 V16) := by rw [SW.out.b2.cell, hV16]; exact wd_get _ _ (by rw [HW.out.1]; have := HNI.out; omega)
          clear hI16
          obtain ⟨I15, hI15⟩ : ∃ x : Int, x = NI - 15 := ⟨_, rfl⟩
          have e15 : IntKind.i64.wrap (NI - 15) = I15 := by rw [hI15, IntKind.wrap_i64]; omega
          have x15 : ∀ u, Sem.run Tryd.prog (Instr.indexAt 87 (.pointer (some ⟨w.heap.size + 2, 0, none⟩)) (.int .i64 I15)) u = .ok (.pointer (some ⟨w.heap.size + 2, P15, none⟩)) u := fun u => by
            rw [show I15 = ((P15 : Nat) : Int) by have := HNI.out; omega]; exact aidxW Tryd.underlying87 _ _ (by have := HNI.out; omega) u
          obtain ⟨V15, hV15⟩ : ∃ x, x = ws.getD P15 0 := ⟨_, rfl⟩
          have c15 : wa.cell? ⟨w.heap.size + 2, P15, none⟩ = some (.int .u32 V15) := by rw [SW.out.b2.cell, hV15]; exact wd_get _ _ (by rw [HW.out.1]; have := HNI.out; omega)
          clear hI15
          obtain ⟨I7, hI7⟩ : ∃ x : Int, x = NI - 7 := ⟨_, rfl⟩
          have e7 : IntKind.i64.wrap (NI - 7) = I7 := by rw [hI7, IntKind.wrap_i64]; omega
          have x7 : ∀ u, Sem.run Tryd.prog (Instr.indexAt 87 (.pointer (some ⟨w.heap.size + 2, 0, none⟩)) (.int .i64 I7)) u = .ok (.pointer (some ⟨w.heap.size + 2, P7, none⟩)) u := fun u => by
            rw [show I7 = ((P7 : Nat) : Int) by have := HNI.out; omega]; exact aidxW Tryd.underlying87 _ _ (by have := HNI.out; omega) u
          obtain ⟨V7, hV7⟩ : ∃ x, x = ws.getD P7 0 := ⟨_, rfl⟩
          have c7 : wa.cell? ⟨w.heap.size + 2, P7, none⟩ = some (.int .u32 V7) := by rw [SW.out.b2.cell, hV7]; exact wd_get _ _ (by rw [HW.out.1]; have := HNI.out; omega)
          clear hI7
          obtain ⟨I2, hI2⟩ : ∃ x : Int, x = NI - 2 := ⟨_, rfl⟩
          have e2 : IntKind.i64.wrap (NI - 2) = I2 := by rw [hI2, IntKind.wrap_i64]; omega
          have x2 : ∀ u, Sem.run Tryd.prog (Instr.indexAt 87 (.pointer (some ⟨w.heap.size + 2, 0, none⟩)) (.int .i64 I2)) u = .ok (.pointer (some ⟨w.heap.size + 2, P2, none⟩)) u := fun u => by
            rw [show I2 = ((P2 : Nat) : Int) by have := HNI.out; omega]; exact aidxW Tryd.underlying87 _ _ (by have := HNI.out; omega) u
          obtain ⟨V2, hV2⟩ : ∃ x, x = ws.getD P2 0 := ⟨_, rfl⟩
          have c2 : wa.cell? ⟨w.heap.size + 2, P2, none⟩ = some (.int .u32 V2) := by rw [SW.out.b2.cell, hV2]; exact wd_get _ _ (by rw [HW.out.1]; have := HNI.out; omega)
          clear hI2
          have xk : ∀ u, Sem.run Tryd.prog (Instr.indexAt 87 (.pointer (some ⟨w.heap.size + 2, 0, none⟩)) (.int .i64 NI)) u = .ok (.pointer (some ⟨w.heap.size + 2, PK, none⟩)) u := fun u => by
            rw [show NI = ((PK : Nat) : Int) by have := HNI.out; omega]; exact aidxW Tryd.underlying87 _ _ (by have := HNI.out; omega) u
          have HG : Hid (sg ws (16 + n) = (((V16 + bits .xor .u32 (bits .xor .u32 (rr V15 7) (rr V15 18)) (V15 / 8)) % 4294967296 + V7) % 4294967296 + bits .xor .u32 (bits .xor .u32 (rr V2 17) (rr V2 19)) (V2 / 1024)) % 4294967296) := by
            show _ = _
            rw [hV16, hV15, hV7, hV2, hP16, hP15, hP7, hP2]
            rfl
          have HVS : Hid (V16 = ws.getD P16 0 ∧ V15 = ws.getD P15 0 ∧ V7 = ws.getD P7 0 ∧ V2 = ws.getD P2 0) := ⟨hV16, hV15, hV7, hV2⟩
          clear hV16 hV15 hV7 hV2 hPK hP16 hP15 hP7 hP2
          go_wp2_with fail
          refine wp_region_quietW (by kernel_rfl) (by kernel_rfl) ?_
          repeat (refine qw_step (fun K hK => ?_); go_simp; (refine hK _ ?_; clear hK K))
          refine qw_nil ?_
          intro _ hw'
          obtain ⟨nq, hw''⟩ := hw'
          subst hw''
          obtain ⟨wx, hwx⟩ : ∃ x, x = wa.drewN nq := ⟨_, rfl⟩
          have SX : Hid (Sw w wx BS ws) := by show Sw _ _ _ _; rw [hwx]; exact SW.out.drewN nq
          have d16 : wx.cell? ⟨w.heap.size + 2, P16, none⟩ = some (.int .u32 V16) := by rw [SX.out.b2.cell, HVS.out.1]; exact wd_get _ _ (by rw [HW.out.1]; have := HNI.out; have := HP.out; omega)
          have d15 : wx.cell? ⟨w.heap.size + 2, P15, none⟩ = some (.int .u32 V15) := by rw [SX.out.b2.cell, HVS.out.2.1]; exact wd_get _ _ (by rw [HW.out.1]; have := HNI.out; have := HP.out; omega)
          have d7 : wx.cell? ⟨w.heap.size + 2, P7, none⟩ = some (.int .u32 V7) := by rw [SX.out.b2.cell, HVS.out.2.2.1]; exact wd_get _ _ (by rw [HW.out.1]; have := HNI.out; have := HP.out; omega)
          have d2 : wx.cell? ⟨w.heap.size + 2, P2, none⟩ = some (.int .u32 V2) := by rw [SX.out.b2.cell, HVS.out.2.2.2]; exact wd_get _ _ (by rw [HW.out.1]; have := HNI.out; have := HP.out; omega)
          rw [← hwx]
          clear hwx c16 c15 c7 c2
          go_wp2_with fail
          refine wp_region_lastW (by kernel_rfl) (by kernel_rfl) (by rfl) (by kernel_rfl) ?_
          simp only [idleLast, idle]
          repeat (refine qw_step (fun K hK => ?_); go_simp; first | (refine hK _ ?_; clear hK K) | (apply Exists.intro; refine ⟨fun _ => ?_, hK _ ?_⟩; (go_at_call 58; exact Calls.quiet_of_same (right_I _ _ (by decide) (by decide) _)); clear hK K))
          refine qw_nil ?_
          intro _ hw'
          obtain ⟨nr, hw''⟩ := hw'
          subst hw''
          refine wpOp_stL (cs := wd ws) _ (by rfl) rfl 47 _ _ rfl SX.out.b2 PK (.int .u32 (sg ws (16 + n))) (by rfl) (by rw [HG.out]; simp only [IntKind.wrap_u32]; rfl) rfl (by kernel_rfl) (by rw [wd_len, HW.out.1]; have := HNI.out; have := HP.out; omega) rfl ?_
          intro W hp hg hz
          have SN : Hid (Sw w W BS (wB b (n + 1))) := by
            have e1 : wB b (n + 1) = ws.set PK (sg ws (16 + n)) := by rw [wB, ← HW.out.2, HP.out.1]
            have e2 : (wd ws).set PK (.int .u32 (sg ws (16 + n))) = wd (ws.set PK (sg ws (16 + n))) := by unfold wd; rw [List.map_set]
            rw [e2, ← e1] at hp
            have hl := SX.out.b2.lt
            have hk := fun q (hq : q < w.heap.size + 2) => hg.block q (by show q < wx.heap.size; omega) (by intro e; injection e with e; omega)
            exact ⟨SX.out.b0.kept (hk _ (by omega)), SX.out.b1.kept (hk _ (by omega)), hp, (below_dr SX.out.bl nr).grown hg (by show w.heap.size ≤ wx.heap.size; omega) (fun q e => by injection e with e; omega)⟩
          clear hp hg hz HG d16 d15 d7 d2
          go_wp2_with fail
          exact ⟨⟨n + 1, NI + 1, rfl, by omega, by omega, by have := HNI.out; omega, SN.out⟩, by simp [intOf]; omega⟩
        · have KE : Hid (Sw w wa BS (wB b 48)) := by
            have e : n = 48 := by have := hN.out.1; omega
            have := hN.out.2
            rw [e] at this
            exact this
          clear hN
          obtain ⟨cs, hcs⟩ : ∃ cs, cs = (wd (wB b 48)).toArray := ⟨_, rfl⟩
          have HCS : Hid (cs = (wd (wB b 48)).toArray ∧ cs.size = 64) := ⟨hcs, by rw [hcs, List.size_toArray, wd_len, wB_len]⟩
          have K2 : Hid (Bk (w.heap.size + 2) wa cs 87) := by show Bk _ _ _ _; rw [hcs]; exact KE.out.b2
          have hi : (Tryd.prog.info? 87).map (·.size) = some cs.size := by rw [HCS.out.2]; kernel_rfl
          have h1 : cs.all (·.oneCell') = true := by rw [hcs]; exact wd_one _
          have HI : Hid _ := And.intro hi h1
          have HB1 : Hid (wa.heap[w.heap.size + 1]? = some (.cells #[.int .u32 0, .int .u32 0, .int .u32 0, .int .u32 0, .int .u32 0, .int .u32 0, .int .u32 0, .int .u32 0, .int .u32 0, .int .u32 0, .int .u32 0, .int .u32 0, .int .u32 0, .int .u32 0, .int .u32 0, .int .u32 0, .int .u32 0, .int .u32 0, .int .u32 0, .int .u32 0, .int .u32 0, .int .u32 0, .int .u32 0, .int .u32 0, .int .u32 0, .int .u32 0, .int .u32 0, .int .u32 0, .int .u32 0, .int .u32 0, .int .u32 0, .int .u32 0, .int .u32 0, .int .u32 0, .int .u32 0, .int .u32 0, .int .u32 0, .int .u32 0, .int .u32 0, .int .u32 0, .int .u32 0, .int .u32 0, .int .u32 0, .int .u32 0, .int .u32 0, .int .u32 0, .int .u32 0, .int .u32 0, .int .u32 0, .int .u32 0, .int .u32 0, .int .u32 0, .int .u32 0, .int .u32 0, .int .u32 0, .int .u32 0, .int .u32 0, .int .u32 0, .int .u32 0, .int .u32 0, .int .u32 0, .int .u32 0, .int .u32 0, .int .u32 0] 87 (0, 0))) := KE.out.b1
          clear hcs hi h1
          go_wp2_with (first | (refine step_lda (by rfl) _ (by rfl) Tryd.underlying87 (w.heap.size + 2) (by rfl) cs K2.out HI.out.1 ?_) | (refine step_stR (T := 87) (by rfl) _ _ (by rfl) (w.heap.size + 1) cs (by rfl) (by rfl) #[.int .u32 0, .int .u32 0, .int .u32 0, .int .u32 0, .int .u32 0, .int .u32 0, .int .u32 0, .int .u32 0, .int .u32 0, .int .u32 0, .int .u32 0, .int .u32 0, .int .u32 0, .int .u32 0, .int .u32 0, .int .u32 0, .int .u32 0, .int .u32 0, .int .u32 0, .int .u32 0, .int .u32 0, .int .u32 0, .int .u32 0, .int .u32 0, .int .u32 0, .int .u32 0, .int .u32 0, .int .u32 0, .int .u32 0, .int .u32 0, .int .u32 0, .int .u32 0, .int .u32 0, .int .u32 0, .int .u32 0, .int .u32 0, .int .u32 0, .int .u32 0, .int .u32 0, .int .u32 0, .int .u32 0, .int .u32 0, .int .u32 0, .int .u32 0, .int .u32 0, .int .u32 0, .int .u32 0, .int .u32 0, .int .u32 0, .int .u32 0, .int .u32 0, .int .u32 0, .int .u32 0, .int .u32 0, .int .u32 0, .int .u32 0, .int .u32 0, .int .u32 0, .int .u32 0, .int .u32 0, .int .u32 0, .int .u32 0, .int .u32 0, .int .u32 0] HI.out.1 ?_ HI.out.2 HB1.out ?_; focus (rw [HCS.out.2]; rfl)))
          rw [hQ.out]
          refine bodyPost_ret (v := .agg (wd (wB b 48)).toArray) ?_ rfl ⟨rfl, below_row KE.out.bl (by omega) _⟩
          rw [← HCS.out.1]
          exact res_arr Tryd.results57 Tryd.underlying87 _ _ (w.heap.size + 1) cs (by rfl) (KE.out.b1.row cs) HI.out.1
end Go.Proofs.YtocimfhagkcnlaaDoor
