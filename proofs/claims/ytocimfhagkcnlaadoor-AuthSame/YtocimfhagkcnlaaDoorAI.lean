/- Auth: blocks turned, substituted (AES). -/
import Derived.Test.YtocimfhagkcnlaaDoorAH
namespace Go.Proofs.YtocimfhagkcnlaaDoor
open Go Go.RowKit Go.Sort
set_option linter.unusedVariables false
/-- a block turned, so many bytes -/
def tuN (b : List Int) : Nat → List Int
  | 0 => List.replicate 16 0
  | n + 1 => (tuN b n).set n (b.getD ((n + 4 * (n % 4)) % 16) 0)
theorem tuN_len (b : List Int) (n : Nat) : (tuN b n).length = 16 := by
  induction n with
  | zero => rw [tuN, List.length_replicate]
  | succ n ih => rw [tuN, List.length_set, ih]
theorem tuN8 {b : List Int} (hb : ∀ x ∈ b, U8 x) (n : Nat) : ∀ x ∈ tuN b n, U8 x := by
  induction n with
  | zero => exact rep8 16
  | succ n ih => rw [tuN]; exact set8 ih n (getD8 hb _)
structure Tw (w wr : World) (A : Array Value) (l : List Int) : Prop where
  b0 : Bk w.heap.size wr A 59
  b1 : Bk (w.heap.size + 1) wr #[.int .u8 0, .int .u8 0, .int .u8 0, .int .u8 0, .int .u8 0, .int .u8 0, .int .u8 0, .int .u8 0, .int .u8 0, .int .u8 0, .int .u8 0, .int .u8 0, .int .u8 0, .int .u8 0, .int .u8 0, .int .u8 0] 59
  b2 : Bk (w.heap.size + 2) wr (by' l).toArray 59
  bl : Below w.heap.size w wr
theorem Tw.set {w wr : World} {A : Array Value} {l : List Int} (h : Tw w wr A l) (k : Nat) (x : Int) : Tw w (wr.setCell ⟨w.heap.size + 2, k, none⟩ (.int .u8 x)) A (l.set k x) :=
  ⟨bk_far h.b0 (by omega) _, bk_far h.b1 (by omega) _, by have := h.b2.set (j := k) (.int .u8 x); rw [by_set] at this; exact this, h.bl.setCell (p := ⟨w.heap.size + 2, k, none⟩) (by show w.heap.size ≤ w.heap.size + 2; omega) _⟩
set_option maxRecDepth 20000 in
set_option maxHeartbeats 4000000 in
theorem turned_any (b : List Int) (hb : b.length = 16) (w : World) :
    Calls Tryd.prog 63 #[.agg (by' b).toArray] w fun e w' => e = .returned (.agg (by' (tuN b 16)).toArray) ∧ Below w.heap.size w w' := by
  have HL : Hid (b.length = 16) := hb
  clear hb
  obtain ⟨A, hA⟩ : ∃ A, (by' b).toArray = A := ⟨_, rfl⟩
  have HA : Hid ((by' b).toArray = A) := hA
  rw [hA]
  clear hA
  go_enter Tryd.func63, Tryd.ntmps63
  refine post_hid fun Q hQ => ?_
  refine seq_hid fun R0 hR0 => ?_
  go_wp2_with fail
  refine world_hid fun W0 hW0 => ?_
  have K0 : Hid (Bk w.heap.size W0 A 59 ∧ Bk (w.heap.size + 1) W0 #[.int .u8 0, .int .u8 0, .int .u8 0, .int .u8 0, .int .u8 0, .int .u8 0, .int .u8 0, .int .u8 0, .int .u8 0, .int .u8 0, .int .u8 0, .int .u8 0, .int .u8 0, .int .u8 0, .int .u8 0, .int .u8 0] 59 ∧ Below w.heap.size w W0 ∧ W0.heap.size = w.heap.size + 2) := by
    rw [hW0.out]
    refine ⟨bk_alloc (Bk.new w _ _) _, ?_, ((Below.refl _ _).alloc (Nat.le_refl _) _).alloc (by simp) _, by simp⟩
    have := Bk.new (w.alloc (.cells A 59)) #[.int .u8 0, .int .u8 0, .int .u8 0, .int .u8 0, .int .u8 0, .int .u8 0, .int .u8 0, .int .u8 0, .int .u8 0, .int .u8 0, .int .u8 0, .int .u8 0, .int .u8 0, .int .u8 0, .int .u8 0, .int .u8 0] 59
    rw [size_alloc1] at this
    exact this
  have hs0 : W0.heap.size = w.heap.size + 2 := K0.out.2.2.2
  rw [hR0.out]
  clear hW0 hR0
  refine seq_hid fun R1 hR1 => ?_
  go_wp2_with fail
  refine world_hid fun W1 hW1 => ?_
  have K1 : Hid (Tw w W1 A (tuN b 0)) := by
    rw [hW1.out]
    refine ⟨bk_alloc K0.out.1 _, bk_alloc K0.out.2.1 _, ?_, K0.out.2.2.1.alloc (by omega) _⟩
    have := Bk.new W0 #[.int .u8 0, .int .u8 0, .int .u8 0, .int .u8 0, .int .u8 0, .int .u8 0, .int .u8 0, .int .u8 0, .int .u8 0, .int .u8 0, .int .u8 0, .int .u8 0, .int .u8 0, .int .u8 0, .int .u8 0, .int .u8 0] 59
    rw [hs0] at this
    exact this
  rw [hR1.out]
  clear hW1 hR1 K0 hs0
  refine seq_hid fun R2 hR2 => ?_
  go_wp2_with fail
  go_loopw [6] (fun i wr => ∃ (k : Nat) (KI : Int), i = .int .i64 KI ∧ 0 ≤ KI ∧ KI ≤ 16 ∧ Hid (KI = (k : Int) ∧ Tw w wr A (tuN b k))) (fun i _ => (16 - intOf i).toNat)
  case atStart => exact ⟨0, 0, rfl, by omega, by omega, rfl, K1.out⟩
  case round =>
    clear K1
    obtain ⟨k, KI, rfl, k0, k1, hK⟩ := hrel
    by_cases hlt : KI < 16
    · have hk16 : k < 16 := by have := hK.out.1; omega
      obtain ⟨l, hl⟩ : ∃ l, l = tuN b k := ⟨_, rfl⟩
      have SX : Hid (Tw w wr A l) := by show Tw _ _ _ _; rw [hl]; exact hK.out.2
      have HLL : Hid (l.length = 16 ∧ l = tuN b k ∧ KI = (k : Int)) := ⟨by rw [hl, tuN_len], hl, hK.out.1⟩
      have hki := hK.out.1
      obtain ⟨RI, hRI⟩ : ∃ x : Int, x = KI % 4 := ⟨_, rfl⟩
      obtain ⟨M4, hM4⟩ : ∃ x : Int, x = 4 * RI := ⟨_, rfl⟩
      obtain ⟨S4, hS4⟩ : ∃ x : Int, x = KI + M4 := ⟨_, rfl⟩
      obtain ⟨PI, hPI⟩ : ∃ x : Int, x = S4 % 16 := ⟨_, rfl⟩
      obtain ⟨PN, hPN⟩ : ∃ q : Nat, q = (k + 4 * (k % 4)) % 16 := ⟨_, rfl⟩
      have e1 : KI.tmod 4 = RI := by rw [Int.tmod_eq_emod_of_nonneg k0, hRI]
      have e2 : IntKind.i64.wrap (4 * RI) = M4 := by rw [hM4, IntKind.wrap_i64]; omega
      have e3 : IntKind.i64.wrap (KI + M4) = S4 := by rw [hS4, IntKind.wrap_i64]; omega
      have e4 : S4.tmod 16 = PI := by rw [Int.tmod_eq_emod_of_nonneg (by omega), hPI]
      have hpn : PI = (PN : Int) := by omega
      have hix : ∀ u, Sem.run Tryd.prog (Instr.indexAt 59 (.pointer (some ⟨w.heap.size, 0, none⟩)) (.int .i64 PI)) u = .ok (.pointer (some ⟨w.heap.size, PN, none⟩)) u := fun u => by rw [hpn]; exact aidxB Tryd.underlying59 _ PN (by omega) u
      have hik : ∀ u, Sem.run Tryd.prog (Instr.indexAt 59 (.pointer (some ⟨w.heap.size + 2, 0, none⟩)) (.int .i64 KI)) u = .ok (.pointer (some ⟨w.heap.size + 2, k, none⟩)) u := fun u => by rw [hki]; exact aidxB Tryd.underlying59 _ k (by omega) u
      obtain ⟨x, hx⟩ : ∃ x, x = b.getD PN 0 := ⟨_, rfl⟩
      obtain ⟨y, hy⟩ : ∃ y, y = l.getD k 0 := ⟨_, rfl⟩
      have cp : wr.cell? ⟨w.heap.size, PN, none⟩ = some (.int .u8 x) := by rw [SX.out.b0.cell, ← HA.out, hx]; exact by_get _ _ (by rw [HL.out]; omega)
      have ck : wr.cell? ⟨w.heap.size + 2, k, none⟩ = some (.int .u8 y) := by rw [SX.out.b2.cell, hy]; exact by_get _ _ (by rw [HLL.out.1]; exact hk16)
      have fk : wr.frozen? ⟨w.heap.size + 2, k, none⟩ = false := SX.out.b2.frozen k
      have KN : Hid (Tw w (wr.setCell ⟨w.heap.size + 2, k, none⟩ (.int .u8 x)) A (tuN b (k + 1))) := by
        show Tw _ _ _ _
        rw [tuN, ← HLL.out.2.1, ← hPN, ← hx]
        exact SX.out.set k _
      have HT : Hid (0 ≤ S4 ∧ 0 ≤ RI) := ⟨by omega, by omega⟩
      clear hK hl hy hx hk16 hki hRI hM4 hS4 hPI hPN hpn
      go_wp2_with fail
      exact ⟨⟨k + 1, KI + 1, rfl, by omega, by omega, by have := HLL.out.2.2; omega, KN.out⟩, by simp [intOf]; omega⟩
    · have KE : Hid (Tw w wr A (tuN b 16)) := by
        have e : k = 16 := by have := hK.out.1; omega
        have := hK.out.2
        rw [e] at this
        exact this
      have HLN : Hid ((tuN b 16).length = 16) := tuN_len b 16
      clear hK
      go_wp2_with fail
      rw [hR2.out]
      clear hR2
      obtain ⟨cs, hcs⟩ : ∃ cs, cs = (by' (tuN b 16)).toArray := ⟨_, rfl⟩
      have hz : cs.size = 16 := by rw [hcs, List.size_toArray, by_len]; exact HLN.out
      have HI : Hid ((Tryd.prog.info? 59).map (·.size) = some cs.size ∧ cs.all (·.oneCell') = true ∧ cs.size = 16) := ⟨by rw [hz]; kernel_rfl, by rw [hcs]; exact by_one _, hz⟩
      have HB1 : Hid (Bk (w.heap.size + 2) wr cs 59) := by show Bk _ _ _ _; rw [hcs]; exact KE.out.b2
      have HB0 : Hid (wr.heap[w.heap.size + 1]? = some (.cells #[.int .u8 0, .int .u8 0, .int .u8 0, .int .u8 0, .int .u8 0, .int .u8 0, .int .u8 0, .int .u8 0, .int .u8 0, .int .u8 0, .int .u8 0, .int .u8 0, .int .u8 0, .int .u8 0, .int .u8 0, .int .u8 0] 59 (0, 0))) := KE.out.b1
      have HCS : Hid (cs = (by' (tuN b 16)).toArray) := hcs
      clear hcs hz
      go_wp2_with (first | (refine step_lda (by rfl) _ (by rfl) Tryd.underlying59 (w.heap.size + 2) (by rfl) cs HB1.out HI.out.1 ?_) | (refine step_stR (T := 59) (by rfl) _ _ (by rfl) (w.heap.size + 1) cs (by rfl) (by rfl) #[.int .u8 0, .int .u8 0, .int .u8 0, .int .u8 0, .int .u8 0, .int .u8 0, .int .u8 0, .int .u8 0, .int .u8 0, .int .u8 0, .int .u8 0, .int .u8 0, .int .u8 0, .int .u8 0, .int .u8 0, .int .u8 0] HI.out.1 ?_ HI.out.2.1 HB0.out ?_; focus (rw [HI.out.2.2]; rfl)))
      rw [hQ.out]
      refine bodyPost_ret (v := .agg (by' (tuN b 16)).toArray) ?_ rfl ⟨rfl, below_row KE.out.bl (by omega) _⟩
      rw [← HCS.out]
      exact res_arr Tryd.results63 Tryd.underlying59 _ _ (w.heap.size + 1) cs (by rfl) (KE.out.b1.row cs) HI.out.1

/-- the cipher's block: 256 substitutes, 11 keys of 16 bytes -/
def Cq (w : World) (c : Nat) (L : List Int) : Prop := Bk c w (by' L).toArray 93 ∧ L.length = 432 ∧ ∀ x ∈ L, U8 x
/-- a block substituted, so many bytes -/
def suN (L b : List Int) : Nat → List Int
  | 0 => b
  | n + 1 => (suN L b n).set n (L.getD (b.getD n 0).toNat 0)
theorem suN_len (L b : List Int) (n : Nat) : (suN L b n).length = b.length := by
  induction n with
  | zero => rfl
  | succ n ih => rw [suN, List.length_set, ih]
theorem suN8 {L b : List Int} (hL : ∀ x ∈ L, U8 x) (hb : ∀ x ∈ b, U8 x) (n : Nat) : ∀ x ∈ suN L b n, U8 x := by
  induction n with
  | zero => exact hb
  | succ n ih => rw [suN]; exact set8 ih n (getD8 hL _)
structure Uw (w wr : World) (l : List Int) : Prop where
  b0 : Bk w.heap.size wr (by' l).toArray 59
  b1 : Bk (w.heap.size + 1) wr #[.int .u8 0, .int .u8 0, .int .u8 0, .int .u8 0, .int .u8 0, .int .u8 0, .int .u8 0, .int .u8 0, .int .u8 0, .int .u8 0, .int .u8 0, .int .u8 0, .int .u8 0, .int .u8 0, .int .u8 0, .int .u8 0] 59
  bl : Below w.heap.size w wr
theorem Uw.set {w wr : World} {l : List Int} (h : Uw w wr l) (k : Nat) (x : Int) : Uw w (wr.setCell ⟨w.heap.size, k, none⟩ (.int .u8 x)) (l.set k x) :=
  ⟨by have := h.b0.set (j := k) (.int .u8 x); rw [by_set] at this; exact this, bk_far h.b1 (by omega) _, h.bl.setCell (p := ⟨w.heap.size, k, none⟩) (Nat.le_refl _) _⟩
set_option maxRecDepth 20000 in
set_option maxHeartbeats 4000000 in
theorem substituted_any (c : Nat) (L b : List Int) (hb : b.length = 16) (hb8 : ∀ x ∈ b, U8 x) (w : World) (hc : Cq w c L) :
    Calls Tryd.prog 62 #[.pointer (some ⟨c, 0, none⟩), .agg (by' b).toArray] w fun e w' => e = .returned (.agg (by' (suN L b 16)).toArray) ∧ Below w.heap.size w w' := by
  have HC : Hid (Cq w c L) := hc
  have HL : Hid (b.length = 16 ∧ ∀ x ∈ b, U8 x) := ⟨hb, hb8⟩
  have hcw : c < w.heap.size := hc.1.lt
  clear hb hb8 hc
  obtain ⟨A, hA⟩ : ∃ A, (by' b).toArray = A := ⟨_, rfl⟩
  have HA : Hid ((by' b).toArray = A ∧ (Tryd.prog.info? 59).map (·.size) = some A.size) := ⟨hA, by rw [← hA, List.size_toArray, by_len, HL.out.1]; kernel_rfl⟩
  rw [hA]
  clear hA
  go_enter Tryd.func62, Tryd.ntmps62
  refine post_hid fun Q hQ => ?_
  refine seq_hid fun R0 hR0 => ?_
  go_wp2_with fail
  refine world_hid fun W0 hW0 => ?_
  have K0 : Hid (Uw w W0 (suN L b 0)) := by
    rw [hW0.out]
    refine ⟨?_, ?_, ((Below.refl _ _).alloc (Nat.le_refl _) _).alloc (by simp) _⟩
    · rw [show suN L b 0 = b from rfl, HA.out.1]; exact bk_alloc (Bk.new w _ _) _
    · have := Bk.new (w.alloc (.cells A 59)) #[.int .u8 0, .int .u8 0, .int .u8 0, .int .u8 0, .int .u8 0, .int .u8 0, .int .u8 0, .int .u8 0, .int .u8 0, .int .u8 0, .int .u8 0, .int .u8 0, .int .u8 0, .int .u8 0, .int .u8 0, .int .u8 0] 59
      rw [size_alloc1] at this
      exact this
  have KA : Hid (Bk w.heap.size W0 A 59) := by show Bk _ _ _ _; rw [← HA.out.1]; exact K0.out.b0
  rw [hR0.out]
  clear hW0 hR0
  refine seq_hid fun R1 hR1 => ?_
  go_wp2_with (refine step_lda (by rfl) _ (by rfl) Tryd.underlying59 w.heap.size (by rfl) A KA.out HA.out.2 ?_)
  clear KA
  go_loopw [8] (fun i wr => ∃ (k : Nat) (KI : Int), i = .int .i64 KI ∧ 0 ≤ KI ∧ KI ≤ 16 ∧ Hid (KI = (k : Int) ∧ Uw w wr (suN L b k))) (fun i _ => (16 - intOf i).toNat)
  case atStart => exact ⟨0, 0, rfl, by omega, by omega, rfl, K0.out⟩
  case round =>
    clear K0
    obtain ⟨k, KI, rfl, k0, k1, hK⟩ := hrel
    by_cases hlt : KI < 16
    · have hk16 : k < 16 := by have := hK.out.1; omega
      obtain ⟨l, hl⟩ : ∃ l, l = suN L b k := ⟨_, rfl⟩
      have SX : Hid (Uw w wr l) := by show Uw _ _ _; rw [hl]; exact hK.out.2
      have HLL : Hid (l.length = 16 ∧ l = suN L b k ∧ KI = (k : Int)) := ⟨by rw [hl, suN_len, HL.out.1], hl, hK.out.1⟩
      have hki := hK.out.1
      obtain ⟨o, ho⟩ : ∃ o, o = b.getD k 0 := ⟨_, rfl⟩
      have ho8 : U8 o := by rw [ho]; exact getD8 HL.out.2 k
      obtain ⟨ON, hON⟩ : ∃ q : Nat, (q : Int) = o := ⟨o.toNat, by have := ho8.1; omega⟩
      have HON : Hid (ON = o.toNat ∧ ON < 256) := ⟨by omega, by have := ho8.2; omega⟩
      have hiv : ∀ u, Sem.run Tryd.prog (Instr.index 59 (.agg A) (.int .i64 KI)) u = .ok (.int .u8 o) u := fun u => by
        rw [hki, ho]
        exact vidxB Tryd.underlying59 A k _ (by omega) (by rw [← HA.out.1]; exact by_get _ _ (by rw [HL.out.1]; exact hk16)) u
      have his : ∀ u, Sem.run Tryd.prog (Instr.indexAt 89 (.pointer (some ⟨c, 0, none⟩)) (.int .u8 o)) u = .ok (.pointer (some ⟨c, ON, none⟩)) u := fun u => by rw [← hON]; exact aidx8 Tryd.underlying89 _ ON (by have := HON.out.2; omega) u
      have hix : ∀ u, Sem.run Tryd.prog (Instr.indexAt 59 (.pointer (some ⟨w.heap.size, 0, none⟩)) (.int .i64 KI)) u = .ok (.pointer (some ⟨w.heap.size, k, none⟩)) u := fun u => by rw [hki]; exact aidxB Tryd.underlying59 _ k (by omega) u
      obtain ⟨x, hx⟩ : ∃ x, x = L.getD ON 0 := ⟨_, rfl⟩
      obtain ⟨y, hy⟩ : ∃ y, y = l.getD k 0 := ⟨_, rfl⟩
      have cs : wr.cell? ⟨c, ON, none⟩ = some (.int .u8 x) := by
        rw [SX.out.bl.cell (p := ⟨c, ON, none⟩) hcw, HC.out.1.cell, hx]
        exact by_get _ _ (by rw [HC.out.2.1]; have := HON.out.2; omega)
      have ck : wr.cell? ⟨w.heap.size, k, none⟩ = some (.int .u8 y) := by rw [SX.out.b0.cell, hy]; exact by_get _ _ (by rw [HLL.out.1]; exact hk16)
      have fk : wr.frozen? ⟨w.heap.size, k, none⟩ = false := SX.out.b0.frozen k
      have KN : Hid (Uw w (wr.setCell ⟨w.heap.size, k, none⟩ (.int .u8 x)) (suN L b (k + 1))) := by
        show Uw _ _ _
        rw [suN, ← HLL.out.2.1, ← ho, ← HON.out.1, ← hx]
        exact SX.out.set k _
      clear hK hl hy hx hk16 hki ho ho8 hON
      go_wp2_with fail
      exact ⟨⟨k + 1, KI + 1, rfl, by omega, by omega, by have := HLL.out.2.2; omega, KN.out⟩, by simp [intOf]; omega⟩
    · have KE : Hid (Uw w wr (suN L b 16)) := by
        have e : k = 16 := by have := hK.out.1; omega
        have := hK.out.2
        rw [e] at this
        exact this
      have HLN : Hid ((suN L b 16).length = 16) := by show _ = _; rw [suN_len, HL.out.1]
      clear hK
      go_wp2_with fail
      rw [hR1.out]
      clear hR1
      obtain ⟨cs, hcs⟩ : ∃ cs, cs = (by' (suN L b 16)).toArray := ⟨_, rfl⟩
      have hz : cs.size = 16 := by rw [hcs, List.size_toArray, by_len]; exact HLN.out
      have HI : Hid ((Tryd.prog.info? 59).map (·.size) = some cs.size ∧ cs.all (·.oneCell') = true ∧ cs.size = 16) := ⟨by rw [hz]; kernel_rfl, by rw [hcs]; exact by_one _, hz⟩
      have HB1 : Hid (Bk (w.heap.size) wr cs 59) := by show Bk _ _ _ _; rw [hcs]; exact KE.out.b0
      have HB0 : Hid (wr.heap[w.heap.size + 1]? = some (.cells #[.int .u8 0, .int .u8 0, .int .u8 0, .int .u8 0, .int .u8 0, .int .u8 0, .int .u8 0, .int .u8 0, .int .u8 0, .int .u8 0, .int .u8 0, .int .u8 0, .int .u8 0, .int .u8 0, .int .u8 0, .int .u8 0] 59 (0, 0))) := KE.out.b1
      have HCS : Hid (cs = (by' (suN L b 16)).toArray) := hcs
      clear hcs hz
      go_wp2_with (first | (refine step_lda (by rfl) _ (by rfl) Tryd.underlying59 (w.heap.size) (by rfl) cs HB1.out HI.out.1 ?_) | (refine step_stR (T := 59) (by rfl) _ _ (by rfl) (w.heap.size + 1) cs (by rfl) (by rfl) #[.int .u8 0, .int .u8 0, .int .u8 0, .int .u8 0, .int .u8 0, .int .u8 0, .int .u8 0, .int .u8 0, .int .u8 0, .int .u8 0, .int .u8 0, .int .u8 0, .int .u8 0, .int .u8 0, .int .u8 0, .int .u8 0] HI.out.1 ?_ HI.out.2.1 HB0.out ?_; focus (rw [HI.out.2.2]; rfl)))
      rw [hQ.out]
      refine bodyPost_ret (v := .agg (by' (suN L b 16)).toArray) ?_ rfl ⟨rfl, below_row KE.out.bl (by omega) _⟩
      rw [← HCS.out]
      exact res_arr Tryd.results62 Tryd.underlying59 _ _ (w.heap.size + 1) cs (by rfl) (KE.out.b1.row cs) HI.out.1
end Go.Proofs.YtocimfhagkcnlaaDoor
