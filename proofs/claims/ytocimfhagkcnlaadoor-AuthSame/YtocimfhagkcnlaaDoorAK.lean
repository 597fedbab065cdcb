/- Auth: the key behind (AES). -/
import Derived.Test.YtocimfhagkcnlaaDoorAJ
namespace Go.Proofs.YtocimfhagkcnlaaDoor
open Go Go.RowKit Go.Sort
set_option linter.unusedVariables false
/-- the last word, turned -/
def kyT (b : List Int) : List Int := [b.getD 13 0, b.getD 14 0, b.getD 15 0, b.getD 12 0]
def kyA (L b : List Int) : Nat → List Int
  | 0 => b
  | n + 1 => (kyA L b n).set n (bits .xor .u8 ((kyA L b n).getD n 0) (L.getD ((kyT b).getD n 0).toNat 0))
def kyP (L b : List Int) (p : Int) : List Int := (kyA L b 4).set 0 (bits .xor .u8 ((kyA L b 4).getD 0 0) p)
def kyC (L b : List Int) (p : Int) : Nat → List Int
  | 0 => kyP L b p
  | n + 1 => (kyC L b p n).set (4 + n) (bits .xor .u8 ((kyC L b p n).getD (4 + n) 0) ((kyC L b p n).getD n 0))
theorem kyA_len (L b : List Int) (n : Nat) : (kyA L b n).length = b.length := by
  induction n with
  | zero => rfl
  | succ n ih => rw [kyA, List.length_set, ih]
theorem kyP_len (L b : List Int) (p : Int) : (kyP L b p).length = b.length := by rw [kyP, List.length_set, kyA_len]
theorem kyC_len (L b : List Int) (p : Int) (n : Nat) : (kyC L b p n).length = b.length := by
  induction n with
  | zero => rw [kyC, kyP_len]
  | succ n ih => rw [kyC, List.length_set, ih]
theorem kyT8 {b : List Int} (hb : ∀ x ∈ b, U8 x) : ∀ x ∈ kyT b, U8 x := by
  intro x hx
  unfold kyT at hx
  simp only [List.mem_cons, List.not_mem_nil, or_false] at hx
  rcases hx with h | h | h | h <;> rw [h] <;> exact getD8 hb _
theorem kyA8 {L b : List Int} (hL : ∀ x ∈ L, U8 x) (hb : ∀ x ∈ b, U8 x) (n : Nat) : ∀ x ∈ kyA L b n, U8 x := by
  induction n with
  | zero => exact hb
  | succ n ih => rw [kyA]; exact set8 ih n (xor8 (getD8 ih n) (getD8 hL _))
theorem kyC8 {L b : List Int} {p : Int} (hL : ∀ x ∈ L, U8 x) (hb : ∀ x ∈ b, U8 x) (hp : U8 p) (n : Nat) : ∀ x ∈ kyC L b p n, U8 x := by
  induction n with
  | zero => rw [kyC, kyP]; exact set8 (kyA8 hL hb 4) 0 (xor8 (getD8 (kyA8 hL hb 4) 0) hp)
  | succ n ih => rw [kyC]; exact set8 ih _ (xor8 (getD8 ih _) (getD8 ih _))
theorem Uw.st {w wr W2 : World} {l : List Int} (h : Uw w wr l) (n k : Nat) (x : Int) (hp : Bk w.heap.size W2 ((by' l).set k (.int .u8 x)).toArray 59) (hg : (wr.drewN n).grownBy W2 (some w.heap.size)) : Uw w W2 (l.set k x) := by
  have e2 : (by' l).set k (.int .u8 x) = by' (l.set k x) := by unfold by'; rw [List.map_set]
  rw [e2] at hp
  have hl := h.b1.lt
  exact ⟨hp, (show Bk _ (wr.drewN n) _ _ from h.b1).kept (hg.block _ (by show _ < wr.heap.size; omega) (by intro e; injection e with e; omega)), (below_dr h.bl n).grown hg (by show w.heap.size ≤ wr.heap.size; omega) (fun q e => by injection e with e; omega)⟩
set_option maxRecDepth 20000 in
set_option maxHeartbeats 4000000 in
theorem keyBehind_any (c : Nat) (L b : List Int) (p : Int) (hb : b.length = 16) (hb8 : ∀ x ∈ b, U8 x) (w : World) (hc : Cq w c L) :
    Calls Tryd.prog 60 #[.pointer (some ⟨c, 0, none⟩), .agg (by' b).toArray, .int .u8 p] w fun e w' => e = .returned (.agg (by' (kyC L b p 12)).toArray) ∧ Below w.heap.size w w' := by
  have HC : Hid (Cq w c L) := hc
  have HL : Hid (b.length = 16 ∧ ∀ x ∈ b, U8 x) := ⟨hb, hb8⟩
  have hcw : c < w.heap.size := hc.1.lt
  clear hb hb8 hc
  obtain ⟨A, hA⟩ : ∃ A, (by' b).toArray = A := ⟨_, rfl⟩
  have HA : Hid ((by' b).toArray = A ∧ (Tryd.prog.info? 59).map (·.size) = some A.size) := ⟨hA, by rw [← hA, List.size_toArray, by_len, HL.out.1]; kernel_rfl⟩
  rw [hA]
  clear hA
  go_enter Tryd.func60, Tryd.ntmps60
  refine post_hid fun Q hQ => ?_
  refine seq_hid fun R0 hR0 => ?_
  go_wp2_with fail
  refine world_hid fun W0 hW0 => ?_
  have K0 : Hid (Bk w.heap.size W0 A 59 ∧ Bk (w.heap.size + 1) W0 #[.int .u8 0, .int .u8 0, .int .u8 0, .int .u8 0, .int .u8 0, .int .u8 0, .int .u8 0, .int .u8 0, .int .u8 0, .int .u8 0, .int .u8 0, .int .u8 0, .int .u8 0, .int .u8 0, .int .u8 0, .int .u8 0] 59 ∧ Below w.heap.size w W0 ∧ W0.heap.size = w.heap.size + 2) := by
    rw [hW0.out]
    refine ⟨bk_alloc (Bk.new w _ _) _, ?_, ((Below.refl _ _).alloc (Nat.le_refl _) _).alloc (by simp) _, by simp⟩
    have := Bk.new (w.alloc (.cells A 59)) #[.int .u8 0, .int .u8 0, .int .u8 0, .int .u8 0, .int .u8 0, .int .u8 0, .int .u8 0, .int .u8 0, .int .u8 0, .int .u8 0, .int .u8 0, .int .u8 0, .int .u8 0, .int .u8 0, .int .u8 0, .int .u8 0] 59
    rw [size_alloc1] at this
    exact this
  have hs0 : W0.heap.size = w.heap.size + 2 := K0.out.2.2.2
  rw [hR0.out]
  clear hW0 hR0
  have i13 : ∀ u, Sem.run Tryd.prog (Instr.indexAt 59 (.pointer (some ⟨w.heap.size, 0, none⟩)) (.int .i64 13)) u = .ok (.pointer (some ⟨w.heap.size, 13, none⟩)) u := fun u => aidxB Tryd.underlying59 (w.heap.size) 13 (by omega) u
  have i14 : ∀ u, Sem.run Tryd.prog (Instr.indexAt 59 (.pointer (some ⟨w.heap.size, 0, none⟩)) (.int .i64 14)) u = .ok (.pointer (some ⟨w.heap.size, 14, none⟩)) u := fun u => aidxB Tryd.underlying59 (w.heap.size) 14 (by omega) u
  have i15 : ∀ u, Sem.run Tryd.prog (Instr.indexAt 59 (.pointer (some ⟨w.heap.size, 0, none⟩)) (.int .i64 15)) u = .ok (.pointer (some ⟨w.heap.size, 15, none⟩)) u := fun u => aidxB Tryd.underlying59 (w.heap.size) 15 (by omega) u
  have i12 : ∀ u, Sem.run Tryd.prog (Instr.indexAt 59 (.pointer (some ⟨w.heap.size, 0, none⟩)) (.int .i64 12)) u = .ok (.pointer (some ⟨w.heap.size, 12, none⟩)) u := fun u => aidxB Tryd.underlying59 (w.heap.size) 12 (by omega) u
  obtain ⟨x13, hx13⟩ : ∃ x, x = b.getD 13 0 := ⟨_, rfl⟩
  have c13 : W0.cell? ⟨w.heap.size, 13, none⟩ = some (.int .u8 x13) := by rw [K0.out.1.cell, ← HA.out.1, hx13]; exact by_get _ _ (by rw [HL.out.1]; omega)
  obtain ⟨x14, hx14⟩ : ∃ x, x = b.getD 14 0 := ⟨_, rfl⟩
  have c14 : W0.cell? ⟨w.heap.size, 14, none⟩ = some (.int .u8 x14) := by rw [K0.out.1.cell, ← HA.out.1, hx14]; exact by_get _ _ (by rw [HL.out.1]; omega)
  obtain ⟨x15, hx15⟩ : ∃ x, x = b.getD 15 0 := ⟨_, rfl⟩
  have c15 : W0.cell? ⟨w.heap.size, 15, none⟩ = some (.int .u8 x15) := by rw [K0.out.1.cell, ← HA.out.1, hx15]; exact by_get _ _ (by rw [HL.out.1]; omega)
  obtain ⟨x12, hx12⟩ : ∃ x, x = b.getD 12 0 := ⟨_, rfl⟩
  have c12 : W0.cell? ⟨w.heap.size, 12, none⟩ = some (.int .u8 x12) := by rw [K0.out.1.cell, ← HA.out.1, hx12]; exact by_get _ _ (by rw [HL.out.1]; omega)
  have HX : Hid (kyT b = [x13, x14, x15, x12]) := by show _ = _; unfold kyT; rw [hx13, hx14, hx15, hx12]
  clear hx13 hx14 hx15 hx12
  refine seq_hid fun R1 hR1 => ?_
  go_wp2_with fail
  refine world_hid fun W1 hW1 => ?_
  have K1 : Hid (Uw w W1 (kyA L b 0) ∧ Bk (w.heap.size + 2) W1 #[.int .u8 x13, .int .u8 x14, .int .u8 x15, .int .u8 x12] 110) := by
    rw [hW1.out]
    refine ⟨⟨by rw [show kyA L b 0 = b from rfl, HA.out.1]; exact bk_alloc K0.out.1 _, bk_alloc K0.out.2.1 _, K0.out.2.2.1.alloc (by omega) _⟩, ?_⟩
    have := Bk.new W0 #[.int .u8 x13, .int .u8 x14, .int .u8 x15, .int .u8 x12] 110
    rw [hs0] at this
    exact this
  rw [hR1.out]
  clear hW1 hR1 K0 hs0 c13 c14 c15 c12 i13 i14 i15 i12
  refine seq_hid fun R2 hR2 => ?_
  have k4i : (Tryd.prog.info? 110).map (·.size) = some (#[.int .u8 x13, .int .u8 x14, .int .u8 x15, .int .u8 x12] : Array Value).size := by kernel_rfl
  go_wp2_with (refine step_lda (by rfl) _ (by rfl) Tryd.underlying110 (w.heap.size + 2) (by rfl) #[.int .u8 x13, .int .u8 x14, .int .u8 x15, .int .u8 x12] K1.out.2 k4i ?_)
  clear k4i
  go_loopw [21] (fun i wr => ∃ (k : Nat) (KI : Int), i = .int .i64 KI ∧ 0 ≤ KI ∧ KI ≤ 4 ∧ Hid (KI = (k : Int) ∧ Uw w wr (kyA L b k))) (fun i _ => (4 - intOf i).toNat)
  case atStart => exact ⟨0, 0, rfl, by omega, by omega, rfl, K1.out.1⟩
  case round =>
    clear K1
    obtain ⟨k, KI, rfl, k0, k1, hK⟩ := hrel
    by_cases hlt : KI < 4
    · have hk16 : k < 4 := by have := hK.out.1; omega
      obtain ⟨l, hl⟩ : ∃ l, l = kyA L b k := ⟨_, rfl⟩
      have SX : Hid (Uw w wr l) := by show Uw _ _ _; rw [hl]; exact hK.out.2
      have HLL : Hid (l.length = 16 ∧ l = kyA L b k ∧ KI = (k : Int)) := ⟨by rw [hl, kyA_len, HL.out.1], hl, hK.out.1⟩
      have hki := hK.out.1
      obtain ⟨o, ho⟩ : ∃ o, o = (kyT b).getD k 0 := ⟨_, rfl⟩
      have ho8 : U8 o := by rw [ho]; exact getD8 (kyT8 HL.out.2) k
      obtain ⟨ON, hON⟩ : ∃ q : Nat, (q : Int) = o := ⟨o.toNat, by have := ho8.1; omega⟩
      have HON : Hid (ON = o.toNat ∧ ON < 256) := ⟨by omega, by have := ho8.2; omega⟩
      have hiv : ∀ u, Sem.run Tryd.prog (Instr.index 110 (.agg #[.int .u8 x13, .int .u8 x14, .int .u8 x15, .int .u8 x12]) (.int .i64 KI)) u = .ok (.int .u8 o) u := fun u => by
        rw [hki, ho, HX.out]
        refine vidxB Tryd.underlying110 _ k _ (by omega) ?_ u
        rcases k with _ | _ | _ | _ | k
        · rfl
        · rfl
        · rfl
        · rfl
        · omega
      have his : ∀ u, Sem.run Tryd.prog (Instr.indexAt 89 (.pointer (some ⟨c, 0, none⟩)) (.int .u8 o)) u = .ok (.pointer (some ⟨c, ON, none⟩)) u := fun u => by rw [← hON]; exact aidx8 Tryd.underlying89 _ ON (by have := HON.out.2; omega) u
      have hix : ∀ u, Sem.run Tryd.prog (Instr.indexAt 59 (.pointer (some ⟨w.heap.size, 0, none⟩)) (.int .i64 KI)) u = .ok (.pointer (some ⟨w.heap.size, k, none⟩)) u := fun u => by rw [hki]; exact aidxB Tryd.underlying59 _ k (by omega) u
      obtain ⟨x, hx⟩ : ∃ x, x = L.getD ON 0 := ⟨_, rfl⟩
      obtain ⟨y, hy⟩ : ∃ y, y = l.getD k 0 := ⟨_, rfl⟩
      have cs : wr.cell? ⟨c, ON, none⟩ = some (.int .u8 x) := by
        rw [SX.out.bl.cell (p := ⟨c, ON, none⟩) hcw, HC.out.1.cell, hx]
        exact by_get _ _ (by rw [HC.out.2.1]; have := HON.out.2; omega)
      have ck : wr.cell? ⟨w.heap.size, k, none⟩ = some (.int .u8 y) := by rw [SX.out.b0.cell, hy]; exact by_get _ _ (by rw [HLL.out.1]; omega)
      have fk : wr.frozen? ⟨w.heap.size, k, none⟩ = false := SX.out.b0.frozen k
      have HE : Hid (kyA L b (k + 1) = l.set k (bits .xor .u8 y x)) := by
        show _ = _
        rw [kyA, ← HLL.out.2.1, ← ho, ← HON.out.1, ← hx, ← hy]
      have hk4 : k < 16 := by omega
      clear hK hl hy hx hk16 hki ho ho8 hON
      go_wp2_with fail
      refine wp_region_lastW (by kernel_rfl) (by kernel_rfl) (by rfl) (by kernel_rfl) ?_
      simp only [idleLast, idle]
      repeat (refine qw_step (fun K hK => ?_); go_simp; (refine hK _ ?_; clear hK K))
      refine qw_nil ?_
      intro _ hw'
      obtain ⟨nr, hw''⟩ := hw'
      subst hw''
      refine wpOp_stL (cs := by' l) _ (by rfl) rfl 5 _ _ rfl (show Bk _ (wr.drewN nr) _ _ from SX.out.b0) k (.int .u8 (bits .xor .u8 y x)) (by rfl) (by rfl) rfl (by kernel_rfl) (by rw [by_len, HLL.out.1]; exact hk4) rfl ?_
      intro W2 hp hg hz
      have KN : Hid (Uw w W2 (kyA L b (k + 1))) := by
        show Uw _ _ _
        rw [HE.out]
        exact SX.out.st nr _ _ hp hg
      clear hp hg hz HE
      go_wp2_with fail
      exact ⟨⟨k + 1, KI + 1, rfl, by omega, by omega, by have := HLL.out.2.2; omega, KN.out⟩, by simp [intOf]; omega⟩
    · have K2 : Hid (Uw w wr (kyA L b 4)) := by
        have e : k = 4 := by have := hK.out.1; omega
        have := hK.out.2
        rw [e] at this
        exact this
      clear hK
      have j0 : ∀ u, Sem.run Tryd.prog (Instr.indexAt 59 (.pointer (some ⟨w.heap.size, 0, none⟩)) (.int .i64 0)) u = .ok (.pointer (some ⟨w.heap.size, 0, none⟩)) u := fun u => aidxB Tryd.underlying59 (w.heap.size) 0 (by omega) u
      obtain ⟨y0, hy0⟩ : ∃ y, y = (kyA L b 4).getD 0 0 := ⟨_, rfl⟩
      have c0 : wr.cell? ⟨w.heap.size, 0, none⟩ = some (.int .u8 y0) := by rw [K2.out.b0.cell, hy0]; exact by_get _ _ (by rw [kyA_len, HL.out.1]; omega)
      have f0 : wr.frozen? ⟨w.heap.size, 0, none⟩ = false := K2.out.b0.frozen 0
      have K3 : Hid (Uw w (wr.setCell ⟨w.heap.size, 0, none⟩ (.int .u8 (bits .xor .u8 y0 p))) (kyC L b p 0)) := by
        show Uw _ _ _
        rw [kyC, kyP, ← hy0]
        exact K2.out.set 0 _
      clear hy0
      go_wp2_with fail
      rw [hR2.out]
      clear hR2
      go_wp2_with fail
      clear c0 f0 j0
      go_loopw [10] (fun i w2 => ∃ (n : Nat) (NI : Int), i = .int .i64 NI ∧ 4 ≤ NI ∧ NI ≤ 16 ∧ Hid (NI = 4 + (n : Int) ∧ Uw w w2 (kyC L b p n))) (fun i _ => (16 - intOf i).toNat)
      case atStart => exact ⟨0, 4, rfl, by omega, by omega, rfl, K3.out⟩
      case round =>
        clear K3 K2
        obtain ⟨n, NI, rfl, n0, n1, hN⟩ := hrel
        obtain ⟨wa, rfl⟩ : ∃ wa, wa = wr := ⟨_, rfl⟩
        by_cases hln : NI < 16
        · obtain ⟨l, hl⟩ : ∃ l, l = kyC L b p n := ⟨_, rfl⟩
          have SX : Hid (Uw w wa l) := by show Uw _ _ _; rw [hl]; exact hN.out.2
          have HLL : Hid (l.length = 16 ∧ l = kyC L b p n ∧ NI = 4 + (n : Int)) := ⟨by rw [hl, kyC_len, HL.out.1], hl, hN.out.1⟩
          obtain ⟨PK, hPK⟩ : ∃ q : Nat, q = 4 + n := ⟨_, rfl⟩
          have HPK : Hid (PK = 4 + n ∧ (PK : Int) = NI ∧ PK < 16) := ⟨hPK, by have := hN.out.1; omega, by have := hN.out.1; omega⟩
          obtain ⟨I4, hI4⟩ : ∃ x : Int, x = NI - 4 := ⟨_, rfl⟩
          have e4 : IntKind.i64.wrap (NI - 4) = I4 := by rw [hI4, IntKind.wrap_i64]; omega
          have x4 : ∀ u, Sem.run Tryd.prog (Instr.indexAt 59 (.pointer (some ⟨w.heap.size, 0, none⟩)) (.int .i64 I4)) u = .ok (.pointer (some ⟨w.heap.size, n, none⟩)) u := fun u => by
            rw [show I4 = ((n : Nat) : Int) by have := hN.out.1; omega]; exact aidxB Tryd.underlying59 _ n (by have := HPK.out.2.2; omega) u
          have xk : ∀ u, Sem.run Tryd.prog (Instr.indexAt 59 (.pointer (some ⟨w.heap.size, 0, none⟩)) (.int .i64 NI)) u = .ok (.pointer (some ⟨w.heap.size, PK, none⟩)) u := fun u => by
            rw [← HPK.out.2.1]; exact aidxB Tryd.underlying59 _ PK (by have := HPK.out.2.2; omega) u
          obtain ⟨x, hx⟩ : ∃ x, x = l.getD n 0 := ⟨_, rfl⟩
          obtain ⟨y, hy⟩ : ∃ y, y = l.getD PK 0 := ⟨_, rfl⟩
          have cx : wa.cell? ⟨w.heap.size, n, none⟩ = some (.int .u8 x) := by rw [SX.out.b0.cell, hx]; exact by_get _ _ (by rw [HLL.out.1]; have := HPK.out; omega)
          have cy : wa.cell? ⟨w.heap.size, PK, none⟩ = some (.int .u8 y) := by rw [SX.out.b0.cell, hy]; exact by_get _ _ (by rw [HLL.out.1]; have := HPK.out; omega)
          have fk : wa.frozen? ⟨w.heap.size, PK, none⟩ = false := SX.out.b0.frozen PK
          have HE : Hid (kyC L b p (n + 1) = l.set PK (bits .xor .u8 y x)) := by
            show _ = _
            rw [kyC, ← HLL.out.2.1, ← HPK.out.1, ← hx, ← hy]
          clear hN hl hy hx hPK hI4
          go_wp2_with fail
          refine wp_region_lastW (by kernel_rfl) (by kernel_rfl) (by rfl) (by kernel_rfl) ?_
          simp only [idleLast, idle]
          repeat (refine qw_step (fun K hK => ?_); go_simp; (refine hK _ ?_; clear hK K))
          refine qw_nil ?_
          intro _ hw'
          obtain ⟨nr, hw''⟩ := hw'
          subst hw''
          refine wpOp_stL (cs := by' l) _ (by rfl) rfl 5 _ _ rfl (show Bk _ (wa.drewN nr) _ _ from SX.out.b0) PK (.int .u8 (bits .xor .u8 y x)) (by rfl) (by rfl) rfl (by kernel_rfl) (by rw [by_len, HLL.out.1]; have := HPK.out; omega) rfl ?_
          intro W2 hp hg hz
          have KN : Hid (Uw w W2 (kyC L b p (n + 1))) := by
            show Uw _ _ _
            rw [HE.out]
            exact SX.out.st nr _ _ hp hg
          clear hp hg hz HE
          go_wp2_with fail
          exact ⟨⟨n + 1, NI + 1, rfl, by omega, by omega, by have := HLL.out.2.2; omega, KN.out⟩, by simp [intOf]; omega⟩
        · have KE : Hid (Uw w wa (kyC L b p 12)) := by
            have e : n = 12 := by have := hN.out.1; omega
            have := hN.out.2
            rw [e] at this
            exact this
          have HLN : Hid ((kyC L b p 12).length = 16) := by show _ = _; rw [kyC_len, HL.out.1]
          clear hN
          obtain ⟨cs, hcs⟩ : ∃ cs, cs = (by' (kyC L b p 12)).toArray := ⟨_, rfl⟩
          have hz : cs.size = 16 := by rw [hcs, List.size_toArray, by_len]; exact HLN.out
          have HI : Hid ((Tryd.prog.info? 59).map (·.size) = some cs.size ∧ cs.all (·.oneCell') = true ∧ cs.size = 16) := ⟨by rw [hz]; kernel_rfl, by rw [hcs]; exact by_one _, hz⟩
          have HB1 : Hid (Bk (w.heap.size) wa cs 59) := by show Bk _ _ _ _; rw [hcs]; exact KE.out.b0
          have HB0 : Hid (wa.heap[w.heap.size + 1]? = some (.cells #[.int .u8 0, .int .u8 0, .int .u8 0, .int .u8 0, .int .u8 0, .int .u8 0, .int .u8 0, .int .u8 0, .int .u8 0, .int .u8 0, .int .u8 0, .int .u8 0, .int .u8 0, .int .u8 0, .int .u8 0, .int .u8 0] 59 (0, 0))) := KE.out.b1
          have HCS : Hid (cs = (by' (kyC L b p 12)).toArray) := hcs
          clear hcs hz
          go_wp2_with (first | (refine step_lda (by rfl) _ (by rfl) Tryd.underlying59 (w.heap.size) (by rfl) cs HB1.out HI.out.1 ?_) | (refine step_stR (T := 59) (by rfl) _ _ (by rfl) (w.heap.size + 1) cs (by rfl) (by rfl) #[.int .u8 0, .int .u8 0, .int .u8 0, .int .u8 0, .int .u8 0, .int .u8 0, .int .u8 0, .int .u8 0, .int .u8 0, .int .u8 0, .int .u8 0, .int .u8 0, .int .u8 0, .int .u8 0, .int .u8 0, .int .u8 0] HI.out.1 ?_ HI.out.2.1 HB0.out ?_; focus (rw [HI.out.2.2]; rfl)))
          rw [hQ.out]
          refine bodyPost_ret (v := .agg (by' (kyC L b p 12)).toArray) ?_ rfl ⟨rfl, below_row KE.out.bl (by omega) _⟩
          rw [← HCS.out]
          exact res_arr Tryd.results60 Tryd.underlying59 _ _ (w.heap.size + 1) cs (by rfl) (KE.out.b1.row cs) HI.out.1
end Go.Proofs.YtocimfhagkcnlaaDoor
