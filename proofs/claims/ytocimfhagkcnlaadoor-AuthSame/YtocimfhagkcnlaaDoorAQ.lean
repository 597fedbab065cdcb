/- Auth: Same walked. -/
import Derived.Test.YtocimfhagkcnlaaDoorAG
import Derived.Test.YtocimfhagkcnlaaDoorAW
namespace Go.Proofs.YtocimfhagkcnlaaDoor
open Go Go.RowKit Go.Sort
set_option linter.unusedVariables false
/-- what differs in so many bytes -/
def dfr (a b : List Int) : Nat → Int
  | 0 => 0
  | n + 1 => bits .or .u8 (dfr a b n) (bits .xor .u8 (a.getD n 0) (b.getD n 0))
def sam (a b : List Int) : Bool := a.length == b.length && dfr a b a.length == 0
theorem sidxA (ad : Addr) (n cap j : Nat) (hj : (j : Int) < n) (w : World) : Sem.run Tryd.prog (Instr.indexAt 23 (.slice (some ad) n cap) (.int .i64 (j : Int))) w = .ok (.pointer (some (ad.add j))) w := by
  have u := Tryd.underlying23
  have h0 : (0 : Int) ≤ j := Int.natCast_nonneg j
  have c3 : Tryd.prog.cellsOf 5 = 1 := by kernel_rfl
  go_simp
set_option maxHeartbeats 400000 in
theorem same_any (va vb : Value) (a b : List Int) (w : World) (ha : Sv w.heap.size w va a) (hb : Sv w.heap.size w vb b) (hl : a.length ≤ 140737488355327) :
    Calls Tryd.prog 21 #[va, vb] w fun e w' => e = .returned (.bool (sam a b)) ∧ Below w.heap.size w w' := by
  obtain ⟨ao, ca, rfl, -, -, ra, -⟩ := ha
  obtain ⟨bo, cb, rfl, -, -, rb, -⟩ := hb
  have HA : Hid (Rs w.heap.size w ao a ∧ Rs w.heap.size w bo b) := ⟨ra, rb⟩
  obtain ⟨LA, hLA⟩ : ∃ n, n = a.length := ⟨_, rfl⟩
  obtain ⟨LB, hLB⟩ : ∃ n, n = b.length := ⟨_, rfl⟩
  have HL : Hid (LA = a.length ∧ LB = b.length) := ⟨hLA, hLB⟩
  rw [← hLA] at hl
  rw [← hLA, ← hLB]
  obtain ⟨R, hR⟩ : ∃ r, r = sam a b := ⟨_, rfl⟩
  have HR : Hid (R = sam a b) := hR
  rw [← hR]
  clear ra rb hLA hLB hR
  by_cases hne : LA = LB
  · subst hne
    have HS : Hid (R = (dfr a b LA == 0)) := by
      show _ = _
      rw [HR.out, sam, ← HL.out.1, ← HL.out.2]
      simp
    go_enter Tryd.func21, Tryd.ntmps21
    refine post_hid fun Q hQ => ?_
    refine seq_hid fun R0 hR0 => ?_
    go_wp2_with fail
    rw [hR0.out]
    clear hR0
    refine seq_hid fun R1 hR1 => ?_
    go_wp2_with fail
    rw [hR1.out]
    clear hR1
    refine seq_hid fun R2 hR2 => ?_
    go_wp2_with fail
    rw [hR2.out]
    clear hR2
    refine seq_hid fun R3 hR3 => ?_
    go_wp2_with fail
    go_loopw [5, 14] (fun dv i wr => ∃ (k : Nat) (D KI : Int), dv = .int .u8 D ∧ i = .int .i64 KI ∧ 0 ≤ KI ∧ KI ≤ (LA : Int) ∧ Hid (KI = (k : Int) ∧ D = dfr a b k ∧ Below w.heap.size w wr)) (fun _ i _ => ((LA : Int) - intOf i).toNat)
    case atStart => exact ⟨0, 0, 0, rfl, rfl, by omega, by omega, rfl, rfl, Below.refl _ _⟩
    case round =>
      obtain ⟨k, D, KI, rfl, rfl, k0, k1, hK⟩ := hrel
      by_cases hlt : KI < (LA : Int)
      · have hkl : k < LA := by have := hK.out.1; omega
        obtain ⟨ad, e1, -, ca0⟩ := HA.out.1 k (by rw [← HL.out.1]; exact hkl)
        obtain ⟨bd, e2, -, cb0⟩ := HA.out.2 k (by rw [← HL.out.2]; exact hkl)
        have xa : ∀ u, Sem.run Tryd.prog (Instr.indexAt 23 (.slice ao LA ca) (.int .i64 KI)) u = .ok (.pointer (some (ad.add k))) u := fun u => by rw [e1, hK.out.1]; exact sidxA ad LA ca k (by omega) u
        have xb : ∀ u, Sem.run Tryd.prog (Instr.indexAt 23 (.slice bo LA cb) (.int .i64 KI)) u = .ok (.pointer (some (bd.add k))) u := fun u => by rw [e2, hK.out.1]; exact sidxA bd LA cb k (by omega) u
        obtain ⟨pa, hpa⟩ : ∃ p, p = ad.add k := ⟨_, rfl⟩
        obtain ⟨pb, hpb⟩ : ∃ p, p = bd.add k := ⟨_, rfl⟩
        obtain ⟨x, hx⟩ : ∃ x, x = a.getD k 0 := ⟨_, rfl⟩
        obtain ⟨y, hy⟩ : ∃ y, y = b.getD k 0 := ⟨_, rfl⟩
        rw [← hpa] at xa
        rw [← hpb] at xb
        have c1 : wr.cell? pa = some (.int .u8 x) := by
          rw [hpa, hx, ← ca0]
          exact hK.out.2.2.cell (block_lt_of_cell ca0)
        have c2 : wr.cell? pb = some (.int .u8 y) := by
          rw [hpb, hy, ← cb0]
          exact hK.out.2.2.cell (block_lt_of_cell cb0)
        have KN : Hid (KI = (k : Int) ∧ bits .or .u8 D (bits .xor .u8 x y) = dfr a b (k + 1) ∧ Below w.heap.size w wr) := ⟨hK.out.1, by rw [dfr, ← hx, ← hy, ← hK.out.2.1], hK.out.2.2⟩
        have e5 : IntKind.i64.wrap (KI + 1) = KI + 1 := by rw [IntKind.wrap_i64]; omega
        clear hK ca0 cb0 e1 e2 hpa hpb hx hy hkl
        go_wp2_with fail
        refine wp_region_quietW (by kernel_rfl) (by kernel_rfl) ?_
        repeat (refine qw_step (fun K hK => ?_); go_simp; (refine hK _ ?_; clear hK K))
        refine qw_nil ?_
        intro _ hw'
        obtain ⟨nq, hw''⟩ := hw'
        subst hw''
        go_wp2_with fail
        exact ⟨⟨k + 1, _, KI + 1, rfl, rfl, by omega, by omega, by have := KN.out.1; omega, KN.out.2.1, below_dr KN.out.2.2 nq⟩, by simp [intOf]; omega⟩
      · have KE : Hid (R = (D == 0) ∧ Below w.heap.size w wr) := by
          have e : k = LA := by have := hK.out.1; omega
          have := hK.out.2
          rw [e] at this
          exact ⟨by rw [HS.out, this.1], this.2⟩
        clear hK
        go_wp2_with fail
        rw [hR3.out]
        clear hR3
        go_wp2_with fail
        rw [hQ.out]
        go_ret
        exact ⟨by rw [KE.out.1]; rfl, KE.out.2⟩
  · have HS : Hid (R = false) := by
      show _ = _
      rw [HR.out, sam, ← HL.out.1, ← HL.out.2]
      simp [hne]
    have hne' : ¬ (LA : Int) = (LB : Int) := by omega
    go_enter Tryd.func21, Tryd.ntmps21
    go_wp2
    go_ret
    exact ⟨by rw [HS.out]; rfl, Below.refl _ _⟩
end Go.Proofs.YtocimfhagkcnlaaDoor
