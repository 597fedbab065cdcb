/- Pieces of bytes, and bytes, that came in: opened. -/
import Derived.Test.YthoilihokbakoaaNI
import Derived.ProofKit
import Derived.OpenShut
import Derived.Deep.Slices
import Derived.SizedLaws
namespace Go.Proofs.Ythoilihokbakoaa
open Go.ChangeShapes Go.WideShapes Go.ChangeAt Go.RowKit Go.Deep
theorem u8_wf {n : Int} (h : (Lit.int .u8 n).wf = true) : 0 ≤ n ∧ n < 256 := by
  have e1 : IntKind.u8.min = 0 := by decide
  have e2 : IntKind.u8.max = 255 := by decide
  simp [Lit.wf, e1, e2] at h
  omega
/-- a slice of bytes that came in -/
theorem open_b8 {H : Type} {enc : TypeId × Value → H} {w : World} {base : Nat} {spare : Nat → Bool} {held : Bool} {t : TypeId} {fuel : Nat} {c : Value} {x : DataW H × List MemPlace} (ht : Try.prog.underlying t = some (.slice 5))
    (h : DataW.trod enc Try.prog w base spare held fuel t [c] = some x) : ∃ b : List UInt8, Sv w.heap.size w c (ib b) ∧ b.length ≤ maxLen := by
  rcases open_ints ht Try.underlying5 (by kernel_rfl) h with ⟨hcs, _⟩ | ⟨a, len, cap, zs, hcs, _, hl, hm, hz, _, hcell, hwz⟩
  · simp at hcs
    exact ⟨[], by rw [hcs]; exact Sv.nil _ _, by simp⟩
  · simp at hcs
    have hzl : len ≤ zs.length := by rw [hz]; split <;> omega
    have hbl : (zs.take len).length = len := by rw [List.length_take]; omega
    have hok : okb (zs.take len) := fun b hb => u8_wf (hwz b (List.mem_of_mem_take hb))
    obtain ⟨b, hb⟩ := ib_of hok
    refine ⟨b, ?_, by rw [← ib_len, ← hb, hbl]; omega⟩
    rw [← hb]
    refine ⟨some a, cap, by rw [hbl]; exact hcs, by rw [hbl]; exact hl, by simp, fun k hk => ?_, hok⟩
    rw [hbl] at hk
    have hc := hcell k (by omega)
    refine ⟨a, rfl, ?_, ?_⟩
    · have := World.block_lt_of_cell? w _ hc
      rwa [add_block] at this
    · rw [hc, List.getD_eq_getElem?_getD, List.getD_eq_getElem?_getD, List.getElem?_take_of_lt hk]
/-- pieces of bytes that came in -/
theorem open_pieces {H : Type} {enc : TypeId × Value → H} {w : World} {base : Nat} {spare : Nat → Bool} {held : Bool} {t e : TypeId} {fuel : Nat} {c : Value} {x : DataW H × List MemPlace} (ht : Try.prog.underlying t = some (.slice e)) (he : Try.prog.underlying e = some (.slice 5)) (ce : Try.prog.cellsOf e = 1)
    (h : DataW.trod enc Try.prog w base spare held fuel t [c] = some x) : ∃ (l : List (List UInt8)) (ao : Option Addr) (cap : Nat), c = .slice ao l.length cap ∧ Pc w.heap.size w ao l ∧ (∀ K, (∀ n ∈ x.1.weights Try.prog t, n ≤ K) → l.length * Try.prog.bytesOf e ≤ K) := by
  rcases open_slice ht h with ⟨hcs, _⟩ | ⟨a, len, cap, m, n, D, Pl, hcs, hb, hl, hm, hmm, hxd, hx⟩
  · simp at hcs
    exact ⟨[], none, 0, by rw [hcs]; rfl, fun k hk => absurd hk (by simp), fun K _ => by simp⟩
  · simp at hcs
    have hlm : len ≤ m := by rw [hmm]; split <;> omega
    have each : ∀ i, ∃ b : List UInt8, i < len → ∃ u, w.cell? (a.add i) = some u ∧ Sv w.heap.size w u (ib b) := fun i => by
      by_cases hi : i < len
      · obtain ⟨cs', h1, h2⟩ := hx i (by omega)
        rw [ce] at h1
        obtain ⟨_, hlen, hcell⟩ := World.cells?_some h1
        obtain ⟨u, rfl⟩ : ∃ u, cs' = [u] := by
          match cs', hlen with
          | [u], _ => exact ⟨u, rfl⟩
        obtain ⟨b, h5, _⟩ := open_b8 he h2
        refine ⟨b, fun _ => ⟨u, ?_, h5⟩⟩
        have e4 := hcell 0 (by simp)
        rw [Go.Proofs.Ythoilihokbakoaa.add_add] at e4
        simpa using e4
      · exact ⟨[], fun h => absurd h hi⟩
    obtain ⟨F, hF⟩ := Classical.axiomOfChoice each
    have hlen : ((List.range len).map F).length = len := by simp
    refine ⟨(List.range len).map F, some a, cap, by rw [hlen]; exact hcs, fun k hk => ?_, fun K hK => ?_⟩
    · have hk2 : k < len := by rw [hlen] at hk; exact hk
      obtain ⟨u, h1, h2⟩ := hF k hk2
      have e5 : ((List.range len).map F)[k] = F k := by simp
      rw [e5]
      obtain ⟨bo, cp, hu, r⟩ := h2
      subst hu
      refine ⟨a, bo, _, cp, rfl, ?_, h1, bo, cp, rfl, r⟩
      have := World.block_lt_of_cell? w _ h1
      rwa [add_block] at this
    · rw [hlen]
      have h1 := hK ((len + (m - len)) * Try.prog.bytesOf e) (by rw [hxd]; simp [DataW.weights, ht])
      exact Nat.le_trans (Nat.mul_le_mul_right _ (by omega)) h1
end Go.Proofs.Ythoilihokbakoaa
