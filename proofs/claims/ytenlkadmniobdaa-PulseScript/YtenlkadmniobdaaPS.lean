/- Spans, numbers and steps that came in: opened. -/
import Derived.Test.YtenlkadmniobdaaPN
import Derived.ProofKit
import Derived.OpenShut
import Derived.Deep.Slices
import Derived.SizedLaws
namespace Go.Proofs.Ytenlkadmniobdaa
open Go.ChangeShapes Go.WideShapes Go.ChangeAt Go.RowKit Go.Deep
theorem i64_wf {n : Int} (h : (Lit.int .i64 n).wf = true) : -9223372036854775808 ≤ n ∧ n ≤ 9223372036854775807 := by
  have e1 : IntKind.i64.min = -9223372036854775808 := by decide
  have e2 : IntKind.i64.max = 9223372036854775807 := by decide
  simp [Lit.wf, e1, e2] at h
  omega
theorem u64_wf {n : Int} (h : (Lit.int .u64 n).wf = true) : 0 ≤ n ∧ n ≤ 18446744073709551615 := by
  have e1 : IntKind.u64.min = 0 := by decide
  have e2 : IntKind.u64.max = 18446744073709551615 := by decide
  simp [Lit.wf, e1, e2] at h
  omega
theorem open_spans {H : Type} {enc : TypeId × Value → H} {w : World} {base : Nat} {spare : Nat → Bool} {held : Bool} {t e : TypeId} {fuel : Nat} {c : Value} {x : DataW H × List MemPlace} (ht : Try.prog.underlying t = some (.slice e)) (he : Try.prog.underlying e = some (.int .i64)) (ce : Try.prog.cellsOf e = 1)
    (h : DataW.trod enc Try.prog w base spare held fuel t [c] = some x) :
    ∃ xs : List Int, Sl w.heap.size w c xs ∧ (∀ K, (∀ n ∈ x.1.weights Try.prog t, n ≤ K) → xs.length * Try.prog.bytesOf e ≤ K) := by
  rcases open_ints ht he ce h with ⟨hcs, _⟩ | ⟨a, len, cap, zs, hcs, _, hl, hm, hz, hxd, hcell, hwz⟩
  · simp at hcs
    exact ⟨[], ⟨none, 0, by rw [hcs]; rfl, by simp, by simp, (fun x hx => by simp at hx), by simp⟩, fun K _ => by simp⟩
  · simp at hcs
    have hzl : len ≤ zs.length := by rw [hz]; split <;> omega
    have hbl : (zs.take len).length = len := by rw [List.length_take]; omega
    refine ⟨zs.take len, ⟨some a, cap, by rw [hbl]; exact hcs, by rw [hbl]; exact hl, fun hp => ⟨a, rfl, ?_, fun k hk => ?_⟩, fun p hp => i64_wf (hwz p (List.mem_of_mem_take hp)), by simp⟩, fun K hK => ?_⟩
    · rw [hbl] at hp
      have := World.block_lt_of_cell? w _ (hcell 0 (by omega))
      rwa [add_blk] at this
    · rw [hbl] at hk
      rw [hcell k (by omega), List.getD_eq_getElem?_getD, List.getD_eq_getElem?_getD, List.getElem?_take_of_lt hk]
    · rw [hbl]
      have h1 := hK ((len + (zs.length - len)) * Try.prog.bytesOf e) (by rw [hxd]; simp [DataW.weights, ht, lits, Nat.min_eq_left hzl])
      exact Nat.le_trans (Nat.mul_le_mul_right _ (by omega)) h1
end Go.Proofs.Ytenlkadmniobdaa
