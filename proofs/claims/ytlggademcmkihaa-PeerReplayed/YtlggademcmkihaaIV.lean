/- Slices of steps, with their weight, and of ints, opened. -/
import Derived.Test.YtlggademcmkihaaIT
namespace Go.Proofs.Ytlggademcmkihaa
open Go.ChangeShapes Go.WideShapes Go.ChangeAt Go.RowKit Go.Deep
theorem open_stepsW {H : Type} {enc : TypeId × Value → H} {w : World} {base : Nat} {spare : Nat → Bool} {held : Bool} {fuel : Nat} {c : Value} {x : DataW H × List MemPlace}
    (h : DataW.trod enc Try.prog w base spare held fuel 32 [c] = some x) : ∃ ss : List Stp, Sx w.heap.size w c ss ∧ (∀ K, (∀ n ∈ x.1.weights Try.prog 32, n ≤ K) → ss.length * Try.prog.bytesOf 46 ≤ K) := by
  have ht := Try.underlying32
  have ce : Try.prog.cellsOf 46 = 32 := by kernel_rfl
  rcases open_slice ht h with ⟨hcs, _⟩ | ⟨a, len, cap, m, n, D, Pl, hcs, hb, hl, hm, hmm, hxd, hx⟩
  · simp at hcs
    exact ⟨[], ⟨⟨none, 0, (by rw [hcs]; rfl), fun k x hk => (by simp at hk)⟩, fun s hs => (by cases hs), (by simp)⟩, fun K _ => (by simp)⟩
  · simp at hcs
    have hlm : len ≤ m := by rw [hmm]; split <;> omega
    have each : ∀ i, ∃ r : Stp, i < len → (∀ j u, (spC r)[j]? = some u → w.cell? ((a.add (i * 32)).add j) = some u) ∧ okX r := fun i => by
      by_cases hi : i < len
      · obtain ⟨cs', h1, h2⟩ := hx i (by omega)
        rw [ce] at h1
        obtain ⟨_, hlen, hcell⟩ := World.cells?_some h1
        obtain ⟨s, rfl, ok⟩ := open_step hlen h2
        refine ⟨s, fun _ => ⟨fun j u hu => ?_, ok⟩⟩
        have hj : j < 32 := by
          rcases Nat.lt_or_ge j 32 with hlt | hge
          · exact hlt
          · rw [List.getElem?_eq_none (by rw [spC_len]; exact hge)] at hu; cases hu
        rw [hcell j hj]
        exact hu
      · exact ⟨sp0, fun h => absurd h hi⟩
    obtain ⟨F, hF⟩ := Classical.axiomOfChoice each
    have hlen : ((List.range len).map F).length = len := by simp
    refine ⟨(List.range len).map F, ⟨⟨some a, cap, (by rw [hlen]; exact hcs), fun k x hk => ?_⟩, fun s hs => ?_, ?_⟩, fun K hK => ?_⟩
    · have hkl : k < len := by
        rcases Nat.lt_or_ge k len with hlt | hge
        · exact hlt
        · rw [List.getElem?_eq_none (by rw [hlen]; exact hge)] at hk; cases hk
      rw [List.getElem?_map, List.getElem?_range hkl] at hk
      simp at hk
      subst hk
      refine ⟨a, rfl, ?_, (hF k hkl).1⟩
      have := World.block_lt_of_cell? w _ ((hF k hkl).1 0 _ rfl)
      rwa [add_block, add_block] at this
    · obtain ⟨i, hi, rfl⟩ := List.mem_map.1 hs
      exact (hF i (List.mem_range.1 hi)).2
    · rw [hlen]
      have : cap ≤ maxLen := hm
      unfold maxLen at this
      omega
    · rw [hlen]
      have h1 := hK ((len + (m - len)) * Try.prog.bytesOf 46) (by rw [hxd]; simp [DataW.weights, ht])
      exact Nat.le_trans (Nat.mul_le_mul_right _ (by omega)) h1
theorem open_picks {H : Type} {enc : TypeId × Value → H} {w : World} {base : Nat} {spare : Nat → Bool} {held : Bool} {fuel : Nat} {c : Value} {x : DataW H × List MemPlace}
    (h : DataW.trod enc Try.prog w base spare held fuel 79 [c] = some x) : ∃ ks : List Int, Si w.heap.size w c ks := by
  rcases open_ints Try.underlying79 Try.underlying3 (by kernel_rfl) h with ⟨hcs, _⟩ | ⟨a, len, cap, zs, hcs, _, hl, hm, hz, hxd, hcell, hwz⟩
  · simp at hcs
    exact ⟨[], ⟨⟨none, 0, (by rw [hcs]; rfl), fun k c hk => (by simp at hk)⟩, fun c hc => (by cases hc), (by simp)⟩⟩
  · simp at hcs
    have hzl : len ≤ zs.length := by rw [hz]; split <;> omega
    have hbl : (zs.take len).length = len := by rw [List.length_take]; omega
    refine ⟨zs.take len, ⟨⟨some a, cap, (by rw [hbl]; exact hcs), fun k c hk => ?_⟩, fun c hc => ?_, ?_⟩⟩
    · have hi : k < len := by
        rcases Nat.lt_or_ge k len with hlt | hge
        · exact hlt
        · rw [List.getElem?_eq_none (by rw [hbl]; exact hge)] at hk; cases hk
      have hc := hcell k (by omega)
      rw [List.getElem?_take_of_lt hi] at hk
      rw [List.getD_eq_getElem?_getD, hk] at hc
      refine ⟨a, rfl, ?_, hc⟩
      have := World.block_lt_of_cell? w _ hc
      rwa [add_block] at this
    · have := hwz c (List.mem_of_mem_take hc)
      have e1 : IntKind.i64.min = -9223372036854775808 := by decide
      have e2 : IntKind.i64.max = 9223372036854775807 := by decide
      simp [Lit.wf, e1, e2] at this
      exact this
    · rw [hbl]
      have : cap ≤ maxLen := hm
      unfold maxLen at this
      omega
end Go.Proofs.Ytlggademcmkihaa
