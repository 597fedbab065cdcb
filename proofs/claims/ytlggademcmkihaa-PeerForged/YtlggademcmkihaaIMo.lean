/- Slices of steps, opened. -/
import Derived.Test.YtlggademcmkihaaIJ
namespace Go.Proofs.Ytlggademcmkihaa
open Go.ChangeShapes Go.WideShapes Go.ChangeAt Go.RowKit Go.Deep
theorem open_stepsX {H : Type} {enc : TypeId × Value → H} {w : World} {base : Nat} {spare : Nat → Bool} {held : Bool} {fuel : Nat} {c : Value} {x : DataW H × List MemPlace}
    (h : DataW.trod enc Try.prog w base spare held fuel 32 [c] = some x) : ∃ ss : List Stp, Sx w.heap.size w c ss := by
  have ht := Try.underlying32
  have ce : Try.prog.cellsOf 46 = 32 := by kernel_rfl
  rcases open_slice ht h with ⟨hcs, _⟩ | ⟨a, len, cap, m, n, D, Pl, hcs, hb, hl, hm, hmm, hxd, hx⟩
  · simp at hcs
    exact ⟨[], ⟨⟨none, 0, (by rw [hcs]; rfl), fun k x hk => (by simp at hk)⟩, fun s hs => (by cases hs), (by simp)⟩⟩
  · simp at hcs
    have hlm : len ≤ m := by rw [hmm]; split <;> omega
    have each : ∀ i, ∃ r : Stp, i < len → (∀ j u, (spC r)[j]? = some u → w.cell? ((a.add (i * 32)).add j) = some u) ∧ okX r := fun i => by
      by_cases hi : i < len
      · obtain ⟨cs', h1, h2⟩ := hx i (by omega)
        rw [ce] at h1
        obtain ⟨_, hlen, hcell⟩ := World.cells?_some h1
        obtain ⟨s, rfl, ok⟩ := open_step hlen h2
        refine ⟨s, fun _ => ⟨fun j u hu => ?_, ok⟩⟩
        have hj : j < 32 := by
          rcases Nat.lt_or_ge j 32 with hlt | hge
          · exact hlt
          · rw [List.getElem?_eq_none (by rw [spC_len]; exact hge)] at hu; cases hu
        rw [hcell j hj]
        exact hu
      · exact ⟨sp0, fun h => absurd h hi⟩
    obtain ⟨F, hF⟩ := Classical.axiomOfChoice each
    have hlen : ((List.range len).map F).length = len := by simp
    refine ⟨(List.range len).map F, ⟨⟨some a, cap, (by rw [hlen]; exact hcs), fun k x hk => ?_⟩, fun s hs => ?_, ?_⟩⟩
    · have hkl : k < len := by
        rcases Nat.lt_or_ge k len with hlt | hge
        · exact hlt
        · rw [List.getElem?_eq_none (by rw [hlen]; exact hge)] at hk; cases hk
      rw [List.getElem?_map, List.getElem?_range hkl] at hk
      simp at hk
      subst hk
      refine ⟨a, rfl, ?_, (hF k hkl).1⟩
      have := World.block_lt_of_cell? w _ ((hF k hkl).1 0 _ rfl)
      rwa [add_block, add_block] at this
    · obtain ⟨i, hi, rfl⟩ := List.mem_map.1 hs
      exact (hF i (List.mem_range.1 hi)).2
    · rw [hlen]
      have : cap ≤ maxLen := hm
      unfold maxLen at this
      omega
theorem open_stepss {H : Type} {enc : TypeId × Value → H} {w : World} {base : Nat} {spare : Nat → Bool} {held : Bool} {fuel : Nat} {c : Value} {x : DataW H × List MemPlace}
    (h : DataW.trod enc Try.prog w base spare held fuel 76 [c] = some x) : ∃ ss : List (List Stp), Sxx w.heap.size w c ss := by
  have ht := Try.underlying76
  have ce : Try.prog.cellsOf 32 = 1 := by kernel_rfl
  rcases open_slice ht h with ⟨hcs, _⟩ | ⟨a, len, cap, m, n, D, Pl, hcs, hb, hl, hm, hmm, hxd, hx⟩
  · simp at hcs
    exact ⟨[], ⟨⟨none, 0, (by rw [hcs]; rfl), fun k x hk => (by simp at hk)⟩, (by simp)⟩⟩
  · simp at hcs
    have hlm : len ≤ m := by rw [hmm]; split <;> omega
    have each : ∀ i, ∃ r : Value × List Stp, i < len → w.cell? (a.add i) = some r.1 ∧ Sx w.heap.size w r.1 r.2 := fun i => by
      by_cases hi : i < len
      · obtain ⟨cs', h1, h2⟩ := hx i (by omega)
        rw [ce] at h1
        obtain ⟨_, hlen, hcell⟩ := World.cells?_some h1
        obtain ⟨c0, rfl⟩ := list1 hlen
        obtain ⟨ss, hss⟩ := open_stepsX h2
        refine ⟨(c0, ss), fun _ => ⟨?_, hss⟩⟩
        have := hcell 0 (by omega)
        rw [add_add, Nat.add_zero, Nat.mul_one] at this
        simpa using this
      · exact ⟨(.slice none 0 0, []), fun h => absurd h hi⟩
    obtain ⟨F, hF⟩ := Classical.axiomOfChoice each
    have hlen : ((List.range len).map (fun i => (F i).2)).length = len := by simp
    refine ⟨(List.range len).map (fun i => (F i).2), ⟨⟨some a, cap, (by rw [hlen]; exact hcs), fun k x hk => ?_⟩, ?_⟩⟩
    · have hkl : k < len := by
        rcases Nat.lt_or_ge k len with hlt | hge
        · exact hlt
        · rw [List.getElem?_eq_none (by rw [hlen]; exact hge)] at hk; cases hk
      rw [List.getElem?_map, List.getElem?_range hkl] at hk
      simp at hk
      subst hk
      refine ⟨a, (F k).1, rfl, ?_, (hF k hkl).1, (hF k hkl).2⟩
      have := World.block_lt_of_cell? w _ (hF k hkl).1
      rwa [add_block] at this
    · rw [hlen]
      have : cap ≤ maxLen := hm
      unfold maxLen at this
      omega
end Go.Proofs.Ytlggademcmkihaa
