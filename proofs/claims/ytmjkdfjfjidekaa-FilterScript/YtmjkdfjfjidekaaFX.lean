/- Calls that came in: opened. -/
import Derived.Test.YtmjkdfjfjidekaaFW
import Derived.Test.YtmjkdfjfjidekaaFS
namespace Go.Proofs.Ytmjkdfjfjidekaa
open Go.ChangeShapes Go.WideShapes Go.ChangeAt Go.RowKit Go.Deep Fi
theorem list3' {α : Type} {l : List α} (h : l.length = 3) : ∃ a b c, l = [a, b, c] := by
  match l, h with
  | [a, b, c], _ => exact ⟨a, b, c, rfl⟩
theorem list6 {α : Type} {l : List α} (h : l.length = 6) : ∃ a b c d e f, l = [a, b, c, d, e, f] := by
  match l, h with
  | [a, b, c, d, e, f], _ => exact ⟨a, b, c, d, e, f, rfl⟩
theorem open_six {H : Type} {enc : TypeId × Value → H} {w : World} {base : Nat} {spare : Nat → Bool} {held : Bool} {fuel : Nat} {cs : List Value} {x : DataW H × List MemPlace} (hlen : cs.length = 6)
    (h : DataW.trod enc Try.prog w base spare held fuel 41 cs = some x) : ∃ s : Stp9, cs = sl9 s ∧ okS s.s := by
  obtain ⟨xs, k, hk, hxy, _, hxl, hf⟩ := DataW.trod_struct Try.underlying41 h
  obtain ⟨y0, y1, y2, rfl⟩ := list3' (show xs.length = 3 from hxl)
  obtain ⟨v0, v1, v2, v3, v4, v5, rfl⟩ := list6 hlen
  have g0 := hf 0 _ rfl
  have g1 := hf 1 _ rfl
  have g2 := hf 2 _ rfl
  have c0 : Try.prog.cellsOf 3 = 1 := by kernel_rfl
  have c1 : Try.prog.cellsOf 27 = 4 := by kernel_rfl
  have c3 : Try.prog.cellsOf 25 = 1 := by kernel_rfl
  simp [c0, c1, c3] at g0 g1 g2
  obtain ⟨n0, e0, -, w0⟩ := DataW.trod_int Try.underlying3 g0
  obtain ⟨s, e1, ok⟩ := open_four rfl g1
  obtain ⟨n2, e2, -, w2⟩ := DataW.trod_int Try.underlying25 g2
  simp [smL] at e0 e1 e2
  obtain ⟨rfl, rfl, rfl, rfl⟩ := e1
  subst e0; subst e2
  exact ⟨⟨n0, s, n2⟩, rfl, ok⟩
theorem open_steps9 {H : Type} {enc : TypeId × Value → H} {w : World} {base : Nat} {spare : Nat → Bool} {held : Bool} {fuel : Nat} {c : Value} {x : DataW H × List MemPlace}
    (h : DataW.trod enc Try.prog w base spare held fuel 36 [c] = some x) : ∃ ss : List Stp9, St9 w.heap.size w c ss := by
  have ht := Try.underlying36
  have ce : Try.prog.cellsOf 41 = 6 := by kernel_rfl
  rcases open_slice ht h with ⟨hcs, _⟩ | ⟨a, len, cap, m, n, D, Pl, hcs, hb, hl, hm, hmm, hxd, hx⟩
  · simp at hcs
    exact ⟨[], ⟨none, 0, by rw [hcs]; rfl, fun i hi => absurd hi (by simp)⟩, fun s hs => by cases hs⟩
  · simp at hcs
    have hlm : len ≤ m := by rw [hmm]; split <;> omega
    have each : ∀ i, ∃ r : Stp9, i < len → (∀ j u, (sl9 r)[j]? = some u → w.cell? ((a.add (i * 6)).add j) = some u) ∧ okS r.s := fun i => by
      by_cases hi : i < len
      · obtain ⟨cs', h1, h2⟩ := hx i (by omega)
        rw [ce] at h1
        obtain ⟨_, hlen, hcell⟩ := World.cells?_some h1
        obtain ⟨s, rfl, ok⟩ := open_six hlen h2
        refine ⟨s, fun _ => ⟨fun j u hu => ?_, ok⟩⟩
        have hj : j < 6 := by
          rcases Nat.lt_or_ge j 6 with hlt | hge
          · exact hlt
          · rw [List.getElem?_eq_none (by simpa [sl9] using hge)] at hu; cases hu
        rw [hcell j hj]
        first | exact hu | simpa using hu
      · exact ⟨z9, fun h => absurd h hi⟩
    obtain ⟨F, hF⟩ := Classical.axiomOfChoice each
    have hlen : ((List.range len).map F).length = len := by simp
    refine ⟨(List.range len).map F, ⟨some a, cap, by rw [hlen]; exact hcs, fun i hi => ?_⟩, fun s hs => ?_⟩
    · rw [hlen] at hi
      have e5 : ((List.map F (List.range len))).getD i z9 = F i := by
        rw [List.getD_eq_getElem?_getD, List.getElem?_map, List.getElem?_range hi]; rfl
      rw [e5]
      refine ⟨a, rfl, ?_, (hF i hi).1⟩
      have := World.block_lt_of_cell? w _ ((hF i hi).1 0 _ rfl)
      rwa [add_block, add_block] at this
    · obtain ⟨i, hi, rfl⟩ := List.mem_map.1 hs
      exact (hF i (List.mem_range.1 hi)).2
end Go.Proofs.Ytmjkdfjfjidekaa
