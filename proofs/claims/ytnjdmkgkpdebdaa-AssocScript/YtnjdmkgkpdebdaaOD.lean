/- assoc: the reference's Add. -/
import Derived.Test.YtnjdmkgkpdebdaaOC
namespace Go.Proofs.Ytnjdmkgkpdebdaa
open Go Go.RowKit Go.Sort
set_option linter.unusedVariables false
def raE (l : List Mb) (a : As) (par : Int) : Int := if par ≠ 0 ∧ idM par l = none then 121 else if l.any (fun m => clB m.ac a) = true then 53 else if 16 ≤ l.length then 120 else 0
/-- the least number that none has -/
structure Lf (l : List Mb) (F : Nat) : Prop where
  one : 1 ≤ F
  top : F ≤ 16
  free : idM (F : Int) l = none
  least : ∀ j : Nat, 1 ≤ j → j < F → idM (j : Int) l ≠ none
def lowR (l : List Mb) (F : Int) : List Mb := l.filter (fun m => decide (m.id < F))
def topR (l : List Mb) (F : Int) : List Mb := l.filter (fun m => decide (F < m.id))
def raM (F : Int) (a : As) (par now : Int) : Mb := ⟨0, F, a, par, enI a par now, 0⟩
theorem idF_neg (id : Int) (l : List Mb) : idF id l 0 < 0 ↔ idM id l = none := by
  rcases idF_at id l 0 with ⟨h1, h2⟩ | ⟨i, m, h1, h2, h3, _⟩
  · rw [h1, h2]; simp
  · rw [h1, h3]
    simp
theorem run_buildEr (id par : Int) (a : As) (w : World) : (Instr.build 81 #[(0, .int .i64 id), (1, .agg (asL a).toArray), (2, .int .i64 par)]).run Try.prog w = .ok (.agg (enL ⟨0, id, a, par, 0, 0⟩).toArray) w := by
  kernel_rfl
theorem run_buildRw (m : Mb) (hz : m.hops = 0) (w : World) : (Instr.build 83 #[(0, .agg (enL m).toArray)]).run Try.prog w = .ok (.agg (mbL m).toArray) w := by
  obtain ⟨b, id, a, par, ends, hops⟩ := m
  subst hz
  kernel_rfl
/-- what Add has beside the table: the box of a -/
structure Ra2 (w W : World) (d B : Nat) (l : List Mb) (g : Nat) (a : As) : Prop where
  rt : Rt W d B l
  bx : Bk g W (asL a).toArray 41
  be : Below w.heap.size w W
  hg : w.heap.size ≤ g
theorem Ra2.below {w W W' : World} {d B g : Nat} {l : List Mb} {a : As} (h : Ra2 w W d B l g a) (hb : Below W.heap.size W W') : Ra2 w W' d B l g a := ⟨h.rt.below hb, h.bx.kept (hb.block _ h.bx.lt), below_thru h.be hb, h.hg⟩
theorem as_in {w : World} {g : Nat} {m : Mb} (h : Bk g w (mbL m).toArray 83) : ∀ j u, (asL m.ac)[j]? = some u → w.cell? ((⟨g, 1, none⟩ : Addr).add j) = some u := by
  intro j u hu
  rw [own_add, h.cell, Nat.add_comm]
  have hj : j < 12 := by
    rcases Nat.lt_or_ge j 12 with h | h
    · exact h
    · rw [List.getElem?_eq_none (by simpa [asL] using h)] at hu; cases hu
  rcases (show j = 0 ∨ j = 1 ∨ j = 2 ∨ j = 3 ∨ j = 4 ∨ j = 5 ∨ j = 6 ∨ j = 7 ∨ j = 8 ∨ j = 9 ∨ j = 10 ∨ j = 11 by omega) with rfl | rfl | rfl | rfl | rfl | rfl | rfl | rfl | rfl | rfl | rfl | rfl <;> simpa [asL, mbL] using hu
end Go.Proofs.Ytnjdmkgkpdebdaa
