/- Auth: arguments of bytes, opened; the table of SHA's constants, from the row's own condition. -/
import Derived.Test.YtocimfhagkcnlaaDoorRows
import Derived.Test.YtocimfhagkcnlaaDoorAW
import Derived.Test.YtocimfhagkcnlaaDoorAC
import Derived.ProofKit
import Derived.OpenShut
import Derived.Deep.Fields
import Derived.Lib.LaidTab
import Derived.LaidSub
namespace Go.Proofs.YtocimfhagkcnlaaDoor
open Go.ChangeShapes Go.WideShapes Go.ChangeAt Go.RowKit Go.Deep
set_option linter.unusedVariables false
theorem u8_wf {n : Int} (h : (Lit.int .u8 n).wf = true) : 0 ≤ n ∧ n < 256 := by
  have e1 : IntKind.u8.min = 0 := by decide
  have e2 : IntKind.u8.max = 255 := by decide
  simp [Lit.wf, e1, e2] at h
  omega
theorem bulk_lits {H : Type} (k : IntKind) (l : List Int) : l.length ≤ Rows.uptoBulkAll (lits (H := H) k l) := by
  induction l with
  | nil => simp
  | cons a l ih =>
    show l.length + 1 ≤ Rows.uptoBulk (DataW.lit (.int k a) : DataW H) + Rows.uptoBulkAll (lits (H := H) k l)
    have e : Rows.uptoBulk (DataW.lit (.int k a) : DataW H) = 1 := by simp [Rows.uptoBulk]
    omega
theorem open_u8b {H : Type} {enc : TypeId × Value → H} {w : World} {base : Nat} {spare : Nat → Bool} {held : Bool} {t : TypeId} {fuel : Nat} {c : Value} {x : DataW H × List MemPlace} (ht : Tryd.prog.underlying t = some (.slice 5))
    (h : DataW.trod enc Tryd.prog w base spare held fuel t [c] = some x) : ∃ bs, Sv w.heap.size w c bs ∧ bs.length ≤ Rows.uptoBulk x.1 := by
  rcases open_ints ht Tryd.underlying5 (by kernel_rfl) h with ⟨hcs, _⟩ | ⟨a, len, cap, zs, hcs, _, hl, hm, hz, hx, hcell, hwz⟩
  · simp at hcs
    exact ⟨[], by rw [hcs]; exact Sv.nil _ _, by simp⟩
  · simp at hcs
    have hzl : len ≤ zs.length := by rw [hz]; split <;> omega
    have hbl : (zs.take len).length = len := by rw [List.length_take]; omega
    refine ⟨zs.take len, ⟨some a, cap, by rw [hbl]; exact hcs, by rw [hbl]; exact hl, by simp, fun k hk => ?_, fun b hb => u8_wf (hwz b (List.mem_of_mem_take hb))⟩, ?_⟩
    · rw [hbl] at hk
      have hc := hcell k (by omega)
      refine ⟨a, rfl, ?_, ?_⟩
      · have := World.block_lt_of_cell? w _ hc
        rwa [add_block] at this
      · rw [hc, List.getD_eq_getElem?_getD, List.getD_eq_getElem?_getD, List.getElem?_take_of_lt hk]
    · rw [hx]
      have := bulk_lits (H := H) .u8 (zs.take len)
      simp only [Rows.uptoBulk]
      omega
theorem open_u8r {H : Type} {enc : TypeId × Value → H} {w : World} {base : Nat} {spare : Nat → Bool} {held : Bool} {t : TypeId} {fuel : Nat} {c : Value} {x : DataW H × List MemPlace} (ht : Tryd.prog.underlying t = some (.slice 5))
    (h : DataW.trod enc Tryd.prog w base spare held fuel t [c] = some x) : ∃ bs, Sv w.heap.size w c bs ∧ (∀ K, (∀ n ∈ x.1.weights Tryd.prog t, n ≤ K) → bs.length ≤ K) := by
  rcases open_ints ht Tryd.underlying5 (by kernel_rfl) h with ⟨hcs, _⟩ | ⟨a, len, cap, zs, hcs, _, hl, hm, hz, hx, hcell, hwz⟩
  · simp at hcs
    exact ⟨[], by rw [hcs]; exact Sv.nil _ _, by simp⟩
  · simp at hcs
    have hzl : len ≤ zs.length := by rw [hz]; split <;> omega
    have hbl : (zs.take len).length = len := by rw [List.length_take]; omega
    have hb1 : Tryd.prog.bytesOf 5 = 1 := by kernel_rfl
    refine ⟨zs.take len, ⟨some a, cap, by rw [hbl]; exact hcs, by rw [hbl]; exact hl, by simp, fun k hk => ?_, fun b hb => u8_wf (hwz b (List.mem_of_mem_take hb))⟩, fun K hK => ?_⟩
    · rw [hbl] at hk
      have hc := hcell k (by omega)
      refine ⟨a, rfl, ?_, ?_⟩
      · have := World.block_lt_of_cell? w _ hc
        rwa [add_block] at this
      · rw [hc, List.getD_eq_getElem?_getD, List.getD_eq_getElem?_getD, List.getElem?_take_of_lt hk]
    · have h1 := hK ((len + (zs.length - len)) * Tryd.prog.bytesOf 5) (by rw [hx]; simp [DataW.weights, ht, lits, Nat.min_eq_left hzl])
      rw [hb1] at h1
      rw [hbl]
      omega
theorem gTab : Tryd.prog.globalNamed "foliot/auth.shaRounds" = some 0 := by kernel_rfl
theorem gTabType : (Tryd.prog.globals[0]?).map (·.type) = some 87 := by kernel_rfl
theorem kt_laid {W : World} (h : laidMetH Tryd.prog Rows.authSameUptoRow.laid W) : Kt W := by
  have h2 := h.filter (fun x => x.1 == "foliot/auth.shaRounds")
  have ht : Lib.TabIs Tryd.prog W "foliot/auth.shaRounds" .u32 kT := Lib.tabIs_of_head (rest := []) gTab gTabType Tryd.underlying87 Tryd.underlying47 (by kernel_rfl) (by kernel_rfl) h2
  have hc := fun i hi => ht.cell gTab i hi
  have hl : kT.length = 64 := by kernel_rfl
  rw [hl] at hc
  exact ⟨World.block_lt_of_cell? W _ (hc 0 (by decide)), hc⟩
end Go.Proofs.YtocimfhagkcnlaaDoor
