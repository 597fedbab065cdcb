/- The reference's Decode: the law: a field is appended. -/
import Derived.Test.YtdobghhjlfffpaaYKb
namespace Go.Proofs.Ytdobghhjlfffpaa
open Go Go.RowKit Go.Sort
set_option linter.unusedVariables false
theorem x_region {Q : Exit → Act → World → Prop} {a0 : Act} {w wr : World} {S sB sC : Value} {NI TY : Int} {ea : Option Addr} {en ec : Nat} {xs : List Xt} {dat : List Int} {cs : Array Value} {ops : Array Oper} {id : Nat} (hop : ops = xOps Try.f18) (h0 : X0 a0 w { wr with drawn := wr.drawn + 1 } S sB sC NI TY ea en ec xs dat cs)
    (hend : ∀ a' u, a'.tmps.size = 160 → a'.defers = a0.defers → (∀ j, j < 120 ∨ 133 < j → a'.tmps.getD j undef = a0.tmps.getD j undef) → (∃ dv ea8 en8 ec8, PC w u (cs.setIfInBounds 13 (.slice ea8 en8 ec8)) ∧ OX u (w.heap.size + 3) (.slice ea8 en8 ec8) (xs ++ [⟨TY, dv, dat⟩])) → Q .normal a' u) : (Code.region id ops true).wp Try.prog Q a0 wr := by
  subst hop
  refine wp_region_inv rfl ?_ (fun listed a w' => XI a0 w { wr with drawn := wr.drawn + 1 } S sB sC NI TY ea en ec xs dat cs listed a w' ∧ Cls (xOps Try.f18).toList listed) ?_ ?_ ?_
  · intro i o ho e he hb
    have hi : i < 15 := by
      rcases Nat.lt_or_ge i 15 with h | h
      · exact h
      · rw [Array.getElem?_eq_none (by rw [x_size]; exact h)] at ho; cases ho
    rw [x_at i hi] at ho
    injection ho with ho
    subst ho
    have := (Array.all_eq_true_iff_forall_mem.1 (List.all_eq_true.1 x_fw i (List.mem_range.2 hi))) e he
    rw [hb] at this
    have h2 : e.on + 1 ≤ i := by simpa using this
    omega
  · refine ⟨⟨h0.sz, rfl, fun _ _ => rfl, fun i v _ h => ?_, fun _ => ⟨rfl, rep_getD _ _, rep_getD _ _, rep_getD _ _, rep_getD _ _⟩, fun h => ?_, fun h => ?_, fun h => ?_, fun h => ?_⟩, cls_none _ _⟩
    all_goals (rw [rep_getD] at h; cases h)
  · intro listed a w' i o hs hI hn ho hall
    have hs' : listed.size = (xOps Try.f18).toList.length := by rw [Array.length_toList]; exact hs
    refine wpOp_mono (fun a' w'' h => ⟨h, ?_⟩) (x_step h0 listed a w' i o hs hI.1 hI.2 hn ho hall)
    exact hI.2.set hs' (by rw [Array.getElem?_toList]; exact ho) hall
  · intro listed a w' hI hall
    rw [x_size] at hall
    exact hend a w' hI.1.size hI.1.dfs hI.1.kept (hI.1.s4 (hall 14 (by omega)))
end Go.Proofs.Ytdobghhjlfffpaa
