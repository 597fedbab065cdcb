/- What a fact on what is done needs (for wp_region_inv), in any layer. -/
import Derived.Test.YtdobghhjlfffpaaGV
import Derived.Test.YtdobghhjlfffpaaGN
namespace Go.Proofs.Ytdobghhjlfffpaa
open Go Go.RowKit Go.Sort
set_option linter.unusedVariables false
theorem ls_set {listed : Array Bool} {i : Nat} (hi : i < listed.size) (k : Nat) : (listed.setIfInBounds i true).getD k false = if k = i then true else listed.getD k false := by
  by_cases e : k = i
  · subst e; rw [if_pos rfl]; simp [hi]
  · rw [if_neg e, getD_set_ne false (by omega)]
theorem put_getD {a : Act} {d : Nat} (v : Value) (hd : d < a.tmps.size) (k : Nat) : (a.put (some d) v).tmps.getD k undef = if k = d then v else a.tmps.getD k undef := by
  show (a.tmps.setIfInBounds d v).getD k undef = _
  by_cases e : k = d
  · subst e; rw [if_pos rfl]; simp [hd]
  · rw [if_neg e]; simp [Array.getD_eq_getD_getElem?, Ne.symm e]
theorem put_size (a : Act) (d : Nat) (v : Value) : (a.put (some d) v).tmps.size = a.tmps.size := by
  show (a.tmps.setIfInBounds d v).size = _
  simp
theorem put_dfs (a : Act) (d : Nat) (v : Value) : (a.put (some d) v).defers = a.defers := rfl
theorem cnt_set' {listed : Array Bool} {i : Nat} (h0 : listed.getD i true = false) : (listed.setIfInBounds i true).toList.count false + 1 = listed.toList.count false := by
  rw [Array.toList_setIfInBounds]
  refine cnt_down ?_
  unfold Array.getD at h0
  split at h0
  · rename_i h; rw [Array.getElem?_toList, Array.getElem?_eq_getElem h]; simpa using h0
  · cases h0
theorem cnt_le' (listed : Array Bool) : listed.toList.count false ≤ listed.size := by
  rw [← Array.length_toList]; exact List.count_le_length
theorem wpOp_of {ops : Array Oper} {Q : Exit → Act → World → Prop} {i : Nat} {K : Act → World → Prop} {a : Act} {w : World} {o : Oper} (ho : ops[i]? = some o) (hg : o.guard = none) (h : o.wp Try.prog a w K Q) : wpOp Try.prog ops Q i K a w := by
  unfold wpOp
  rw [ho]
  simp only [Region.wanted, hg, if_true]
  exact .inl h
theorem rep_getD (n i : Nat) : (Array.replicate n false).getD i false = false := by
  unfold Array.getD
  split <;> simp
end Go.Proofs.Ytdobghhjlfffpaa
