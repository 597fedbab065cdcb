/- assoc: the reference's New. -/
import Derived.Test.YtnjdmkgkpdebdaaOR2
import Derived.Test.YtnjdmkgkpdebdaaOP
namespace Go.Proofs.Ytnjdmkgkpdebdaa
open Go Go.RowKit Go.Sort
set_option linter.unusedVariables false
/-- the rows of a configuration -/
def rnL (xs : List As) : List Mb := rowsOf (tbL xs fun _ => 0)
theorem rows_none : ∀ ms : List (Option Mb), (∀ x ∈ ms, x = none) → rowsOf ms = []
  | [], _ => rfl
  | x :: t, h => by
    have := h x (by simp)
    subst this
    exact rows_none t fun x hx => h x (by simp [hx])
theorem rn_step (xs : List As) (k : Nat) (a : As) (hk : k < 16) (ha : xs[k]? = some a) : rnL (xs.take (k + 1)) = rnL (xs.take k) ++ [⟨0, (k : Int) + 1, a, 0, 0, 0⟩] := by
  unfold rnL
  have e := tb_set xs (fun _ => 0) k 0 a hk ha
  have e2 : (fun i => if i = k then 0 else (fun _ : Nat => 0) i) = (fun _ : Nat => 0) := by funext i; simp
  rw [e2] at e
  rw [← e, rows_cut _ k (by rw [tb_len]; exact hk)]
  have hd : rowsOf ((tbL (xs.take k) fun _ => 0).drop (k + 1)) = [] := rows_none _ fun x hx => by
    obtain ⟨j, hj⟩ := List.getElem?_of_mem hx
    rw [List.getElem?_drop] at hj
    have hlt : k + 1 + j < 16 := by
      rcases Nat.lt_or_ge (k + 1 + j) 16 with h | h
      · exact h
      · rw [List.getElem?_eq_none (by rw [tb_len]; exact h)] at hj; cases hj
    rw [tb_at _ _ _ hlt, List.getElem?_take_eq_none (by omega)] at hj
    exact (Option.some.inj hj).symm
  have hh : rowsOf (tbL (xs.take k) fun _ => 0) = rowsOf ((tbL (xs.take k) fun _ => 0).take k) := by
    have h0 : (tbL (xs.take k) fun _ => 0)[k]? = some none := by
      rw [tb_at _ _ k hk, List.getElem?_take_eq_none (Nat.le_refl _)]; rfl
    have := rows_here _ k h0
    rw [hd, List.append_nil] at this
    exact this
  rw [hd, List.append_nil, ← hh]
  rfl
theorem rn_any (xs : List As) (k : Nat) (hl : (xs.take k).length ≤ 16) (a : As) : (rnL (xs.take k)).any (fun m => clB m.ac a) = (xs.take k).any (fun b => clB b a) := by
  unfold rnL
  rw [kn_any, kn_tb _ _ _ hl]
  intro i m hm
  obtain ⟨_, b, _, rfl⟩ := tb_some hm
  simp
theorem rn_len (xs : List As) : (rnL xs).length ≤ 16 := by
  have := rows_len (tbL xs fun _ => 0)
  rw [tb_len] at this
  exact this
/-- the law: a row is appended -/
theorem ap_region {Q : Exit → Act → World → Prop} {a0 : Act} {w : World} {d ga B : Nat} {V : Value} {rows : List (List Value)} {k : Int} {c : As} {ops : Array Oper} {id : Nat} (hop : ops = (apOps Try.f9)) (hsz : a0.tmps.size = 54) (h0 : Ap0 a0 { w with drawn := w.drawn + 1 } d ga B V rows k c)
    (hend : ∀ a' w', a'.tmps.size = 54 → a'.defers = a0.defers → (∀ j, j < 38 ∨ 51 < j → a'.tmps.getD j undef = a0.tmps.getD j undef) → (∃ v', Bk d w' #[v'] 80 ∧ OR w' B 83 16 v' (rows ++ [mbL ⟨0, k + 1, c, 0, 0, 0⟩]) ∧ (∀ b, v'.ownBlock = some b → b ≠ d)) → Below B w w' → Q .normal a' w') : (Code.region id ops true).wp Try.prog Q a0 w := by
  subst hop
  refine wp_region_inv rfl ?_ (fun listed a w' => ApI a0 { w with drawn := w.drawn + 1 } d ga B V rows k c listed a w' ∧ Cls (apOps Try.f9).toList listed) ?_ ?_ ?_
  · intro i o ho e he hb
    have hi : i < 15 := by
      rcases Nat.lt_or_ge i 15 with h | h
      · exact h
      · rw [Array.getElem?_eq_none (by rw [ap_size]; exact h)] at ho; cases ho
    rw [ap_at i hi] at ho
    injection ho with ho
    subst ho
    have := (Array.all_eq_true_iff_forall_mem.1 (List.all_eq_true.1 ap_fw i (List.mem_range.2 hi))) e he
    rw [hb] at this
    have h2 : e.on + 1 ≤ i := by simpa using this
    omega
  · refine ⟨⟨hsz, rfl, fun _ _ => rfl, fun i v _ h => ?_, fun _ => ⟨rfl, rep_getD _ _, rep_getD _ _⟩, fun h => ?_, fun h => ?_, fun h => ?_⟩, cls_none _ _⟩
    all_goals (rw [rep_getD] at h; cases h)
  · intro listed a w' i o hs hI hn ho hall
    have hs' : listed.size = (apOps Try.f9).toList.length := by rw [Array.length_toList]; exact hs
    refine wpOp_mono (fun a' w'' h => ⟨h, ?_⟩) (ap_step h0 listed a w' i o hs hI.1 hI.2 hn ho hall)
    exact hI.2.set hs' (by rw [Array.getElem?_toList]; exact ho) hall
  · intro listed a w' hI hall
    rw [ap_size] at hall
    obtain ⟨v', b1, b2, b3, b4⟩ := hI.1.s3 (hall 14 (by omega))
    exact hend a w' hI.1.size hI.1.dfs hI.1.kept ⟨v', b1, b2, b4⟩ ⟨b3.os, b3.tape, b3.output, b3.size, b3.block⟩
end Go.Proofs.Ytnjdmkgkpdebdaa
