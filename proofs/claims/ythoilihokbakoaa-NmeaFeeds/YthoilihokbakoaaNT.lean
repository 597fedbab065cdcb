/- Rows of texts appended to rows of texts. -/
import Derived.Test.YthoilihokbakoaaNB
import Derived.Maps.AppendAt
namespace Go.Proofs.Ythoilihokbakoaa
open Go Go.RowKit
theorem SU_one (ts : List (List UInt8)) : ∀ u ∈ SU ts, u.oneCell' = true := fun u hu => by
  unfold SU at hu
  obtain ⟨t, _, rfl⟩ := List.mem_map.1 hu
  rfl
theorem OwT.one (w : World) (B : Nat) (y : ByteArray) (t : List UInt8) (hy : y = tx t) (hB : B ≤ w.heap.size) : OwT (w.alloc (.cells #[.string y] 9)) B (.slice (some ⟨w.heap.size, 0, none⟩) 1 1) [t] :=
  ⟨by simp [SU], .inr ⟨w.heap.size, 1, #[.string y], rfl, hB, heap_alloc_new w _, Nat.le_refl _, by unfold maxLen; omega, rfl, by rw [hy]; rfl⟩⟩
theorem OwT.drewN {w : World} {B : Nat} {v : Value} {ts : List (List UInt8)} (h : OwT w B v ts) (m : Nat) : OwT (w.drewN m) B v ts := h.below (below_drewN (Below.refl _ _) m) (Nat.le_refl _)
theorem run_appTs (t : TypeId) (ty : TypeId) (ht : Try.prog.underlying t = some (.slice 9)) (w : World) (B C : Nat) (v xv : Value) (ts ys : List (List UInt8)) (hown : OwT w B v ts) (hx : OwT w C xv ys) (hl : ts.length + ys.length ≤ 8000000) (hbase : B ≤ w.heap.size) :
    ∃ v' w', (Builtin.append_ #[t, t] ty #[v, xv]).run Try.prog w = .ok v' w' ∧ OwT w' B v' (ts ++ ys) ∧ w.grownBy w' v.ownBlock ∧ (v'.ownBlock = v.ownBlock ∨ v'.ownBlock = some w.heap.size) := by
  obtain ⟨i0, hi, hz0, hz1, hz2⟩ := info9_parts
  rcases hx.2 with ⟨rfl, h0⟩ | ⟨g, cap, cur, rfl, h2, h3, h4, h5, h6, h7⟩
  · have hy : ys = [] := List.length_eq_zero_iff.1 h0
    subst hy
    have hrun := run_append_owned_none (P := Try.prog) (w := w) B t ty 9 i0 1 ht hi v ts.length (SU ts) hown
    exact ⟨v, w, hrun, by simpa using hown, ⟨rfl, rfl, rfl, Nat.le_refl _, fun _ _ _ => rfl⟩, .inl rfl⟩
  · have hn : ∀ j u, (SU ys)[j]? = some u → w.cell? ((⟨g, 0, none⟩ : Addr).add j) = some u := fun j u hu => by
      have hj : j < (SU ys).length := by
        rcases Nat.lt_or_ge j (SU ys).length with h | h
        · exact h
        · rw [List.getElem?_eq_none h] at hu; cases hu
      rw [SU_len] at hj
      rw [add_own, cell_of_row w g j cur 9 (0, 0) h3]
      rw [← h7, List.getElem?_take_of_lt (by omega)] at hu
      simpa using hu
    obtain ⟨v', w', hr, k2, k3, _, k5⟩ := run_append_own_at (P := Try.prog) w B t ty 9 i0 (.string ⟨#[]⟩) 1 16 ht hi hz0 hz1 hz2 rfl (by decide) v ts.length (SU ts) hown ⟨g, 0, none⟩ ys.length cap (SU ys) (by rw [SU_len]; omega) hn (SU_one ys) (by unfold maxLen; omega) (by omega) hbase
    refine ⟨v', w', hr, ?_, k3, k5⟩
    show World.ownsRow _ _ _ _ _ _ _
    rw [SU_app, List.length_append]
    exact k2
theorem wp_appTs {w : World} {o : Oper} {a : Act} {K : Act → World → Prop} {Q : Exit → Act → World → Prop} (s x : Operand) (t : TypeId)
    (ho : o.op = .call { callee := .builtin .append, args := #[s, x], argTypes := #[t, t] }) (ht : Try.prog.underlying t = some (.slice 9))
    (B C : Nat) (v xv : Value) (ts ys : List (List UInt8)) (hs : a.eval s = v) (hx : a.eval x = xv) (hown : OwT w B v ts) (hxv : OwT w C xv ys) (hl : ts.length + ys.length ≤ 8000000) (hbase : B ≤ w.heap.size)
    (h : ∀ v' w', OwT w' B v' (ts ++ ys) → w.grownBy w' v.ownBlock → (v'.ownBlock = v.ownBlock ∨ v'.ownBlock = some w.heap.size) → K (a.put o.dst v') w') : o.wp Try.prog a w K Q := by
  obtain ⟨v', w', hr, h2, h3, h4⟩ := run_appTs t o.type ht w B C v xv ts ys hown hxv hl hbase
  unfold Oper.wp execOp
  simp only [ho, resolve, invoke, builtin, Sem.run_bind, Sem.run_pure, Result.andThen_ok, List.map_toArray, List.map_cons, List.map_nil, hs, hx, hr]
  exact h v' w' h2 h3 h4
theorem wpList_appTs {w : World} {ops : Array Oper} {rest : List Oper} {o : Oper} {a : Act} {Q : Exit → Act → World → Prop} (hgd : o.guard = none) (s x : Operand) (t : TypeId)
    (ho : o.op = .call { callee := .builtin .append, args := #[s, x], argTypes := #[t, t] }) (ht : Try.prog.underlying t = some (.slice 9))
    (B C : Nat) (v xv : Value) (ts ys : List (List UInt8)) (hs : a.eval s = v) (hx : a.eval x = xv) (hown : OwT w B v ts) (hxv : OwT w C xv ys) (hl : ts.length + ys.length ≤ 8000000) (hbase : B ≤ w.heap.size)
    (h : ∀ v' w', OwT w' B v' (ts ++ ys) → w.grownBy w' v.ownBlock → (v'.ownBlock = v.ownBlock ∨ v'.ownBlock = some w.heap.size) → wpList Try.prog ops Q rest (a.put o.dst v') w') : wpList Try.prog ops Q (o :: rest) a w :=
  wpList_plain hgd fun _ hK => wp_appTs s x t ho ht B C v xv ts ys hs hx hown hxv hl hbase fun v' w' h2 h3 h4 => hK _ _ (h v' w' h2 h3 h4)
theorem step_appTs {w : World} {ops : Array Oper} {o : Oper} {a : Act} {K : Act → World → Prop} {Q : Exit → Act → World → Prop} {E : Prop} (hgd : o.guard = none) (s x : Operand) (t : TypeId)
    (ho : o.op = .call { callee := .builtin .append, args := #[s, x], argTypes := #[t, t] }) (ht : Try.prog.underlying t = some (.slice 9))
    (B C : Nat) (v xv : Value) (ts ys : List (List UInt8)) (hs : a.eval s = v) (hx : a.eval x = xv) (hown : OwT w B v ts) (hxv : OwT w C xv ys) (hl : ts.length + ys.length ≤ 8000000) (hbase : B ≤ w.heap.size)
    (h : ∀ v' w', OwT w' B v' (ts ++ ys) → w.grownBy w' v.ownBlock → (v'.ownBlock = v.ownBlock ∨ v'.ownBlock = some w.heap.size) → K (a.put o.dst v') w') :
    if Region.wanted o (yielded ops a.tmps) = true then Oper.wp Try.prog o a w K Q else E := by
  have hw : Region.wanted o (yielded ops a.tmps) = true := by simp [Region.wanted, hgd]
  rw [if_pos hw]
  exact wp_appTs s x t ho ht B C v xv ts ys hs hx hown hxv hl hbase h

end Go.Proofs.Ythoilihokbakoaa
