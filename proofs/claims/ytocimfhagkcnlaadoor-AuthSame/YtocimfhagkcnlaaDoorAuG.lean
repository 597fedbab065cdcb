/- Auth: what lent of the laws' package of layer 4 returns. -/
import Derived.Test.YtocimfhagkcnlaaDoorAuE
namespace Go.Proofs.YtocimfhagkcnlaaDoor
open Go Go.RowKit Go.Sort
set_option linter.unusedVariables false
theorem own_form {w : World} {B : Nat} {v : Value} {bs : List Int} (h : Own w B v bs) (h0 : 0 < bs.length) : ∃ g cap, v = .slice (some ⟨g, 0, none⟩) bs.length cap ∧ B ≤ g ∧ g < w.heap.size ∧ bs.length ≤ cap := by
  rcases h.2 with ⟨h1, h2⟩ | ⟨g, cap, cur, h1, h2, h3, h4, _⟩
  · omega
  · refine ⟨g, cap, h1, h2, ?_, h4⟩
    rcases Nat.lt_or_ge g w.heap.size with q | q
    · exact q
    · rw [Array.getElem?_eq_none q] at h3; cases h3
theorem run_app8w (t : TypeId) (ty : TypeId) (ht : Tryd.prog.underlying t = some (.slice 5)) (w : World) (B N : Nat) (v xv : Value) (bs cs : List Int) (hown : Own w B v bs) (hx : Sv N w xv cs) (hl : bs.length + cs.length ≤ 140737488355328) (hbase : B ≤ w.heap.size) :
    ∃ v' w', (Builtin.append_ #[t, t] ty #[v, xv]).run Tryd.prog w = .ok v' w' ∧ Own w' B v' (bs ++ cs) ∧ w.grownBy w' v.ownBlock ∧ (v'.ownBlock = v.ownBlock ∨ v'.ownBlock = some w.heap.size) := by
  obtain ⟨i0, hi, hz0, hz1, hz2⟩ := info5_parts
  obtain ⟨ao, cap, rfl, h2, h3, h4, h5⟩ := hx
  rcases ao with _ | ad
  · have hc0 := h3 rfl
    have hl0 : cs = [] := List.length_eq_zero_iff.1 (by omega)
    subst hl0 hc0
    have hrun := run_append_owned_none (P := Tryd.prog) (w := w) B t ty 5 i0 1 ht hi v bs.length (U bs) hown
    exact ⟨v, w, hrun, by simpa using hown, ⟨rfl, rfl, rfl, Nat.le_refl _, fun _ _ _ => rfl⟩, .inl rfl⟩
  · obtain ⟨v', w', hr, k2, k3, _, k5⟩ := run_append_own_at (P := Tryd.prog) w B t ty 5 i0 (.int .u8 0) 1 1 ht hi hz0 hz1 hz2 rfl (by decide) v bs.length (U bs) hown ad cs.length cap (U cs) (by rw [U_len]; omega) h4.news (U_one cs) (by unfold maxLen; omega) (by omega) hbase
    refine ⟨v', w', hr, ?_, k3, k5⟩
    show World.ownsRow _ _ _ _ _ _ _
    rw [U_app, List.length_append]
    exact k2
theorem wp_app8w {w : World} {o : Oper} {a : Act} {K : Act → World → Prop} {Q : Exit → Act → World → Prop} (s x : Operand) (t : TypeId)
    (ho : o.op = .call { callee := .builtin .append, args := #[s, x], argTypes := #[t, t] }) (ht : Tryd.prog.underlying t = some (.slice 5))
    (B N : Nat) (v xv : Value) (bs cs : List Int) (hs : a.eval s = v) (hx : a.eval x = xv) (hown : Own w B v bs) (hxv : Sv N w xv cs) (hl : bs.length + cs.length ≤ 140737488355328) (hbase : B ≤ w.heap.size)
    (h : ∀ v' w', Own w' B v' (bs ++ cs) → w.grownBy w' v.ownBlock → (v'.ownBlock = v.ownBlock ∨ v'.ownBlock = some w.heap.size) → K (a.put o.dst v') w') : o.wp Tryd.prog a w K Q := by
  obtain ⟨v', w', hr, h2, h3, h4⟩ := run_app8w t o.type ht w B N v xv bs cs hown hxv hl hbase
  unfold Oper.wp execOp
  simp only [ho, resolve, invoke, builtin, Sem.run_bind, Sem.run_pure, Result.andThen_ok, List.map_toArray, List.map_cons, List.map_nil, hs, hx, hr]
  exact h v' w' h2 h3 h4
theorem wpList_app8w {w : World} {ops : Array Oper} {rest : List Oper} {o : Oper} {a : Act} {Q : Exit → Act → World → Prop} (hgd : o.guard = none) (s x : Operand) (t : TypeId)
    (ho : o.op = .call { callee := .builtin .append, args := #[s, x], argTypes := #[t, t] }) (ht : Tryd.prog.underlying t = some (.slice 5))
    (B N : Nat) (v xv : Value) (bs cs : List Int) (hs : a.eval s = v) (hx : a.eval x = xv) (hown : Own w B v bs) (hxv : Sv N w xv cs) (hl : bs.length + cs.length ≤ 140737488355328) (hbase : B ≤ w.heap.size)
    (h : ∀ v' w', Own w' B v' (bs ++ cs) → w.grownBy w' v.ownBlock → (v'.ownBlock = v.ownBlock ∨ v'.ownBlock = some w.heap.size) → wpList Tryd.prog ops Q rest (a.put o.dst v') w') : wpList Tryd.prog ops Q (o :: rest) a w :=
  wpList_plain hgd fun _ hK => wp_app8w s x t ho ht B N v xv bs cs hs hx hown hxv hl hbase fun v' w' h2 h3 h4 => hK _ _ (h v' w' h2 h3 h4)
set_option maxRecDepth 20000 in
set_option maxHeartbeats 1000000 in
theorem lent04_any (N : Nat) (v : Value) (bs : List Int) (w : World) (hl : bs.length ≤ 140737488355327) (h : Sv N w v bs) (hN : N ≤ w.heap.size) :
    Calls Tryd.prog 9 #[v] w fun e w' => ∃ g cap, e = .returned (.slice (some ⟨g, 0, none⟩) bs.length cap) ∧ bs.length + 1 ≤ cap ∧ Hid (Own w' w.heap.size (.slice (some ⟨g, 0, none⟩) (bs.length + 1) cap) (bs ++ [167]) ∧ Below w.heap.size w w') := by
  have H : Hid (Sv N w v bs) := h
  have HL : Hid (bs.length ≤ 140737488355327) := hl
  obtain ⟨ao, c0, hv, _⟩ := h
  obtain ⟨n, hn⟩ : ∃ n, bs.length = n := ⟨_, rfl⟩
  have HNn : Hid (bs.length = n) := hn
  rw [hn] at hv ⊢
  subst hv
  clear hl hn
  go_enter Tryd.func9, Tryd.ntmps9
  refine post_hid fun Q hQ => ?_
  go_wp2_with (first
    | (at_builtin; refine wpList_app8w (by rfl) _ _ 23 (by rfl) Tryd.underlying23 w.heap.size N (.slice none 0 0) (.slice ao n c0) [] bs (by rfl) (by rfl) (Own.nil _ _) H.out (by have := HL.out; simp; omega) (Nat.le_refl _) ?_; intro v1 w1 ho hg hat; have HO : Hid (Own w1 w.heap.size v1 bs ∧ Below w.heap.size w w1) := ⟨by simpa using ho, (Below.refl _ _).grown hg (Nat.le_refl _) (fun k e => by simp [Value.ownBlock] at e)⟩; clear ho hg hat)
    | (at_builtin; refine wpList_app8w (by rfl) _ _ 23 (by rfl) Tryd.underlying23 w.heap.size (w1.heap.size + 1) v1 _ bs [167] (by rfl) (by rfl) (World.ownsRow.alloc HO.out.1 _) (Sv.one w1 167 (by decide) (by decide)) (by have := HL.out; simp; omega) (Nat.le_trans HO.out.2.size (by simp)) ?_; intro v2 w2 ho hg hat; have HO2 : Hid (Own w2 w.heap.size v2 (bs ++ [167]) ∧ Below w.heap.size w w2) := ⟨ho, (HO.out.2.alloc HO.out.2.size _).grown hg (Nat.le_trans HO.out.2.size (by simp)) (fun k e => own_lt' HO.out.1 k e)⟩; clear ho hg hat; obtain ⟨g, cp, hv2, _, _, hcp⟩ := own_form HO2.out.1 (by simp); rw [List.length_append, List.length_singleton, HNn.out] at hv2 hcp; subst hv2; have hcp2 : n ≤ cp := (by omega); have hcp3 : (n : Int) ≤ cp := (by omega)))
  rw [hQ.out]
  go_ret
  exact ⟨g, cp, rfl, hcp, HO2.out⟩
end Go.Proofs.YtocimfhagkcnlaaDoor
