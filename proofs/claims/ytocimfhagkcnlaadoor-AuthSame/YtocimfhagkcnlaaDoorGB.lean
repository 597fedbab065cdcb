/- Steps that every layer needs: a slice of one element made, appended to a row that the call has made; rows that stay; blocks apart by their types. (Import GB in a new layer.) -/
import Derived.Test.YtocimfhagkcnlaaDoorKL
import Derived.Test.YtocimfhagkcnlaaDoorGW
import Derived.Test.YtocimfhagkcnlaaDoorGQ
namespace Go.Proofs.YtocimfhagkcnlaaDoor
open Go Go.RowKit Go.Sort
set_option linter.unusedVariables false
theorem own_add (g o k : Nat) : (⟨g, o, none⟩ : Addr).add k = ⟨g, o + k, none⟩ := by unfold Addr.add; split <;> simp_all
theorem below_thru {a b c : World} (h : Below a.heap.size a b) (k : Below b.heap.size b c) : Below a.heap.size a c := h.trans (k.mono h.size)
theorem step_bsL {ops : Array Oper} {rest : List Oper} {o : Oper} {a : Act} {w : World} {Q : Exit → Act → World → Prop} (hw : Region.wanted o (yielded ops a.tmps) = true) (ts e : TypeId) (x : Operand) (ho : o.op = .buildSlice ts 1 #[(0, x)]) (xv : Value) (r : List Value) (hx : a.eval x = xv)
    (hrun : ∀ u : World, (Instr.buildSlice ts 1 #[(0, xv)]).run Tryd.prog u = .ok (.slice (some ⟨u.heap.size, 0, none⟩) 1 1) (u.alloc (.cells r.toArray e)))
    (h : ∀ W g, Hid (Nw w W g r.toArray e) → wpList Tryd.prog ops Q rest (a.put o.dst (.slice (some ⟨g, 0, none⟩) 1 1)) W) : wpList Tryd.prog ops Q (o :: rest) a w :=
  wpList_step fun K hK => by
    rw [if_pos hw]
    unfold Oper.wp execOp
    simp only [ho, List.map_toArray, List.map_cons, List.map_nil, hx, Sem.run_bind, Sem.run_pure, hrun w, Result.andThen_ok]
    exact hK _ _ (h _ _ (Nw.mk' w r.toArray e))
theorem Nw.rk {w W : World} {g : Nat} {r : List Value} {e : TypeId} (h : Nw w W g r.toArray e) {k : Nat} (hk : r.length = k) : Rk W.heap.size W k (.slice (some ⟨g, 0, none⟩) 1 1) [r] := by
  refine ⟨some ⟨g, 0, none⟩, 1, rfl, Nat.le_refl _, fun i hi => ⟨_, rfl, h.bk.lt, fun j u hu => ?_⟩⟩
  have e : i = 0 := by simp at hi; exact hi
  subst e
  rw [Nat.zero_mul, Nat.zero_add]
  exact cells_of h.bk j u hu
theorem below_own {W W' : World} {B : Nat} {v : Value} (hg : W.grownBy W' v.ownBlock) (hB : B ≤ W.heap.size) (hv : ∀ b, v.ownBlock = some b → B ≤ b) : Below B W W' :=
  ⟨hg.os, hg.tape, hg.output, hg.size, fun k hk => hg.block k (Nat.lt_of_lt_of_le hk hB) (fun e => by have := hv k e.symm; omega)⟩
theorem OR.own {w : World} {B : Nat} {e : TypeId} {k : Nat} {v : Value} {rows : List (List Value)} (h : OR w B e k v rows) : ∀ b, v.ownBlock = some b → B ≤ b := by
  intro b hb
  rcases h.row.2 with ⟨h1, _⟩ | ⟨g, cap, cur, h1, h2, _⟩
  · rw [h1] at hb; cases hb
  · rw [h1] at hb
    simp only [Value.ownBlock] at hb
    injection hb with hb
    omega
theorem step_apL {t e : TypeId} {k by' : Nat} (T : TI t e k by') {w : World} {ops : Array Oper} {rest : List Oper} {o : Oper} {a : Act} {Q : Exit → Act → World → Prop} (hgd : o.guard = none) (s x : Operand)
    (ho : o.op = .call { callee := .builtin .append, args := #[s, x], argTypes := #[t, t] })
    (B g : Nat) (v : Value) (r : List Value) (hs : a.eval s = v) (hx : a.eval x = .slice (some ⟨g, 0, none⟩) 1 1) (hlen : r.length = k) (h1 : ∀ u ∈ r, u.oneCell' = true) (w0 : World) (rows : List (List Value)) (hl : rows.length + 1 ≤ maxLen) (hby : (rows.length + 1) * by' ≤ 140737488355328) (hown : OR w0 B e k v rows) (hn : Nw w0 w g r.toArray e) (hbase : B ≤ w0.heap.size)
    (h : ∀ v' W, Hid (OR W B e k v' (rows ++ [r]) ∧ Below B w0 W) → wpList Tryd.prog ops Q rest (a.put o.dst v') W) : wpList Tryd.prog ops Q (o :: rest) a w := by
  have hs1 := hn.be.size
  refine wpList_appk T hgd s x ho B w.heap.size v _ rows [r] hs hx (hown.below hn.be (Nat.le_refl _)) (hn.rk hlen) (fun n c hh => by injection hh with hh; cases hh) (fun y hy => by simp at hy; rw [hy]; exact hlen) (fun y hy u hu => by simp at hy; subst hy; exact h1 u hu) hl hby (by omega) fun v' W h2 h3 _ => ?_
  exact h v' W ⟨h2, (hn.be.mono hbase).trans (below_own h3 (by omega) hown.own)⟩
theorem OR.ownlt {w : World} {B : Nat} {e : TypeId} {k : Nat} {v : Value} {rows : List (List Value)} (h : OR w B e k v rows) : ∀ b, v.ownBlock = some b → B ≤ b ∧ b < w.heap.size := by
  intro b hb
  rcases h.row.2 with ⟨h1, _⟩ | ⟨g, cap, cur, h1, h2, h3, _⟩
  · rw [h1] at hb; cases hb
  · rw [h1] at hb
    simp only [Value.ownBlock] at hb
    injection hb with hb
    subst hb
    refine ⟨h2, ?_⟩
    rcases Nat.lt_or_ge g w.heap.size with h | h
    · exact h
    · rw [Array.getElem?_eq_none h] at h3; cases h3
def Dj (v u : Value) : Prop := u.ownBlock = none ∨ u.ownBlock ≠ v.ownBlock
theorem Dj.symm {v u : Value} (h : Dj v u) : Dj u v := by
  unfold Dj at *
  rcases h with h | h
  · cases hv : v.ownBlock with
    | none => exact .inl rfl
    | some b => exact .inr (by rw [h]; simp)
  · exact .inr (Ne.symm h)
theorem step_ap2 {t e e2 : TypeId} {k k2 by' : Nat} (T : TI t e k by') {w : World} {ops : Array Oper} {rest : List Oper} {o : Oper} {a : Act} {Q : Exit → Act → World → Prop} (hgd : o.guard = none) (s x : Operand)
    (ho : o.op = .call { callee := .builtin .append, args := #[s, x], argTypes := #[t, t] })
    (B g : Nat) (v v2 : Value) (r : List Value) (hs : a.eval s = v) (hx : a.eval x = .slice (some ⟨g, 0, none⟩) 1 1) (hlen : r.length = k) (h1 : ∀ u ∈ r, u.oneCell' = true) (w0 : World) (rows rows2 : List (List Value)) (hl : rows.length + 1 ≤ maxLen) (hby : (rows.length + 1) * by' ≤ 140737488355328) (hown : OR w0 B e k v rows) (hown2 : OR w0 B e2 k2 v2 rows2) (hd : Dj v v2) (hn : Nw w0 w g r.toArray e) (hbase : B ≤ w0.heap.size)
    (h : ∀ v' W, Hid (OR W B e k v' (rows ++ [r]) ∧ OR W B e2 k2 v2 rows2 ∧ Dj v' v2 ∧ Below B w0 W) → wpList Tryd.prog ops Q rest (a.put o.dst v') W) : wpList Tryd.prog ops Q (o :: rest) a w := by
  have hs1 := hn.be.size
  refine wpList_appk T hgd s x ho B w.heap.size v _ rows [r] hs hx (hown.below hn.be (Nat.le_refl _)) (hn.rk hlen) (fun n c hh => by injection hh with hh; cases hh) (fun y hy => by simp at hy; rw [hy]; exact hlen) (fun y hy u hu => by simp at hy; subst hy; exact h1 u hu) hl hby (by omega) fun v' W h2 h3 h4 => ?_
  have o2 := hown2.below hn.be (Nat.le_refl _)
  refine h v' W ⟨h2, ⟨o2.row.kept h3 hd, o2.len⟩, ?_, (hn.be.mono hbase).trans (below_own h3 (by omega) hown.own)⟩
  rcases h4 with h4 | h4
  · unfold Dj; rw [h4]; exact hd
  · cases hv : v2.ownBlock with
    | none => exact .inl hv
    | some b =>
      refine .inr ?_
      rw [hv, h4]
      have := (o2.ownlt b hv).2
      intro e
      injection e with e
      omega
theorem OR.one {w W : World} {g B k : Nat} {r : List Value} {e : TypeId} (h : Nw w W g r.toArray e) (hk : r.length = k) (hB : B ≤ w.heap.size) : OR W B e k (.slice (some ⟨g, 0, none⟩) 1 1) [r] := by
  refine ⟨⟨by simp [hk], .inr ⟨g, 1, r.toArray, rfl, by rw [h.at']; exact hB, h.bk, Nat.le_refl _, by simp only [maxLen]; omega, by simp [hk], ?_⟩⟩, fun x hx => by simp at hx; rw [hx]; exact hk⟩
  simp [← hk]
theorem OR.keep {w w' : World} {B : Nat} {e : TypeId} {k : Nat} {v : Value} {rows : List (List Value)} (h : OR w B e k v rows) (hk : ∀ b, v.ownBlock = some b → w'.heap[b]? = w.heap[b]?) : OR w' B e k v rows := by
  refine ⟨⟨h.row.1, ?_⟩, h.len⟩
  rcases h.row.2 with h1 | ⟨g, cap, cur, h1, h2, h3, h4⟩
  · exact .inl h1
  · exact .inr ⟨g, cap, cur, h1, h2, by rw [hk g (by rw [h1]; rfl)]; exact h3, h4⟩
theorem OR.tys {w : World} {B : Nat} {e : TypeId} {k : Nat} {v : Value} {rows : List (List Value)} (h : OR w B e k v rows) : ∀ b, v.ownBlock = some b → B ≤ b ∧ ∃ cur, Bk b w cur e := by
  intro b hb
  rcases h.row.2 with ⟨h1, _⟩ | ⟨g, cap, cur, h1, h2, h3, _⟩
  · rw [h1] at hb; cases hb
  · rw [h1] at hb
    simp only [Value.ownBlock] at hb
    injection hb with hb
    subst hb
    exact ⟨h2, cur, h3⟩
theorem bk_ne {w : World} {p q : Nat} {cs cs' : Array Value} {ty ty' : TypeId} (h : Bk p w cs ty) (k : Bk q w cs' ty') (hne : ty ≠ ty') : p ≠ q := by
  rintro rfl
  have h1 : w.heap[p]? = some (.cells cs ty (0, 0)) := h
  have h2 : w.heap[p]? = some (.cells cs' ty' (0, 0)) := k
  rw [h1] at h2
  injection h2 with h2
  injection h2 with _ h2
  exact hne h2
end Go.Proofs.YtocimfhagkcnlaaDoor
