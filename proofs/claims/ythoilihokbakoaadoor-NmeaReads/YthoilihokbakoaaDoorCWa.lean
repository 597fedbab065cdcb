/- Rows of texts that the call has made; a scope with several labels. -/
import Derived.Test.YthoilihokbakoaaDoorRows
import Derived.Test.YthoilihokbakoaaDoorCWp
import Derived.WalkKit
import Derived.WalkSpells
import Derived.WalkLawsBesides
import Derived.WalkMore
import Derived.Handy
import Derived.Below
import Derived.ScopeJumps
import Derived.OwnWalk
import Derived.Laws.AppendOwn
import Derived.Deep.RegionLaw
namespace Go.Proofs.YthoilihokbakoaaDoor
open Go.RowKit
/-- by a goto to some label: what holds there -/
def exJ (J : Nat → Act → World → Prop) (Q : Exit → Act → World → Prop) : Exit → Act → World → Prop
  | .goto l, a, w => J l a w
  | e, a, w => Q e a w
section
variable {P : Program} {a : Act} {w : World} {Q : Exit → Act → World → Prop}
theorem wp_scope_gotos {c : Code} (J : Nat → Act → World → Prop) (μ : Nat → Act → World → Nat)
    (first : c.wp P (exJ J Q) a w)
    (pass : ∀ l a w M, J l a w → μ l a w = M → ∃ rest, findLabel c l = some rest ∧ rest.wp P (exJ (fun l' a' w' => J l' a' w' ∧ μ l' a' w' < M) Q) a w) : (Code.scope c).wp P Q a w := by
  intro b k cs
  have key : ∀ n l a w, μ l a w = n → J l a w → ∃ rest, findLabel c l = some rest ∧ ∃ e a' w', Q e a' w' ∧ Arrives P (lone (b.at a (.code rest :: .inScope c :: k)) cs w) b k cs e a' w' := by
    intro n
    induction n using Nat.strongRecOn with
    | _ n ih =>
      intro l a w hn hJ
      obtain ⟨rest, hf, hp⟩ := pass l a w _ hJ rfl
      refine ⟨rest, hf, ?_⟩
      obtain ⟨e, a₁, w₁, hq, harr⟩ := hp b (.inScope c :: k) cs
      cases e with
      | normal => exact ⟨.normal, a₁, w₁, hq, Steps.trans harr (.one step_inScope)⟩
      | exit id => exact ⟨.exit id, a₁, w₁, hq, fun k' hk => harr k' (by simp [exitTo, hk])⟩
      | goto l' =>
        obtain ⟨hJ', hlt⟩ := hq
        obtain ⟨rest', hf', e₂, a₂, w₂, hq₂, harr₂⟩ := ih _ (by omega) l' a₁ w₁ rfl hJ'
        have hg : gotoIn l' (.inScope c :: k) = some (.code rest' :: .inScope c :: k) := by simp [gotoIn, hf']
        exact ⟨e₂, a₂, w₂, hq₂, .of_steps (harr _ hg) harr₂⟩
      | ret => exact ⟨_, a₁, w₁, hq, harr⟩
      | panic ch => exact ⟨_, a₁, w₁, hq, harr⟩
      | outgrown => exact ⟨_, a₁, w₁, hq, harr⟩
  obtain ⟨e, a₁, w₁, hq, harr⟩ := first b (.inScope c :: k) cs
  cases e with
  | normal => exact ⟨.normal, a₁, w₁, hq, .head step_scope (Steps.trans harr (.one step_inScope))⟩
  | exit id => exact ⟨.exit id, a₁, w₁, hq, fun k' hk => .head step_scope (harr k' (by simp [exitTo, hk]))⟩
  | goto l' =>
    obtain ⟨rest', hf', e₂, a₂, w₂, hq₂, harr₂⟩ := key _ l' a₁ w₁ rfl hq
    have hg : gotoIn l' (.inScope c :: k) = some (.code rest' :: .inScope c :: k) := by simp [gotoIn, hf']
    exact ⟨e₂, a₂, w₂, hq₂, .of_steps (.head step_scope (harr _ hg)) harr₂⟩
  | ret => exact ⟨_, a₁, w₁, hq, .of_steps (.one step_scope) harr⟩
  | panic ch => exact ⟨_, a₁, w₁, hq, .of_steps (.one step_scope) harr⟩
  | outgrown => exact ⟨_, a₁, w₁, hq, .of_steps (.one step_scope) harr⟩
/-- two labels into whose code the run also falls -/
theorem wp_scope_two {c R1 R3 : Code} (l1 l3 : Nat) (J : Nat → Act → World → Prop) (μ : Nat → Act → World → Nat) (hf1 : findLabel c l1 = some (Code.skip.seq R1)) (hf3 : findLabel c l3 = some (Code.skip.seq R3))
    (pass3 : ∀ a w M, J l3 a w → μ l3 a w ≤ M → R3.wp P (exJ (fun l' a' w' => J l' a' w' ∧ μ l' a' w' < M) Q) a w)
    (pass1 : ∀ a w M, J l1 a w → μ l1 a w = M → (∀ a w, J l3 a w → μ l3 a w ≤ M → R3.wp P (exJ (fun l' a' w' => J l' a' w' ∧ μ l' a' w' < M) Q) a w) → R1.wp P (exJ (fun l' a' w' => J l' a' w' ∧ μ l' a' w' < M) Q) a w)
    (passo : ∀ l a w M, l ≠ l1 → l ≠ l3 → J l a w → ∃ rest, findLabel c l = some rest ∧ rest.wp P (exJ (fun l' a' w' => J l' a' w' ∧ μ l' a' w' < M) Q) a w)
    (first : (∀ a w, J l1 a w → R1.wp P (exJ J Q) a w) → c.wp P (exJ J Q) a w) : (Code.scope c).wp P Q a w := by
  refine wp_scope_gotos J μ (first fun a w hJ => ?_) (fun l a w M hJ hM => ?_)
  · refine wp_mono (pass1 a w _ hJ rfl (fun a w h1 h2 => pass3 a w _ h1 h2)) (fun e a w h => ?_)
    cases e <;> first | exact h.1 | exact h
  · by_cases h1 : l = l1
    · subst h1
      exact ⟨_, hf1, wp_seq (wp_skip (pass1 a w M hJ hM (fun a w h1 h2 => pass3 a w _ h1 h2)))⟩
    · by_cases h3 : l = l3
      · subst h3
        exact ⟨_, hf3, wp_seq (wp_skip (pass3 a w M hJ (Nat.le_of_eq hM)))⟩
      · exact passo l a w M h1 h3 hJ
end
/-- texts as values -/
def SU (ts : List (List UInt8)) : List Value := ts.map fun t => .string (tx t)
theorem SU_len (ts : List (List UInt8)) : (SU ts).length = ts.length := by unfold SU; rw [List.length_map]
theorem SU_app (a b : List (List UInt8)) : SU (a ++ b) = SU a ++ SU b := by unfold SU; rw [List.map_append]
theorem SU_get (ts : List (List UInt8)) (k : Nat) (h : k < ts.length) : (SU ts)[k]? = some (.string (tx ts[k])) := by unfold SU; rw [List.getElem?_map, List.getElem?_eq_getElem h]; rfl
/-- a row of texts that the call has made, from block B on -/
def OwT (w : World) (B : Nat) (v : Value) (ts : List (List UInt8)) : Prop := w.ownsRow B 9 1 v ts.length (SU ts)
theorem OwT.nil (w : World) (B : Nat) : OwT w B (.slice none 0 0) [] := World.ownsRow_nil _ _ _ _
theorem OwT.fresh (w : World) (B : Nat) (hB : B ≤ w.heap.size) : OwT (w.alloc (.cells #[] 9)) B (.slice (some ⟨w.heap.size, 0, none⟩) 0 0) [] := World.ownsRow_made w #[] 0 hB (by simp) (by simp)
theorem OwT.alloc {w : World} {B : Nat} {v : Value} {ts : List (List UInt8)} (h : OwT w B v ts) (o : Obj) : OwT (w.alloc o) B v ts := World.ownsRow.alloc h o
theorem OwT.drew {w : World} {B : Nat} {v : Value} {ts : List (List UInt8)} (h : OwT w B v ts) : OwT w.drew B v ts := h
theorem OwT.below {w w' : World} {B C : Nat} {v : Value} {ts : List (List UInt8)} (h : OwT w B v ts) (hb : Below C w w') (hC : w.heap.size ≤ C) : OwT w' B v ts :=
  World.ownsRow.kept (row := none) h ⟨hb.os, hb.tape, hb.output, hb.size, fun k hk _ => hb.block k (by omega)⟩ (by cases v.ownBlock <;> simp)
theorem OwT.mono {w : World} {B B' : Nat} {v : Value} {ts : List (List UInt8)} (h : OwT w B v ts) (hb : B' ≤ B) : OwT w B' v ts := by
  obtain ⟨h1, h2⟩ := h
  refine ⟨h1, ?_⟩
  rcases h2 with h2 | ⟨g, cap, cur, a1, a2, r⟩
  · exact .inl h2
  · exact .inr ⟨g, cap, cur, a1, by omega, r⟩
/-- what a slice of texts reads as -/
def Rt (w : World) (v : Value) (ts : List (List UInt8)) : Prop := ∃ ao cap, v = .slice ao ts.length cap ∧ ts.length ≤ cap ∧ ∀ k (hk : k < ts.length), ∃ g o, ao = some ⟨g, o, none⟩ ∧ g < w.heap.size ∧ w.cell? ⟨g, o + k, none⟩ = some (.string (tx ts[k]))
theorem OwT.rt {w : World} {B : Nat} {v : Value} {ts : List (List UInt8)} (h : OwT w B v ts) : Rt w v ts := by
  rcases h.2 with ⟨h1, h2⟩ | ⟨g, cap, cur, h1, h2, h3, h4, h5, h6, h7⟩
  · exact ⟨none, 0, by rw [h1, h2], by omega, fun k hk => absurd hk (by omega)⟩
  · have hg : g < w.heap.size := by
      rcases Nat.lt_or_ge g w.heap.size with hlt | hge
      · exact hlt
      · rw [Array.getElem?_eq_none hge] at h3; cases h3
    refine ⟨some ⟨g, 0, none⟩, cap, h1, h4, fun k hk => ⟨g, 0, rfl, hg, ?_⟩⟩
    rw [Nat.zero_add, cell_of_row w g k cur 9 (0, 0) h3]
    have e := SU_get ts k hk
    rw [← h7, List.getElem?_take_of_lt (by omega)] at e
    simpa using e
theorem Rt.below {w w' : World} {B : Nat} {v : Value} {ts : List (List UInt8)} (h : Rt w v ts) (hb : Below B w w') (hB : w.heap.size ≤ B) : Rt w' v ts := by
  obtain ⟨ao, cap, h1, h2, h3⟩ := h
  refine ⟨ao, cap, h1, h2, fun k hk => ?_⟩
  obtain ⟨g, o, g1, g2, g3⟩ := h3 k hk
  exact ⟨g, o, g1, Nat.lt_of_lt_of_le g2 hb.size, (hb.cell (p := ⟨g, o + k, none⟩) (by show g < B; omega)).trans g3⟩
theorem info9 : (Tryd.prog.info? 9).map (fun i => (i.zero, i.size, i.bytes)) = some (some (.string ⟨#[]⟩), 1, 16) := by kernel_rfl
theorem info9_parts : ∃ i, Tryd.prog.info? 9 = some i ∧ i.zero = some (.string ⟨#[]⟩) ∧ i.size = 1 ∧ i.bytes = 16 := by
  have h := info9
  cases hi : Tryd.prog.info? 9 with
  | none => rw [hi] at h; cases h
  | some i =>
    rw [hi] at h
    simp at h
    exact ⟨i, rfl, h.1, h.2.1, h.2.2⟩
/-- one text is appended -/
theorem wpList_appT {w : World} {ops : Array Oper} {rest : List Oper} {o : Oper} {a : Act} {Q : Exit → Act → World → Prop} (hgd : o.guard = none) (s x : Operand) (t : TypeId)
    (ho : o.op = .call { callee := .builtin .append, args := #[s, x], argTypes := #[t, t] }) (ht : Tryd.prog.underlying t = some (.slice 9))
    (B : Nat) (v : Value) (ts : List (List UInt8)) (hs : a.eval s = v) (g : Nat) (y : List UInt8) (hx : a.eval x = .slice (some ⟨g, 0, none⟩) 1 1) (hl : ts.length ≤ 10000000) (hbase : B ≤ w.heap.size) (hown : OwT w B v ts) (hc : w.cell? ⟨g, 0, none⟩ = some (.string (tx y)))
    (h : ∀ v' w', OwT w' B v' (ts ++ [y]) → w.grownBy w' v.ownBlock → wpList Tryd.prog ops Q rest (a.put o.dst v') w') : wpList Tryd.prog ops Q (o :: rest) a w := by
  obtain ⟨i, hi, hz, h2, h3⟩ := info9_parts
  refine wpList_append_own w hgd s x t ho B 9 i _ 1 16 ht hi hz h2 h3 rfl (by decide) v ts.length (SU ts) hs hown ⟨g, 0, none⟩ 1 1 [.string (tx y)] hx rfl ?_ ?_ (by unfold maxLen; omega) (by omega) hbase (fun v' w' a1 a2 _ => h v' w' ?_ a2)
  · intro j u hj
    cases j with
    | zero => simp at hj; subst hj; exact hc
    | succ j => simp at hj
  · intro u hu
    simp at hu
    subst hu
    rfl
  · show World.ownsRow _ _ _ _ _ _ _
    rw [SU_app, List.length_append]
    exact a1
end Go.Proofs.YthoilihokbakoaaDoor
