/- (WA over JM) Bytes in memory: a slice that came in, read; a row that the call has made; what append makes of them. -/
import Derived.Test.YtocimfhagkcnlaaDoorJM
import Derived.WalkKit
import Derived.WalkSpells
import Derived.WalkLawsBesides
import Derived.WalkMore
import Derived.Handy
import Derived.Below
import Derived.Deep.RegionHeld3
import Derived.Deep.AppendLies
import Derived.Deep.RegionLaw
import Derived.Laws.AppendOwnNone
namespace Go.Proofs.YtocimfhagkcnlaaDoor
open Go.RowKit
/-- bytes as values -/
def U (bs : List Int) : List Value := bs.map (Value.int .u8)
theorem U_len (bs : List Int) : (U bs).length = bs.length := by unfold U; rw [List.length_map]
theorem U_app (a b : List Int) : U (a ++ b) = U a ++ U b := by unfold U; rw [List.map_append]
theorem U_nil : U [] = [] := rfl
theorem U_get (bs : List Int) (k : Nat) : (U bs)[k]? = (bs[k]?).map (Value.int .u8) := by unfold U; rw [List.getElem?_map]
/-- numbers that bytes hold -/
def okb (bs : List Int) : Prop := ∀ b ∈ bs, 0 ≤ b ∧ b < 256
theorem okb_nil : okb [] := fun b h => by cases h
theorem okb_app {a b : List Int} (ha : okb a) (hb : okb b) : okb (a ++ b) := fun x hx => by
  rcases List.mem_append.1 hx with h | h
  · exact ha x h
  · exact hb x h
theorem okb_take {a : List Int} (h : okb a) (n : Nat) : okb (a.take n) := fun x hx => h x (List.mem_of_mem_take hx)
theorem okb_drop {a : List Int} (h : okb a) (n : Nat) : okb (a.drop n) := fun x hx => h x (List.mem_of_mem_drop hx)
theorem okb_at {a : List Int} (h : okb a) (k : Nat) : 0 ≤ a.getD k 0 ∧ a.getD k 0 < 256 := by
  by_cases hk : k < a.length
  · rw [List.getD_eq_getElem?_getD, List.getElem?_eq_getElem hk]; exact h _ (List.getElem_mem hk)
  · rw [List.getD_eq_getElem?_getD, List.getElem?_eq_none (by omega)]; simp
theorem getD_at (a : List Int) (k : Nat) (h : k < a.length) : a[k]? = some (a.getD k 0) := by
  rw [List.getD_eq_getElem?_getD, List.getElem?_eq_getElem h]; rfl



/-- a slice at an address, below block N, reads as these bytes -/
def Rs (N : Nat) (w : World) (ao : Option Addr) (bs : List Int) : Prop := ∀ k, k < bs.length → ∃ ad, ao = some ad ∧ ad.block < N ∧ w.cell? (ad.add k) = some (.int .u8 (bs.getD k 0))
theorem Rs.below {N B : Nat} {w w' : World} {ao : Option Addr} {bs : List Int} (h : Rs N w ao bs) (hb : Below B w w') (hB : N ≤ B) : Rs N w' ao bs := fun k hk => by
  obtain ⟨ad, h1, h2, h3⟩ := h k hk
  exact ⟨ad, h1, h2, (hb.cell (p := ad.add k) (by rw [add_block]; omega)).trans h3⟩
theorem Rs.mono {N M : Nat} {w : World} {ao : Option Addr} {bs : List Int} (h : Rs N w ao bs) (hN : N ≤ M) : Rs M w ao bs := fun k hk => by
  obtain ⟨ad, h1, h2, h3⟩ := h k hk
  exact ⟨ad, h1, Nat.lt_of_lt_of_le h2 hN, h3⟩
theorem Rs.nil (N : Nat) (w : World) (ao : Option Addr) : Rs N w ao [] := fun k hk => absurd hk (by simp)
theorem Rs.take {N : Nat} {w : World} {ao : Option Addr} {bs : List Int} (h : Rs N w ao bs) (m : Nat) : Rs N w ao (bs.take m) := fun k hk => by
  rw [List.length_take] at hk
  obtain ⟨ad, h1, h2, h3⟩ := h k (by omega)
  refine ⟨ad, h1, h2, ?_⟩
  rw [List.getD_eq_getElem?_getD, List.getElem?_take_of_lt (by omega), ← List.getD_eq_getElem?_getD]
  exact h3
theorem Rs.drop {N : Nat} {w : World} {ad : Addr} {bs : List Int} (h : Rs N w (some ad) bs) (m : Nat) : Rs N w (some (ad.add m)) (bs.drop m) := fun k hk => by
  rw [List.length_drop] at hk
  obtain ⟨ad', h1, h2, h3⟩ := h (m + k) (by omega)
  injection h1 with h1
  subst h1
  refine ⟨_, rfl, by rw [add_block]; exact h2, ?_⟩
  rw [add_add, h3, List.getD_eq_getElem?_getD, List.getD_eq_getElem?_getD, List.getElem?_drop]
theorem Rs.at {N : Nat} {w : World} {ao : Option Addr} {bs : List Int} (h : Rs N w ao bs) (k : Nat) (hk : k < bs.length) :
    ∃ (ad : Addr), Hid (ao = some ad) ∧ w.cell? (ad.add k) = some (.int .u8 (bs.getD k 0)) := by
  obtain ⟨ad, h1, h2, h3⟩ := h k hk
  exact ⟨ad, h1, h3⟩
/-- what is to be appended -/
theorem Rs.news {N : Nat} {w : World} {ad : Addr} {bs : List Int} (h : Rs N w (some ad) bs) : ∀ j u, (U bs)[j]? = some u → w.cell? (ad.add j) = some u := fun j u hu => by
  rw [U_get] at hu
  by_cases hj : j < bs.length
  · obtain ⟨ad', h1, _, h3⟩ := h j hj
    injection h1 with h1
    subst h1
    rw [getD_at _ _ hj] at hu
    rw [h3, ← hu]; rfl
  · rw [List.getElem?_eq_none (by omega)] at hu; cases hu
theorem U_one (bs : List Int) : ∀ u ∈ U bs, u.oneCell' = true := fun u hu => by
  unfold U at hu
  obtain ⟨b, _, rfl⟩ := List.mem_map.1 hu
  rfl
/-- a row of bytes that the call has made -/
def Own (w : World) (B : Nat) (v : Value) (bs : List Int) : Prop := w.ownsRow B 5 1 v bs.length (U bs)
theorem Own.rs {w : World} {B : Nat} {v : Value} {bs : List Int} (h : Own w B v bs) : ∃ ao cap, v = .slice ao bs.length cap ∧ bs.length ≤ cap ∧ Rs w.heap.size w ao bs ∧ (∀ ad, ao = some ad → B ≤ ad.block ∧ ad.block < w.heap.size) ∧ (ao = none → cap = 0) ∧ cap ≤ maxLen := by
  rcases h.2 with ⟨h1, h2⟩ | ⟨g, cap, cur, h1, h2, h3, h4, h5, h6, h7⟩
  · refine ⟨none, 0, by rw [h1, h2], by omega, ?_, by simp, by simp, by simp⟩
    intro k hk; omega
  · have hg : g < w.heap.size := by
      rcases Nat.lt_or_ge g w.heap.size with hlt | hge
      · exact hlt
      · rw [Array.getElem?_eq_none hge] at h3; cases h3
    refine ⟨some ⟨g, 0, none⟩, cap, h1, h4, ?_, ?_, by simp, h5⟩
    · intro k hk
      refine ⟨_, rfl, hg, ?_⟩
      rw [add_own, cell_of_row w g k cur 5 (0, 0) h3]
      have e : (U bs)[k]? = some (.int .u8 (bs.getD k 0)) := by rw [U_get, getD_at _ _ hk]; rfl
      rw [← h7, List.getElem?_take_of_lt (by omega)] at e
      simpa using e
    · intro ad hx; injection hx with hx; subst hx; exact ⟨h2, hg⟩
theorem Own.below {w w' : World} {B C : Nat} {v : Value} {bs : List Int} (h : Own w B v bs) (hb : Below C w w') (hC : w.heap.size ≤ C) : Own w' B v bs :=
  World.ownsRow.kept (row := none) h ⟨hb.os, hb.tape, hb.output, hb.size, fun k hk _ => hb.block k (by omega)⟩ (by cases v.ownBlock <;> simp)
theorem Own.mono {w : World} {B B' : Nat} {v : Value} {bs : List Int} (h : Own w B v bs) (hb : B' ≤ B) : Own w B' v bs := by
  obtain ⟨h1, h2⟩ := h
  refine ⟨h1, ?_⟩
  rcases h2 with h2 | ⟨g, cap, cur, a1, a2, r⟩
  · exact .inl h2
  · exact .inr ⟨g, cap, cur, a1, by omega, r⟩
theorem info5 : (Tryd.prog.info? 5).map (fun i => (i.zero, i.size, i.bytes)) = some (some (.int .u8 0), 1, 1) := by kernel_rfl
theorem info5_parts : ∃ i, Tryd.prog.info? 5 = some i ∧ i.zero = some (.int .u8 0) ∧ i.size = 1 ∧ i.bytes = 1 := by
  have h := info5
  cases hi : Tryd.prog.info? 5 with
  | none => rw [hi] at h; cases h
  | some i =>
    rw [hi] at h
    simp at h
    exact ⟨i, rfl, h.1, h.2.1, h.2.2⟩
/-- a slice of bytes below block N: what it reads as -/
def Sv (N : Nat) (w : World) (v : Value) (bs : List Int) : Prop := ∃ ao cap, v = .slice ao bs.length cap ∧ bs.length ≤ cap ∧ (ao = none → cap = 0) ∧ Rs N w ao bs ∧ okb bs
theorem Own.sv {w : World} {B : Nat} {v : Value} {bs : List Int} (h : Own w B v bs) (hb : okb bs) : Sv w.heap.size w v bs := by
  obtain ⟨ao, cap, h1, h2, h3, _, h5, _⟩ := h.rs
  exact ⟨ao, cap, h1, h2, h5, h3, hb⟩
theorem Sv.mono {N M : Nat} {w : World} {v : Value} {bs : List Int} (h : Sv N w v bs) (hN : N ≤ M) : Sv M w v bs := by
  obtain ⟨ao, cap, h1, h2, h3, h4, h5⟩ := h
  exact ⟨ao, cap, h1, h2, h3, h4.mono hN, h5⟩
theorem Sv.below {N B : Nat} {w w' : World} {v : Value} {bs : List Int} (h : Sv N w v bs) (hb : Below B w w') (hB : N ≤ B) : Sv N w' v bs := by
  obtain ⟨ao, cap, h1, h2, h3, h4, h5⟩ := h
  exact ⟨ao, cap, h1, h2, h3, h4.below hb hB, h5⟩
theorem Sv.nil (N : Nat) (w : World) : Sv N w (.slice none 0 0) [] := ⟨none, 0, rfl, by simp, fun _ => rfl, Rs.nil _ _ _, okb_nil⟩
theorem Own.nil (w : World) (B : Nat) : Own w B (.slice none 0 0) [] := ⟨by simp [U], .inl ⟨rfl, rfl⟩⟩
theorem run_app8 (t : TypeId) (ty : TypeId) (ht : Tryd.prog.underlying t = some (.slice 5)) (w : World) (B N : Nat) (v xv : Value) (bs cs : List Int) (hown : Own w B v bs) (hx : Sv N w xv cs) (hl : bs.length + cs.length ≤ 10000000) (hbase : B ≤ w.heap.size) :
    ∃ v' w', (Builtin.append_ #[t, t] ty #[v, xv]).run Tryd.prog w = .ok v' w' ∧ Own w' B v' (bs ++ cs) ∧ w.grownBy w' v.ownBlock ∧ (v'.ownBlock = v.ownBlock ∨ v'.ownBlock = some w.heap.size) := by
  obtain ⟨i0, hi, hz0, hz1, hz2⟩ := info5_parts
  obtain ⟨ao, cap, rfl, h2, h3, h4, h5⟩ := hx
  rcases ao with _ | ad
  · have hc0 := h3 rfl
    have hl0 : cs = [] := List.length_eq_zero_iff.1 (by omega)
    subst hl0 hc0
    have hrun := run_append_owned_none (P := Tryd.prog) (w := w) B t ty 5 i0 1 ht hi v bs.length (U bs) hown
    exact ⟨v, w, hrun, by simpa using hown, ⟨rfl, rfl, rfl, Nat.le_refl _, fun _ _ _ => rfl⟩, .inl rfl⟩
  · obtain ⟨v', w', hr, k2, k3, _, k5⟩ := run_append_own_at (P := Tryd.prog) w B t ty 5 i0 (.int .u8 0) 1 1 ht hi hz0 hz1 hz2 rfl (by decide) v bs.length (U bs) hown ad cs.length cap (U cs) (by rw [U_len]; omega) h4.news (U_one cs) (by unfold maxLen; omega) (by omega) hbase
    refine ⟨v', w', hr, ?_, k3, k5⟩
    show World.ownsRow _ _ _ _ _ _ _
    rw [U_app, List.length_append]
    exact k2
theorem wp_app8 {w : World} {o : Oper} {a : Act} {K : Act → World → Prop} {Q : Exit → Act → World → Prop} (s x : Operand) (t : TypeId)
    (ho : o.op = .call { callee := .builtin .append, args := #[s, x], argTypes := #[t, t] }) (ht : Tryd.prog.underlying t = some (.slice 5))
    (B N : Nat) (v xv : Value) (bs cs : List Int) (hs : a.eval s = v) (hx : a.eval x = xv) (hown : Own w B v bs) (hxv : Sv N w xv cs) (hl : bs.length + cs.length ≤ 10000000) (hbase : B ≤ w.heap.size)
    (h : ∀ v' w', Own w' B v' (bs ++ cs) → w.grownBy w' v.ownBlock → (v'.ownBlock = v.ownBlock ∨ v'.ownBlock = some w.heap.size) → K (a.put o.dst v') w') : o.wp Tryd.prog a w K Q := by
  obtain ⟨v', w', hr, h2, h3, h4⟩ := run_app8 t o.type ht w B N v xv bs cs hown hxv hl hbase
  unfold Oper.wp execOp
  simp only [ho, resolve, invoke, builtin, Sem.run_bind, Sem.run_pure, Result.andThen_ok, List.map_toArray, List.map_cons, List.map_nil, hs, hx, hr]
  exact h v' w' h2 h3 h4
theorem wpList_app8 {w : World} {ops : Array Oper} {rest : List Oper} {o : Oper} {a : Act} {Q : Exit → Act → World → Prop} (hgd : o.guard = none) (s x : Operand) (t : TypeId)
    (ho : o.op = .call { callee := .builtin .append, args := #[s, x], argTypes := #[t, t] }) (ht : Tryd.prog.underlying t = some (.slice 5))
    (B N : Nat) (v xv : Value) (bs cs : List Int) (hs : a.eval s = v) (hx : a.eval x = xv) (hown : Own w B v bs) (hxv : Sv N w xv cs) (hl : bs.length + cs.length ≤ 10000000) (hbase : B ≤ w.heap.size)
    (h : ∀ v' w', Own w' B v' (bs ++ cs) → w.grownBy w' v.ownBlock → (v'.ownBlock = v.ownBlock ∨ v'.ownBlock = some w.heap.size) → wpList Tryd.prog ops Q rest (a.put o.dst v') w') : wpList Tryd.prog ops Q (o :: rest) a w :=
  wpList_plain hgd fun _ hK => wp_app8 s x t ho ht B N v xv bs cs hs hx hown hxv hl hbase fun v' w' h2 h3 h4 => hK _ _ (h v' w' h2 h3 h4)
theorem step_app8 {w : World} {ops : Array Oper} {o : Oper} {a : Act} {K : Act → World → Prop} {Q : Exit → Act → World → Prop} {E : Prop} (hgd : o.guard = none) (s x : Operand) (t : TypeId)
    (ho : o.op = .call { callee := .builtin .append, args := #[s, x], argTypes := #[t, t] }) (ht : Tryd.prog.underlying t = some (.slice 5))
    (B N : Nat) (v xv : Value) (bs cs : List Int) (hs : a.eval s = v) (hx : a.eval x = xv) (hown : Own w B v bs) (hxv : Sv N w xv cs) (hl : bs.length + cs.length ≤ 10000000) (hbase : B ≤ w.heap.size)
    (h : ∀ v' w', Own w' B v' (bs ++ cs) → w.grownBy w' v.ownBlock → (v'.ownBlock = v.ownBlock ∨ v'.ownBlock = some w.heap.size) → K (a.put o.dst v') w') :
    if Region.wanted o (yielded ops a.tmps) = true then Oper.wp Tryd.prog o a w K Q else E := by
  have hw : Region.wanted o (yielded ops a.tmps) = true := by simp [Region.wanted, hgd]
  rw [if_pos hw]
  exact wp_app8 s x t ho ht B N v xv bs cs hs hx hown hxv hl hbase h
#print axioms Own.rs
end Go.Proofs.YtocimfhagkcnlaaDoor
