/- Memory: rows of several cells, blocks, structs loaded and stored whole; the walk in pieces. -/
import Derived.Test.YtocimfhagkcnlaaDoorGP
import Derived.WalkKit
import Derived.WalkSpells
import Derived.WalkLawsBesides
import Derived.WalkMore
import Derived.WalkSmall
import Derived.Handy
import Derived.Below
import Derived.OwnWalk
import Derived.Deep.MidRow
import Derived.Laws.Rows
import Derived.Laws.AppendOwn
import Derived.Laws.OwnMore
import Derived.Laws.Tables
import Derived.Laws.CopyRow
import Derived.Maps.AppendAt
import Derived.Deep.QuietTactic
import Derived.BigQuiet
import Derived.BigRegion
import Derived.Deep.RegionWith
import Derived.Deep.RegionHeld3
import Derived.Deep.RegionLaw
import Derived.Lib.QuietBelow
namespace Go.Proofs.YtocimfhagkcnlaaDoor
open Go Go.RowKit Go.Sort
theorem add_block (ad : Addr) (k : Nat) : (ad.add k).block = ad.block := by unfold Addr.add; split <;> rfl
theorem ret_bool' {a b : Bool} (h : a = b) : Ending.returned (.bool a) = .returned (.bool b) := by rw [h]
theorem ret_int' {k : IntKind} {a b : Int} (h : a = b) : Ending.returned (.int k a) = .returned (.int k b) := by rw [h]
theorem add_add (ad : Addr) (i j : Nat) : (ad.add i).add j = ad.add (i + j) := by
  unfold Addr.add
  by_cases hi : i = 0
  · subst hi; simp
  · by_cases hj : j = 0
    · subst hj; simp
    · rw [if_neg hi, if_neg hj, if_neg (by omega)]; simp; omega
theorem add_own (g k : Nat) : (⟨g, 0, none⟩ : Addr).add k = ⟨g, k, none⟩ := by unfold Addr.add; split <;> simp_all
/-- a slice of elements of k cells each, below block N: what it reads as -/
def Rk (N : Nat) (w : World) (k : Nat) (v : Value) (xs : List (List Value)) : Prop := ∃ ao cap, v = .slice ao xs.length cap ∧ xs.length ≤ cap ∧
  ∀ i, i < xs.length → ∃ ad, ao = some ad ∧ ad.block < N ∧ ∀ j u, (xs.getD i [])[j]? = some u → w.cell? (ad.add (i * k + j)) = some u
theorem Rk.below {N B k : Nat} {w w' : World} {v : Value} {xs : List (List Value)} (h : Rk N w k v xs) (hb : Below B w w') (hB : N ≤ B) : Rk N w' k v xs := by
  obtain ⟨ao, cap, h1, h2, h3⟩ := h
  refine ⟨ao, cap, h1, h2, fun i hi => ?_⟩
  obtain ⟨ad, g1, g2, g3⟩ := h3 i hi
  exact ⟨ad, g1, g2, fun j u hu => (hb.cell (p := ad.add (i * k + j)) (by rw [add_block]; omega)).trans (g3 j u hu)⟩
theorem Rk.mono {N M k : Nat} {w : World} {v : Value} {xs : List (List Value)} (h : Rk N w k v xs) (hM : N ≤ M) : Rk M w k v xs := by
  obtain ⟨ao, cap, h1, h2, h3⟩ := h
  refine ⟨ao, cap, h1, h2, fun i hi => ?_⟩
  obtain ⟨ad, g1, g2, g3⟩ := h3 i hi
  exact ⟨ad, g1, Nat.lt_of_lt_of_le g2 hM, g3⟩
theorem Rk.take {N k : Nat} {w : World} {ao : Option Addr} {n cap : Nat} {xs : List (List Value)} (h : Rk N w k (.slice ao n cap) xs) (m : Nat) (hm : m ≤ xs.length) : Rk N w k (.slice ao m cap) (xs.take m) := by
  obtain ⟨ao', cap', h1, h2, h3⟩ := h
  injection h1 with e1 e2 e3
  subst e1; subst e3
  refine ⟨ao, cap, by rw [List.length_take, Nat.min_eq_left hm], by rw [List.length_take]; omega, fun i hi => ?_⟩
  rw [List.length_take] at hi
  obtain ⟨ad, g1, g2, g3⟩ := h3 i (by omega)
  refine ⟨ad, g1, g2, fun j u hu => g3 j u ?_⟩
  rw [List.getD_eq_getElem?_getD, List.getElem?_take_of_lt (by omega), ← List.getD_eq_getElem?_getD] at hu
  exact hu
/-- a struct is loaded, wherever it lies -/
theorem run_loadVar_at (w : World) (ad : Addr) (ty : TypeId) (cs : List Value) (d : TypeDesc) (hc : ∀ j u, cs[j]? = some u → w.cell? (ad.add j) = some u)
    (hu : Tryd.prog.underlying ty = some d) (hd : d.isRow = true) (hi : (Tryd.prog.info? ty).map (·.size) = some cs.length) :
    (loadVar ty ad).run Tryd.prog w = .ok (.agg cs.toArray) w := by
  have hl : (loadCells ad cs.length).run Tryd.prog w = .ok cs.toArray w := run_loadCells_list (P := Tryd.prog) w ad cs hc
  cases hq : Tryd.prog.info? ty with
  | none => simp [hq] at hi
  | some i =>
    have hs : i.size = cs.length := by simpa [hq] using hi
    have hagg : (isAgg ty).run Tryd.prog w = .ok true w := by
      unfold isAgg
      rw [Sem.run_bind, run_underlying hu w]
      cases d <;> simp_all
    simp [loadVar, Sem.run_bind, hagg, sizeOf, typeInfo, hq, hs, hl]
theorem step_ldat {ops : Array Oper} {rest : List Oper} {op : Oper} {a : Act} {w : World} {Q : Exit → Act → World → Prop} (ty : TypeId) (x : Operand) (ho : op.op = .load ty x) (hgd : op.guard = none)
    (ad : Addr) (hx : a.eval x = .pointer (some ad)) (cs : List Value) (d : TypeDesc) (hu : Tryd.prog.underlying ty = some d) (hd : d.isRow = true) (hi : (Tryd.prog.info? ty).map (·.size) = some cs.length)
    (hc : ∀ j u, cs[j]? = some u → w.cell? (ad.add j) = some u)
    (h : wpList Tryd.prog ops Q rest (a.put op.dst (.agg cs.toArray)) w) : wpList Tryd.prog ops Q (op :: rest) a w :=
  wpList_plain hgd fun K hK => by
    unfold Oper.wp execOp
    simp only [ho, hx, Instr.loadAt, Instr.sureAddr, Sem.run_bind, Sem.run_pure, Result.andThen_ok, run_loadVar_at w ad ty cs d hc hu hd hi]
    exact hK _ _ h
theorem flat_len {k : Nat} {rows : List (List Value)} (h : ∀ r ∈ rows, r.length = k) : rows.flatten.length = rows.length * k := by
  induction rows with
  | nil => simp
  | cons r t ih =>
    rw [List.flatten_cons, List.length_append, ih (fun x hx => h x (List.mem_cons_of_mem _ hx)), h r (List.mem_cons_self ..), List.length_cons, Nat.add_mul]; omega
theorem flat_get {k : Nat} {rows : List (List Value)} (h : ∀ r ∈ rows, r.length = k) (i j : Nat) (hi : i < rows.length) (hj : j < k) : rows.flatten[i * k + j]? = (rows.getD i [])[j]? := by
  induction rows generalizing i with
  | nil => exact absurd hi (by simp)
  | cons r t ih =>
    have hr := h r (List.mem_cons_self ..)
    rw [List.flatten_cons]
    cases i with
    | zero => rw [Nat.zero_mul, Nat.zero_add, List.getElem?_append_left (by omega)]; rfl
    | succ i =>
      rw [List.getElem?_append_right (by rw [hr, Nat.add_mul]; omega), hr, show (i + 1) * k + j - k = i * k + j from by rw [Nat.add_mul]; omega, ih (fun x hx => h x (List.mem_cons_of_mem _ hx)) i (by simpa using hi)]
      rfl
theorem flat_set {k : Nat} {rows : List (List Value)} (h : ∀ r ∈ rows, r.length = k) (i : Nat) (r : List Value) (hi : i < rows.length) : rows.flatten.take (i * k) ++ r ++ rows.flatten.drop (i * k + k) = (rows.set i r).flatten := by
  induction rows generalizing i with
  | nil => exact absurd hi (by simp)
  | cons s t ih =>
    have hs := h s (List.mem_cons_self ..)
    rw [List.flatten_cons]
    cases i with
    | zero =>
      rw [Nat.zero_mul, Nat.zero_add, List.take_zero, List.nil_append, List.drop_append, hs, Nat.sub_self, List.drop_zero, List.drop_of_length_le (by omega), List.nil_append, List.set_cons_zero, List.flatten_cons]
    | succ i =>
      rw [List.set_cons_succ, List.flatten_cons, ← ih (fun x hx => h x (List.mem_cons_of_mem _ hx)) i (by simpa using hi)]
      have e1 : (i + 1) * k = s.length + i * k := by rw [hs, Nat.add_mul]; omega
      rw [e1, List.take_length_add_append, Nat.add_assoc, List.drop_length_add_append, List.append_assoc, List.append_assoc, List.append_assoc]
/-- rows of k cells that the call has made, from block B on -/
structure OR (w : World) (B : Nat) (e : TypeId) (k : Nat) (v : Value) (rows : List (List Value)) : Prop where
  row : w.ownsRow B e k v rows.length rows.flatten
  len : ∀ r ∈ rows, r.length = k
theorem OR.nil (w : World) (B : Nat) (e : TypeId) (k : Nat) : OR w B e k (.slice none 0 0) [] := ⟨World.ownsRow_nil _ _ _ _, fun x hx => by cases hx⟩
theorem OR.fresh (w : World) (B : Nat) (e : TypeId) (k : Nat) (hB : B ≤ w.heap.size) : OR (w.alloc (.cells #[] e)) B e k (.slice (some ⟨w.heap.size, 0, none⟩) 0 0) [] := ⟨World.ownsRow_made w #[] 0 hB (by simp) (by simp), fun x hx => by cases hx⟩
theorem OR.alloc {w : World} {B : Nat} {e : TypeId} {k : Nat} {v : Value} {rows : List (List Value)} (h : OR w B e k v rows) (o : Obj) : OR (w.alloc o) B e k v rows := ⟨h.row.alloc o, h.len⟩
theorem OR.drew {w : World} {B : Nat} {e : TypeId} {k : Nat} {v : Value} {rows : List (List Value)} (h : OR w B e k v rows) : OR w.drew B e k v rows := ⟨h.row, h.len⟩
theorem OR.drewN {w : World} {B : Nat} {e : TypeId} {k : Nat} {v : Value} {rows : List (List Value)} (h : OR w B e k v rows) (n : Nat) : OR (w.drewN n) B e k v rows := ⟨h.row, h.len⟩
theorem OR.below {w w' : World} {B C : Nat} {e : TypeId} {k : Nat} {v : Value} {rows : List (List Value)} (h : OR w B e k v rows) (hb : Below C w w') (hC : w.heap.size ≤ C) : OR w' B e k v rows :=
  ⟨World.ownsRow.kept (row := none) h.row ⟨hb.os, hb.tape, hb.output, hb.size, fun k hk _ => hb.block k (by omega)⟩ (by cases v.ownBlock <;> simp), h.len⟩
theorem OR.mono {w : World} {B B' : Nat} {e : TypeId} {k : Nat} {v : Value} {rows : List (List Value)} (h : OR w B e k v rows) (hb : B' ≤ B) : OR w B' e k v rows := by
  refine ⟨⟨h.row.1, ?_⟩, h.len⟩
  rcases h.row.2 with r | ⟨g, cap, cur, a1, a2, r⟩
  · exact .inl r
  · exact .inr ⟨g, cap, cur, a1, by omega, r⟩
theorem OR.mod {w w' : World} {B q : Nat} {e : TypeId} {k : Nat} {v : Value} {rows : List (List Value)} (h : OR w B e k v rows) (hg : w.grownBy w' (some q)) (hq : v.ownBlock ≠ some q) : OR w' B e k v rows :=
  ⟨h.row.kept hg (.inr hq), h.len⟩
/-- where it lies -/
theorem OR.form {w : World} {B : Nat} {e : TypeId} {k : Nat} {v : Value} {rows : List (List Value)} (h : OR w B e k v rows) (hn : 0 < rows.length) : ∃ g cap, v = .slice (some ⟨g, 0, none⟩) rows.length cap ∧ rows.length ≤ cap ∧ B ≤ g ∧ g < w.heap.size := by
  rcases h.row.2 with ⟨_, h2⟩ | ⟨g, cap, cur, h1, h2, h3, h4, h5, h6, h7⟩
  · omega
  · refine ⟨g, cap, h1, h4, h2, ?_⟩
    rcases Nat.lt_or_ge g w.heap.size with hlt | hge
    · exact hlt
    · rw [Array.getElem?_eq_none hge] at h3; cases h3
theorem OR.rk {w : World} {B : Nat} {e : TypeId} {k : Nat} {v : Value} {rows : List (List Value)} (h : OR w B e k v rows) : Rk w.heap.size w k v rows := by
  rcases h.row.2 with ⟨h1, h2⟩ | ⟨g, cap, cur, h1, h2, h3, h4, h5, h6, h7⟩
  · exact ⟨none, 0, by rw [h1, h2], by omega, fun i hi => absurd hi (by omega)⟩
  · have hg : g < w.heap.size := by
      rcases Nat.lt_or_ge g w.heap.size with hlt | hge
      · exact hlt
      · rw [Array.getElem?_eq_none hge] at h3; cases h3
    refine ⟨some ⟨g, 0, none⟩, cap, h1, h4, fun i hi => ⟨_, rfl, hg, fun j u hu => ?_⟩⟩
    have hrl : (rows.getD i []).length = k := by
      rw [List.getD_eq_getElem?_getD, List.getElem?_eq_getElem hi]; exact h.len _ (List.getElem_mem hi)
    have hj : j < k := by
      rcases Nat.lt_or_ge j k with hlt | hge
      · exact hlt
      · rw [List.getElem?_eq_none (by omega)] at hu; cases hu
    have hlt : i * k + j < rows.length * k := by
      have : (i + 1) * k ≤ rows.length * k := Nat.mul_le_mul_right k (by omega)
      rw [Nat.add_mul] at this; omega
    rw [add_own, cell_of_row w g _ cur e (0, 0) h3]
    have e := flat_get h.len i j hi hj
    rw [← h7, List.getElem?_take_of_lt hlt, hu] at e
    simpa using e
theorem OR.at {w : World} {B g n cap : Nat} {e : TypeId} {k : Nat} {rows : List (List Value)} (h : OR w B e k (.slice (some ⟨g, 0, none⟩) n cap) rows) (i : Nat) (hi : i < rows.length) : ∀ j u, (rows.getD i [])[j]? = some u → w.cell? ((⟨g, i * k, none⟩ : Addr).add j) = some u := by
  intro j u hu
  obtain ⟨ao, c, h1, _, h3⟩ := h.rk
  injection h1 with h1 _ _
  obtain ⟨ad, g1, _, g3⟩ := h3 i hi
  rw [g1] at h1
  obtain rfl : (⟨g, 0, none⟩ : Addr) = ad := Option.some.inj h1
  have := g3 j u hu
  rw [add_own] at this
  rw [← this]
  congr 1
  unfold Addr.add; split <;> simp_all
theorem OR.frozen {w : World} {B g n cap : Nat} {e : TypeId} {k : Nat} {rows : List (List Value)} (h : OR w B e k (.slice (some ⟨g, 0, none⟩) n cap) rows) (j : Nat) : w.frozen? ⟨g, j, none⟩ = false := by
  have hn : n = rows.length := by
    rcases h.row.2 with ⟨h1, _⟩ | ⟨_, _, _, h1, _⟩
    · injection h1 with h1; cases h1
    · injection h1 with _ h1 _
  subst hn
  exact h.row.frozenAt j
/-- what is known of a slice's type and of its elements' -/
structure TI (t e : TypeId) (k by' : Nat) : Prop where
  und : Tryd.prog.underlying t = some (.slice e)
  info : ∃ i z, Tryd.prog.info? e = some i ∧ i.zero = some z ∧ i.size = k ∧ i.bytes = by' ∧ z.cells.size = k
  pos : 0 < k
/-- the slice has an address, or it is nil -/
def Ra (v : Value) : Prop := ∀ n cap, v = .slice none n cap → cap = 0
theorem OR.ra {w : World} {B : Nat} {e : TypeId} {k : Nat} {v : Value} {rows : List (List Value)} (h : OR w B e k v rows) : Ra v := by
  intro n cap hv
  rcases h.row.2 with ⟨h1, _⟩ | ⟨g, c, cur, h1, _⟩
  · rw [h1] at hv; injection hv with _ _ h; exact h.symm
  · rw [h1] at hv; injection hv with h; cases h
theorem run_appk {t e : TypeId} {k by' : Nat} (T : TI t e k by') (ty : TypeId) (w : World) (B N : Nat) (v xv : Value) (rows new : List (List Value)) (hown : OR w B e k v rows) (hx : Rk N w k xv new) (hxa : Ra xv) (hlen : ∀ r ∈ new, r.length = k) (h1 : ∀ r ∈ new, ∀ u ∈ r, u.oneCell' = true) (hl : rows.length + new.length ≤ maxLen) (hby : (rows.length + new.length) * by' ≤ 140737488355328) (hbase : B ≤ w.heap.size) :
    ∃ v' w', (Builtin.append_ #[t, t] ty #[v, xv]).run Tryd.prog w = .ok v' w' ∧ OR w' B e k v' (rows ++ new) ∧ w.grownBy w' v.ownBlock ∧ (v'.ownBlock = v.ownBlock ∨ v'.ownBlock = some w.heap.size) := by
  obtain ⟨i0, z, hi, hz0, hz1, hz2, hz3⟩ := T.info
  obtain ⟨ao, cap, rfl, h2, h3⟩ := hx
  have hlen' : ∀ r ∈ rows ++ new, r.length = k := fun r hr => by
    rcases List.mem_append.1 hr with h | h
    · exact hown.len r h
    · exact hlen r h
  rcases ao with _ | ad
  · have hc0 := hxa _ _ rfl
    have hl0 : new = [] := List.length_eq_zero_iff.1 (by omega)
    subst hl0 hc0
    have hrun := run_append_owned_none (P := Tryd.prog) (w := w) B t ty e i0 k T.und hi v rows.length rows.flatten hown.row
    exact ⟨v, w, hrun, by simpa using hown, ⟨rfl, rfl, rfl, Nat.le_refl _, fun _ _ _ => rfl⟩, .inl rfl⟩
  · obtain ⟨v', w', hr, k2, k3, _, k5⟩ := run_append_own_at (P := Tryd.prog) w B t ty e i0 z k by' T.und hi hz0 hz1 hz2 hz3 T.pos v rows.length rows.flatten hown.row ad new.length cap new.flatten (flat_len hlen) (fun j u hu => by
        have hk := T.pos
        have hjl : j < new.length * k := by
          rcases Nat.lt_or_ge j (new.length * k) with hlt | hge
          · exact hlt
          · rw [List.getElem?_eq_none (by rw [flat_len hlen]; exact hge)] at hu; cases hu
        have hi' : j / k < new.length := by rw [Nat.mul_comm] at hjl; exact Nat.div_lt_of_lt_mul hjl
        obtain ⟨ad', e1, _, e3⟩ := h3 (j / k) hi'
        obtain rfl : ad = ad' := Option.some.inj e1
        have hj : j / k * k + j % k = j := by rw [Nat.mul_comm]; exact Nat.div_add_mod j k
        have e4 := e3 (j % k) u (by rw [← flat_get hlen (j / k) (j % k) hi' (Nat.mod_lt _ hk), hj]; exact hu)
        rw [hj] at e4
        exact e4) (fun u hu => by
        obtain ⟨r, hr, hur⟩ := List.mem_flatten.1 hu
        exact h1 r hr u hur) hl hby hbase
    refine ⟨v', w', hr, ⟨?_, hlen'⟩, k3, k5⟩
    rw [List.flatten_append, List.length_append]
    exact k2
theorem wp_appk {t e : TypeId} {k by' : Nat} (T : TI t e k by') {w : World} {o : Oper} {a : Act} {K : Act → World → Prop} {Q : Exit → Act → World → Prop} (s x : Operand)
    (ho : o.op = .call { callee := .builtin .append, args := #[s, x], argTypes := #[t, t] })
    (B N : Nat) (v xv : Value) (rows new : List (List Value)) (hs : a.eval s = v) (hx : a.eval x = xv) (hown : OR w B e k v rows) (hxv : Rk N w k xv new) (hxa : Ra xv) (hlen : ∀ r ∈ new, r.length = k) (h1 : ∀ r ∈ new, ∀ u ∈ r, u.oneCell' = true) (hl : rows.length + new.length ≤ maxLen) (hby : (rows.length + new.length) * by' ≤ 140737488355328) (hbase : B ≤ w.heap.size)
    (h : ∀ v' w', OR w' B e k v' (rows ++ new) → w.grownBy w' v.ownBlock → (v'.ownBlock = v.ownBlock ∨ v'.ownBlock = some w.heap.size) → K (a.put o.dst v') w') : o.wp Tryd.prog a w K Q := by
  obtain ⟨v', w', hr, h2, h3, h4⟩ := run_appk T o.type w B N v xv rows new hown hxv hxa hlen h1 hl hby hbase
  unfold Oper.wp execOp
  simp only [ho, resolve, invoke, builtin, Sem.run_bind, Sem.run_pure, Result.andThen_ok, List.map_toArray, List.map_cons, List.map_nil, hs, hx, hr]
  exact h v' w' h2 h3 h4
theorem wpList_appk {t e : TypeId} {k by' : Nat} (T : TI t e k by') {w : World} {ops : Array Oper} {rest : List Oper} {o : Oper} {a : Act} {Q : Exit → Act → World → Prop} (hgd : o.guard = none) (s x : Operand)
    (ho : o.op = .call { callee := .builtin .append, args := #[s, x], argTypes := #[t, t] })
    (B N : Nat) (v xv : Value) (rows new : List (List Value)) (hs : a.eval s = v) (hx : a.eval x = xv) (hown : OR w B e k v rows) (hxv : Rk N w k xv new) (hxa : Ra xv) (hlen : ∀ r ∈ new, r.length = k) (h1 : ∀ r ∈ new, ∀ u ∈ r, u.oneCell' = true) (hl : rows.length + new.length ≤ maxLen) (hby : (rows.length + new.length) * by' ≤ 140737488355328) (hbase : B ≤ w.heap.size)
    (h : ∀ v' w', OR w' B e k v' (rows ++ new) → w.grownBy w' v.ownBlock → (v'.ownBlock = v.ownBlock ∨ v'.ownBlock = some w.heap.size) → wpList Tryd.prog ops Q rest (a.put o.dst v') w') : wpList Tryd.prog ops Q (o :: rest) a w :=
  wpList_plain hgd fun _ hK => wp_appk T s x ho B N v xv rows new hs hx hown hxv hxa hlen h1 hl hby hbase fun v' w' h2 h3 h4 => hK _ _ (h v' w' h2 h3 h4)
theorem step_appk {t e : TypeId} {k by' : Nat} (T : TI t e k by') {w : World} {ops : Array Oper} {o : Oper} {a : Act} {K : Act → World → Prop} {Q : Exit → Act → World → Prop} {E : Prop} (hgd : o.guard = none) (s x : Operand)
    (ho : o.op = .call { callee := .builtin .append, args := #[s, x], argTypes := #[t, t] })
    (B N : Nat) (v xv : Value) (rows new : List (List Value)) (hs : a.eval s = v) (hx : a.eval x = xv) (hown : OR w B e k v rows) (hxv : Rk N w k xv new) (hxa : Ra xv) (hlen : ∀ r ∈ new, r.length = k) (h1 : ∀ r ∈ new, ∀ u ∈ r, u.oneCell' = true) (hl : rows.length + new.length ≤ maxLen) (hby : (rows.length + new.length) * by' ≤ 140737488355328) (hbase : B ≤ w.heap.size)
    (h : ∀ v' w', OR w' B e k v' (rows ++ new) → w.grownBy w' v.ownBlock → (v'.ownBlock = v.ownBlock ∨ v'.ownBlock = some w.heap.size) → K (a.put o.dst v') w') :
    if Region.wanted o (yielded ops a.tmps) = true then Oper.wp Tryd.prog o a w K Q else E := by
  have hw : Region.wanted o (yielded ops a.tmps) = true := by simp [Region.wanted, hgd]
  rw [if_pos hw]
  exact wp_appk T s x ho B N v xv rows new hs hx hown hxv hxa hlen h1 hl hby hbase h
/-- one is stored -/
theorem run_stk {w : World} {B g cap : Nat} {e : TypeId} {k : Nat} {rows : List (List Value)} (h : OR w B e k (.slice (some ⟨g, 0, none⟩) rows.length cap) rows) (hi : (Tryd.prog.info? e).map (·.size) = some k) (i : Nat) (r : List Value) (hir : i < rows.length) (hr : r.length = k) (h1 : ∀ u ∈ r, u.oneCell' = true) :
    ∃ w', (storeVar e ⟨g, i * k, none⟩ (.agg r.toArray)).run Tryd.prog w = .ok () w' ∧ OR w' B e k (.slice (some ⟨g, 0, none⟩) rows.length cap) (rows.set i r) ∧ w.grownBy w' (some g) ∧ w'.heap.size = w.heap.size := by
  rcases h.row.2 with ⟨h2, h3⟩ | ⟨g', cap', cur, e1, e2, e3, e4, e5, e6, e7⟩
  · injection h2 with h2; cases h2
  · injection e1 with e1 _ e1'
    injection e1 with e1
    injection e1 with e1
    subst e1 e1'
    have hle : i * k + k ≤ rows.length * k := by
      have : (i + 1) * k ≤ rows.length * k := Nat.mul_le_mul_right k (by omega)
      rw [Nat.add_mul] at this; omega
    have hle2 : rows.length * k ≤ cap * k := Nat.mul_le_mul_right k e4
    have hst := run_storeCells_at (P := Tryd.prog) g (i * k) e r 0 cur w e3 (by rw [hr, e6]; omega) h1
    rw [Nat.add_zero, hr] at hst
    obtain ⟨NC, hNC⟩ : ∃ NC : List Value, NC = cur.toList.take (i * k) ++ r ++ cur.toList.drop (i * k + k) := ⟨_, rfl⟩
    rw [← hNC] at hst
    have hcl : cur.toList.length = cap * k := by rw [← e6]; simp
    have hNl : NC.length = cap * k := by rw [hNC]; simp only [List.length_append, List.length_take, List.length_drop, hcl, hr]; omega
    have hset : ∀ x ∈ rows.set i r, x.length = k := fun x hx => by
      rcases List.mem_or_eq_of_mem_set hx with h5 | h5
      · exact h.len x h5
      · rw [h5]; exact hr
    refine ⟨w.setRow g NC.toArray, ?_, ⟨⟨?_, .inr ⟨g, cap, NC.toArray, by rw [List.length_set], e2, setRow_heap w g cur _ e (0, 0) e3, by rw [List.length_set]; exact e4, e5, by simpa using hNl, ?_⟩⟩, hset⟩, ⟨rfl, rfl, rfl, by simp, fun q _ hq => setRow_other w g q _ (fun e => hq (by rw [e]))⟩, by simp⟩
    · cases hq : Tryd.prog.info? e with
      | none => simp [hq] at hi
      | some ii =>
        have hs : ii.size = k := by simpa [hq] using hi
        simp [storeVar, sizeOf, typeInfo, hq, Value.cells, hs, hr]
        exact hst
    · rw [flat_len hset]
    · rw [List.length_set, ← flat_set h.len i r hir, hNC, ← e7]
      simp only
      rw [List.take_take, Nat.min_eq_left (by omega), List.take_append, List.take_append, List.length_append, List.length_take, hcl, Nat.min_eq_left (by omega), hr, List.take_take, Nat.min_eq_right (by omega), List.take_of_length_le (l := r) (by omega), List.drop_take]
theorem wp_stk {o : Oper} {a : Act} {w : World} {K : Act → World → Prop} {Q : Exit → Act → World → Prop} (e : TypeId) (x y : Operand) (ho : o.op = .store e x y)
    {B g cap k : Nat} {rows : List (List Value)} (i : Nat) (r : List Value) (h : OR w B e k (.slice (some ⟨g, 0, none⟩) rows.length cap) rows) (hi : (Tryd.prog.info? e).map (·.size) = some k) (hx : a.eval x = .pointer (some ⟨g, i * k, none⟩)) (hy : a.eval y = .agg r.toArray) (hir : i < rows.length) (hr : r.length = k) (h1 : ∀ u ∈ r, u.oneCell' = true)
    (hK : ∀ w', OR w' B e k (.slice (some ⟨g, 0, none⟩) rows.length cap) (rows.set i r) → w.grownBy w' (some g) → w'.heap.size = w.heap.size → K (a.put o.dst undef) w') : o.wp Tryd.prog a w K Q := by
  obtain ⟨w', h2, h3, h4, h5⟩ := run_stk h hi i r hir hr h1
  unfold Oper.wp execOp
  simp only [ho, hx, hy, Instr.storeAt, Instr.sureAddr, Sem.run_bind, Sem.run_pure, Result.andThen_ok, h2]
  exact hK w' h3 h4 h5
theorem wpList_stk {ops : Array Oper} {rest : List Oper} {o : Oper} {a : Act} {w : World} {Q : Exit → Act → World → Prop} (hgd : o.guard = none) (e : TypeId) (x y : Operand) (ho : o.op = .store e x y)
    {B g cap k : Nat} {rows : List (List Value)} (i : Nat) (r : List Value) (h : OR w B e k (.slice (some ⟨g, 0, none⟩) rows.length cap) rows) (hi : (Tryd.prog.info? e).map (·.size) = some k) (hx : a.eval x = .pointer (some ⟨g, i * k, none⟩)) (hy : a.eval y = .agg r.toArray) (hir : i < rows.length) (hr : r.length = k) (h1 : ∀ u ∈ r, u.oneCell' = true)
    (hK : ∀ w', OR w' B e k (.slice (some ⟨g, 0, none⟩) rows.length cap) (rows.set i r) → w.grownBy w' (some g) → w'.heap.size = w.heap.size → wpList Tryd.prog ops Q rest (a.put o.dst undef) w') : wpList Tryd.prog ops Q (o :: rest) a w :=
  wpList_plain hgd fun _ hk => wp_stk e x y ho i r h hi hx hy hir hr h1 fun w' h2 h3 h4 => hk _ _ (hK w' h2 h3 h4)
/-- a block, whole -/
def Bk (p : Nat) (v : World) (cs : Array Value) (T : TypeId) : Prop := v.heap[p]? = some (.cells cs T (0, 0))
theorem Bk.cell {p : Nat} {v : World} {cs : Array Value} {T : TypeId} (h : Bk p v cs T) (j : Nat) : v.cell? ⟨p, j, none⟩ = cs[j]? := cell_of_row v p j _ _ _ h
theorem Bk.frozen {p : Nat} {v : World} {cs : Array Value} {T : TypeId} (h : Bk p v cs T) (j : Nat) : v.frozen? ⟨p, j, none⟩ = false := by
  unfold Bk at h; simp [World.frozen?, h]
theorem Bk.lt {p : Nat} {v : World} {cs : Array Value} {T : TypeId} (h : Bk p v cs T) : p < v.heap.size := by
  rcases Nat.lt_or_ge p v.heap.size with hlt | hge
  · exact hlt
  · unfold Bk at h; rw [Array.getElem?_eq_none hge] at h; cases h
theorem Bk.new (w : World) (cs : Array Value) (T : TypeId) : Bk w.heap.size (w.alloc (.cells cs T)) cs T := heap_alloc_new w _
theorem Bk.kept {p : Nat} {v v' : World} {cs : Array Value} {T : TypeId} (h : Bk p v cs T) (hb : v'.heap[p]? = v.heap[p]?) : Bk p v' cs T := by unfold Bk at h ⊢; rw [hb]; exact h
theorem Bk.set {p j : Nat} {v : World} {cs : Array Value} {T : TypeId} (h : Bk p v cs T) (x : Value) : Bk p (v.setCell ⟨p, j, none⟩ x) (cs.setIfInBounds j x) T := heap_setCell_same v p j cs T x h
theorem getD_map' {α : Type} (f : α → List Value) (l : List α) (i : Nat) (h : i < l.length) : (l.map f).getD i [] = f l[i] := by
  rw [List.getD_eq_getElem?_getD, List.getElem?_map, List.getElem?_eq_getElem h]; rfl
theorem alloc_at (w : World) (o : Obj) : (w.alloc o).heap[w.heap.size]? = some o := by
  show (w.heap.push o)[w.heap.size]? = some o
  simp
theorem size_alloc1 (w : World) (o : Obj) : (w.alloc o).heap.size = w.heap.size + 1 := by simp
theorem below_row {B g : Nat} {w0 w : World} (hb : Below B w0 w) (hBg : B ≤ g) (cs : Array Value) : Below B w0 (w.setRow g cs) :=
  hb.trans ⟨rfl, rfl, rfl, by simp [World.setRow], fun k hk => setRow_other w g k cs (by omega)⟩
theorem below_dr {B : Nat} {a w : World} (h : Below B a w) (n : Nat) : Below B a (w.drewN n) := ⟨h.os, h.tape, h.output, h.size, h.block⟩
theorem wpOp_st {ops : Array Oper} {Q : Exit → Act → World → Prop} {i : Nat} {K : Act → World → Prop} {a : Act} {w : World} {g : Nat} {T : TypeId} (o : Oper) (ho : ops[i]? = some o) (hg : o.guard = none) (x y : Operand) (hop : o.op = .store T x y) (cells : Array Value)
    (hx : a.eval x = .pointer (some ⟨g, 0, none⟩)) (hy : a.eval y = .agg cells) (old : Array Value) (hB : w.heap[g]? = some (.cells old T (0, 0))) (hs : (Tryd.prog.info? T).map (·.size) = some cells.size) (hold : old.size = cells.size) (h1 : cells.all (·.oneCell') = true)
    (h : K (a.put o.dst undef) (w.setRow g cells)) : wpOp Tryd.prog ops Q i K a w := by
  unfold wpOp
  rw [ho]
  have hw : Region.wanted o (yielded ops a.tmps) = true := by simp [Region.wanted, hg]
  simp only [hw, if_true]
  exact .inl (wp_store_row _ x y hop g cells hx hy _ old hB hs hold h1 h)
theorem step_stR {ops : Array Oper} {rest : List Oper} {o : Oper} {a : Act} {w : World} {Q : Exit → Act → World → Prop} {T : TypeId} (hw : Region.wanted o (yielded ops a.tmps) = true) (x y : Operand) (ho : o.op = .store T x y)
    (g : Nat) (cells : Array Value) (hx : a.eval x = .pointer (some ⟨g, 0, none⟩)) (hy : a.eval y = .agg cells) (old : Array Value) (hs : (Tryd.prog.info? T).map (·.size) = some cells.size) (hold : old.size = cells.size) (h1 : cells.all (·.oneCell') = true) (hB : w.heap[g]? = some (.cells old T (0, 0)))
    (h : wpList Tryd.prog ops Q rest (a.put o.dst undef) (w.setRow g cells)) : wpList Tryd.prog ops Q (o :: rest) a w :=
  wpList_step fun K hK => by rw [if_pos hw]; exact wp_store_row _ x y ho g cells hx hy _ old hB hs hold h1 (hK _ _ h)
theorem cells_of {W : World} {g : Nat} {l : List Value} {T : TypeId} (h : W.heap[g]? = some (.cells l.toArray T (0, 0))) : ∀ j u, l[j]? = some u → W.cell? ((⟨g, 0, none⟩ : Addr).add j) = some u := fun j u hu => by
  have e : (⟨g, 0, none⟩ : Addr).add j = ⟨g, j, none⟩ := by unfold Addr.add; split <;> simp_all
  rw [e, cell_of_row W g j _ _ (0, 0) h]
  simpa using hu
theorem seq_hid {P : Program} {c1 c2 : Code} {Q : Exit → Act → World → Prop} {a : Act} {w : World} (h : ∀ R, Hid (R = c2) → Code.wp P (c1.seq R) Q a w) : Code.wp P (c1.seq c2) Q a w := h c2 rfl
theorem post_hid {P : Program} {c : Code} {Q : Exit → Act → World → Prop} {a : Act} {w : World} (h : ∀ R, Hid (R = Q) → Code.wp P c R a w) : Code.wp P c Q a w := h Q rfl
theorem world_hid {P : Program} {c : Code} {Q : Exit → Act → World → Prop} {a : Act} {w : World} (h : ∀ W, Hid (W = w) → Code.wp P c Q a W) : Code.wp P c Q a w := h w rfl
theorem grownBy_set (w : World) (a : Addr) (v : Value) : w.grownBy (w.setCell a v) (some a.block) := ⟨rfl, rfl, rfl, by simp, fun k hk hne => Below.heap_setCell w a v k (fun e => hne (by rw [e]))⟩
theorem grownBy_trans {a b c : World} {r : Option Nat} (h : a.grownBy b r) (k : b.grownBy c r) : a.grownBy c r := ⟨k.os.trans h.os, k.tape.trans h.tape, k.output.trans h.output, Nat.le_trans h.size k.size, fun i hi hr => (k.block i (Nat.lt_of_lt_of_le hi h.size) hr).trans (h.block i hi hr)⟩
theorem grownBy_drewN (w : World) (n : Nat) (r : Option Nat) : w.grownBy (w.drewN n) r := ⟨rfl, rfl, rfl, Nat.le_refl _, fun _ _ _ => rfl⟩
theorem grownBy_drew (w : World) (r : Option Nat) : w.grownBy w.drew r := ⟨rfl, rfl, rfl, Nat.le_refl _, fun _ _ _ => rfl⟩
theorem grownBy_below {w w' : World} (h : Below w.heap.size w w') (r : Option Nat) : w.grownBy w' r := ⟨h.os, h.tape, h.output, h.size, fun k hk _ => h.block k hk⟩
/-- GL's law, where the calls make blocks of their own -/
theorem wp_region_last_below {P : Program} {id : Nat} {Q : Exit → Act → World → Prop} {a : Act} {w : World} {l : List Oper} (hm : P.follows .mixedOrders = true) (hL : lastB l = true) (hn : l.isEmpty = false) (hB : Region.lexB .any (idleLast l).toArray = true)
    (h : wpQuiet P (idleLast l).toArray (fun w' => ∃ p : Regrown, w' = grow (redrawn w p.d) p.os) (fun a => ∀ w', (∃ p : Regrown, w' = grow (redrawn w p.d) p.os) → wpOp P l.toArray Q (l.length - 1) (fun a' w'' => Q .normal a' w'') a w') (idleLast l) a) : (Code.region id l.toArray true).wp P Q a w := by
  have hne : l ≠ [] := by intro e; rw [e] at hn; cases hn
  simp only [Region.lexB, Bool.and_eq_true] at hB
  refine wp_region_any hm (wpAny_last (C := fun w' => ∃ p : Regrown, w' = grow (redrawn w p.d) p.os) hL hne _ _ _ _ ⟨⟨w.drawn + 1, #[]⟩, by rw [grow_empty]; rfl⟩ (by simp) ?_ ?_)
  · have hp : 0 < l.length := List.length_pos_iff.2 hne
    have hp2 : l.length - 1 < l.length := by omega
    simp [hp2]
  · have := wpAnyQ_lex (C := fun w' => ∃ p : Regrown, w' = grow (redrawn w p.d) p.os) (md := .any) hB.1 (idleLast l) 0 (Array.replicate (idleLast l).toArray.size false) a (by simp) (by simpa using hB.2) h
    simpa [idle_len] using this
theorem quiet_ld6 {ops : Array Oper} {rest : List Oper} {o : Oper} {a : Act} {C : World → Prop} {Q : Act → Prop} (hw : Region.wanted o (yielded ops a.tmps) = true) (ty : TypeId) (x : Operand) (ho : o.op = .load ty x)
    (ad : Addr) (hx : a.eval x = .pointer (some ad)) (cs : List Value) (d : TypeDesc) (hu : Tryd.prog.underlying ty = some d) (hd : d.isRow = true) (hi : (Tryd.prog.info? ty).map (·.size) = some cs.length)
    (hc : ∀ w, C w → ∀ j u, cs[j]? = some u → w.cell? (ad.add j) = some u)
    (h : wpQuiet Tryd.prog ops C Q rest (a.put o.dst (.agg cs.toArray))) : wpQuiet Tryd.prog ops C Q (o :: rest) a := by
  unfold wpQuiet
  rw [if_pos hw]
  refine ⟨.agg cs.toArray, fun w hw => ?_, h⟩
  unfold Oper.quietAt execOp
  simp only [ho, hx, Instr.loadAt, Instr.sureAddr, Sem.run_bind, Sem.run_pure, Result.andThen_ok, run_loadVar_at w ad ty cs d (hc w hw) hu hd hi]
  exact ⟨rfl, rfl⟩
theorem wpOp_stk {ops : Array Oper} {Q : Exit → Act → World → Prop} {i0 : Nat} {K : Act → World → Prop} {a : Act} {w : World} (o : Oper) (ho : ops[i0]? = some o) (hgd : o.guard = none) (e : TypeId) (x y : Operand) (hop : o.op = .store e x y)
    {B g cap k : Nat} {rows : List (List Value)} (i : Nat) (r : List Value) (h : OR w B e k (.slice (some ⟨g, 0, none⟩) rows.length cap) rows) (hi : (Tryd.prog.info? e).map (·.size) = some k) (hx : a.eval x = .pointer (some ⟨g, i * k, none⟩)) (hy : a.eval y = .agg r.toArray) (hir : i < rows.length) (hr : r.length = k) (h1 : ∀ u ∈ r, u.oneCell' = true)
    (hK : ∀ w', OR w' B e k (.slice (some ⟨g, 0, none⟩) rows.length cap) (rows.set i r) → w.grownBy w' (some g) → w'.heap.size = w.heap.size → K (a.put o.dst undef) w') : wpOp Tryd.prog ops Q i0 K a w := by
  unfold wpOp
  rw [ho]
  have hw : Region.wanted o (yielded ops a.tmps) = true := by simp [Region.wanted, hgd]
  simp only [hw, if_true]
  exact .inl (wp_stk e x y hop i r h hi hx hy hir hr h1 hK)
theorem run_stin1 {w : World} {p : Nat} {T : TypeId} {cs : List Value} (h : Bk p w cs.toArray T) (e : TypeId) (o : Nat) (v : Value) (hv : v.cells = #[v]) (hi : (Tryd.prog.info? e).map (·.size) = some 1) (hle : o < cs.length) (h1 : v.oneCell' = true) :
    (storeVar e ⟨p, o, none⟩ v).run Tryd.prog w = .ok () (w.setRow p (cs.set o v).toArray) := by
  have hst := run_storeCells_at (P := Tryd.prog) p o T [v] 0 cs.toArray w h (by simp; omega) (by intro u hu; simp at hu; rw [hu]; exact h1)
  rw [Nat.add_zero] at hst
  have e2 : cs.set o v = cs.take o ++ [v] ++ cs.drop (o + 1) := by rw [List.set_eq_take_append_cons_drop, if_pos hle]; simp
  cases hq : Tryd.prog.info? e with
  | none => simp [hq] at hi
  | some ii =>
    have hs : ii.size = 1 := by simpa [hq] using hi
    rw [e2]
    simp [storeVar, sizeOf, typeInfo, hq, hv, hs]
    simpa using hst
theorem wpOp_stin1 {ops : Array Oper} {Q : Exit → Act → World → Prop} {i0 : Nat} {K : Act → World → Prop} {a : Act} {w : World} (o : Oper) (ho : ops[i0]? = some o) (hgd : o.guard = none) (e : TypeId) (x y : Operand) (hop : o.op = .store e x y)
    {p : Nat} {T : TypeId} {cs : List Value} (h : Bk p w cs.toArray T) (i : Nat) (v : Value) (hx : a.eval x = .pointer (some ⟨p, i, none⟩)) (hy : a.eval y = v) (hv : v.cells = #[v]) (hi : (Tryd.prog.info? e).map (·.size) = some 1) (hle : i < cs.length) (h1 : v.oneCell' = true)
    (hK : K (a.put o.dst undef) (w.setRow p (cs.set i v).toArray)) : wpOp Tryd.prog ops Q i0 K a w := by
  unfold wpOp
  rw [ho]
  have hw : Region.wanted o (yielded ops a.tmps) = true := by simp [Region.wanted, hgd]
  simp only [hw, if_true]
  refine .inl ?_
  unfold Oper.wp execOp
  simp only [hop, hx, hy, Instr.storeAt, Instr.sureAddr, Sem.run_bind, Sem.run_pure, Result.andThen_ok, run_stin1 h e i v hv hi hle h1]
  exact hK
theorem grownBy_row (w : World) (p : Nat) (cs : Array Value) : w.grownBy (w.setRow p cs) (some p) := ⟨rfl, rfl, rfl, by simp [World.setRow], fun k _ hne => setRow_other w p k cs (fun e => hne (by rw [e]))⟩
theorem Bk.row {p : Nat} {v : World} {cs : Array Value} {T : TypeId} (h : Bk p v cs T) (cs' : Array Value) : Bk p (v.setRow p cs') cs' T := setRow_heap _ _ _ _ _ _ h
/-- one cell of a block is stored, what comes of it a letter -/
theorem wpOp_stL {ops : Array Oper} {Q : Exit → Act → World → Prop} {i0 : Nat} {K : Act → World → Prop} {a : Act} {w : World} (o : Oper) (ho : ops[i0]? = some o) (hgd : o.guard = none) (e : TypeId) (x y : Operand) (hop : o.op = .store e x y)
    {p : Nat} {T : TypeId} {cs : List Value} (h : Bk p w cs.toArray T) (i : Nat) (v : Value) (hx : a.eval x = .pointer (some ⟨p, i, none⟩)) (hy : a.eval y = v) (hv : v.cells = #[v]) (hi : (Tryd.prog.info? e).map (·.size) = some 1) (hle : i < cs.length) (h1 : v.oneCell' = true)
    (hK : ∀ w', Bk p w' (cs.set i v).toArray T → w.grownBy w' (some p) → w'.heap.size = w.heap.size → K (a.put o.dst undef) w') : wpOp Tryd.prog ops Q i0 K a w :=
  wpOp_stin1 o ho hgd e x y hop h i v hx hy hv hi hle h1 (hK _ (h.row _) (grownBy_row _ _ _) (by simp [World.setRow]))
end Go.Proofs.YtocimfhagkcnlaaDoor
