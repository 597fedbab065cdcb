/- Rows of several cells each that the call has made: read, appended to, stored into. -/
import Derived.Test.YtmgphfdieekpdaaEA
import Derived.Laws.AppendOwn
import Derived.Laws.OwnMore
import Derived.Laws.Tables
import Derived.Maps.AppendAt
namespace Go.Proofs.Ytmgphfdieekpdaa
open Go Go.RowKit
theorem flat_len {k : Nat} {rows : List (List Value)} (h : ∀ r ∈ rows, r.length = k) : rows.flatten.length = rows.length * k := by
  induction rows with
  | nil => simp
  | cons r t ih =>
    rw [List.flatten_cons, List.length_append, ih (fun x hx => h x (List.mem_cons_of_mem _ hx)), h r (List.mem_cons_self ..), List.length_cons, Nat.add_mul]; omega
theorem flat_get {k : Nat} {rows : List (List Value)} (h : ∀ r ∈ rows, r.length = k) (i j : Nat) (hi : i < rows.length) (hj : j < k) : rows.flatten[i * k + j]? = (rows.getD i [])[j]? := by
  induction rows generalizing i with
  | nil => exact absurd hi (by simp)
  | cons r t ih =>
    have hr := h r (List.mem_cons_self ..)
    rw [List.flatten_cons]
    cases i with
    | zero => rw [Nat.zero_mul, Nat.zero_add, List.getElem?_append_left (by omega)]; rfl
    | succ i =>
      rw [List.getElem?_append_right (by rw [hr, Nat.add_mul]; omega), hr, show (i + 1) * k + j - k = i * k + j from by rw [Nat.add_mul]; omega, ih (fun x hx => h x (List.mem_cons_of_mem _ hx)) i (by simpa using hi)]
      rfl
theorem flat_set {k : Nat} {rows : List (List Value)} (h : ∀ r ∈ rows, r.length = k) (i : Nat) (r : List Value) (hi : i < rows.length) : rows.flatten.take (i * k) ++ r ++ rows.flatten.drop (i * k + k) = (rows.set i r).flatten := by
  induction rows generalizing i with
  | nil => exact absurd hi (by simp)
  | cons s t ih =>
    have hs := h s (List.mem_cons_self ..)
    rw [List.flatten_cons]
    cases i with
    | zero =>
      rw [Nat.zero_mul, Nat.zero_add, List.take_zero, List.nil_append, List.drop_append, hs, Nat.sub_self, List.drop_zero, List.drop_of_length_le (by omega), List.nil_append, List.set_cons_zero, List.flatten_cons]
    | succ i =>
      rw [List.set_cons_succ, List.flatten_cons, ← ih (fun x hx => h x (List.mem_cons_of_mem _ hx)) i (by simpa using hi)]
      have e1 : (i + 1) * k = s.length + i * k := by rw [hs, Nat.add_mul]; omega
      rw [e1, List.take_length_add_append, Nat.add_assoc, List.drop_length_add_append, List.append_assoc, List.append_assoc, List.append_assoc]
/-- rows of k cells that the call has made, from block B on -/
structure OR (w : World) (B : Nat) (e : TypeId) (k : Nat) (v : Value) (rows : List (List Value)) : Prop where
  row : w.ownsRow B e k v rows.length rows.flatten
  len : ∀ r ∈ rows, r.length = k
theorem OR.nil (w : World) (B : Nat) (e : TypeId) (k : Nat) : OR w B e k (.slice none 0 0) [] := ⟨World.ownsRow_nil _ _ _ _, fun x hx => by cases hx⟩
theorem OR.fresh (w : World) (B : Nat) (e : TypeId) (k : Nat) (hB : B ≤ w.heap.size) : OR (w.alloc (.cells #[] e)) B e k (.slice (some ⟨w.heap.size, 0, none⟩) 0 0) [] := ⟨World.ownsRow_made w #[] 0 hB (by simp) (by simp), fun x hx => by cases hx⟩
theorem OR.alloc {w : World} {B : Nat} {e : TypeId} {k : Nat} {v : Value} {rows : List (List Value)} (h : OR w B e k v rows) (o : Obj) : OR (w.alloc o) B e k v rows := ⟨h.row.alloc o, h.len⟩
theorem OR.drew {w : World} {B : Nat} {e : TypeId} {k : Nat} {v : Value} {rows : List (List Value)} (h : OR w B e k v rows) : OR w.drew B e k v rows := ⟨h.row, h.len⟩
theorem OR.drewN {w : World} {B : Nat} {e : TypeId} {k : Nat} {v : Value} {rows : List (List Value)} (h : OR w B e k v rows) (n : Nat) : OR (w.drewN n) B e k v rows := ⟨h.row, h.len⟩
theorem OR.below {w w' : World} {B C : Nat} {e : TypeId} {k : Nat} {v : Value} {rows : List (List Value)} (h : OR w B e k v rows) (hb : Below C w w') (hC : w.heap.size ≤ C) : OR w' B e k v rows :=
  ⟨World.ownsRow.kept (row := none) h.row ⟨hb.os, hb.tape, hb.output, hb.size, fun k hk _ => hb.block k (by omega)⟩ (by cases v.ownBlock <;> simp), h.len⟩
theorem OR.mono {w : World} {B B' : Nat} {e : TypeId} {k : Nat} {v : Value} {rows : List (List Value)} (h : OR w B e k v rows) (hb : B' ≤ B) : OR w B' e k v rows := by
  refine ⟨⟨h.row.1, ?_⟩, h.len⟩
  rcases h.row.2 with r | ⟨g, cap, cur, a1, a2, r⟩
  · exact .inl r
  · exact .inr ⟨g, cap, cur, a1, by omega, r⟩
theorem OR.mod {w w' : World} {B q : Nat} {e : TypeId} {k : Nat} {v : Value} {rows : List (List Value)} (h : OR w B e k v rows) (hg : w.grownBy w' (some q)) (hq : v.ownBlock ≠ some q) : OR w' B e k v rows :=
  ⟨h.row.kept hg (.inr hq), h.len⟩
/-- where it lies -/
theorem OR.form {w : World} {B : Nat} {e : TypeId} {k : Nat} {v : Value} {rows : List (List Value)} (h : OR w B e k v rows) (hn : 0 < rows.length) : ∃ g cap, v = .slice (some ⟨g, 0, none⟩) rows.length cap ∧ rows.length ≤ cap ∧ B ≤ g ∧ g < w.heap.size := by
  rcases h.row.2 with ⟨_, h2⟩ | ⟨g, cap, cur, h1, h2, h3, h4, h5, h6, h7⟩
  · omega
  · refine ⟨g, cap, h1, h4, h2, ?_⟩
    rcases Nat.lt_or_ge g w.heap.size with hlt | hge
    · exact hlt
    · rw [Array.getElem?_eq_none hge] at h3; cases h3
theorem OR.rk {w : World} {B : Nat} {e : TypeId} {k : Nat} {v : Value} {rows : List (List Value)} (h : OR w B e k v rows) : Rk w.heap.size w k v rows := by
  rcases h.row.2 with ⟨h1, h2⟩ | ⟨g, cap, cur, h1, h2, h3, h4, h5, h6, h7⟩
  · exact ⟨none, 0, by rw [h1, h2], by omega, fun i hi => absurd hi (by omega)⟩
  · have hg : g < w.heap.size := by
      rcases Nat.lt_or_ge g w.heap.size with hlt | hge
      · exact hlt
      · rw [Array.getElem?_eq_none hge] at h3; cases h3
    refine ⟨some ⟨g, 0, none⟩, cap, h1, h4, fun i hi => ⟨_, rfl, hg, fun j u hu => ?_⟩⟩
    have hrl : (rows.getD i []).length = k := by
      rw [List.getD_eq_getElem?_getD, List.getElem?_eq_getElem hi]; exact h.len _ (List.getElem_mem hi)
    have hj : j < k := by
      rcases Nat.lt_or_ge j k with hlt | hge
      · exact hlt
      · rw [List.getElem?_eq_none (by omega)] at hu; cases hu
    have hlt : i * k + j < rows.length * k := by
      have : (i + 1) * k ≤ rows.length * k := Nat.mul_le_mul_right k (by omega)
      rw [Nat.add_mul] at this; omega
    rw [add_own, cell_of_row w g _ cur e (0, 0) h3]
    have e := flat_get h.len i j hi hj
    rw [← h7, List.getElem?_take_of_lt hlt, hu] at e
    simpa using e
theorem OR.at {w : World} {B g n cap : Nat} {e : TypeId} {k : Nat} {rows : List (List Value)} (h : OR w B e k (.slice (some ⟨g, 0, none⟩) n cap) rows) (i : Nat) (hi : i < rows.length) : ∀ j u, (rows.getD i [])[j]? = some u → w.cell? ((⟨g, i * k, none⟩ : Addr).add j) = some u := by
  intro j u hu
  obtain ⟨ao, c, h1, _, h3⟩ := h.rk
  injection h1 with h1 _ _
  obtain ⟨ad, g1, _, g3⟩ := h3 i hi
  rw [g1] at h1
  obtain rfl : (⟨g, 0, none⟩ : Addr) = ad := Option.some.inj h1
  have := g3 j u hu
  rw [add_own] at this
  rw [← this]
  congr 1
  unfold Addr.add; split <;> simp_all
theorem OR.frozen {w : World} {B g n cap : Nat} {e : TypeId} {k : Nat} {rows : List (List Value)} (h : OR w B e k (.slice (some ⟨g, 0, none⟩) n cap) rows) (j : Nat) : w.frozen? ⟨g, j, none⟩ = false := by
  have hn : n = rows.length := by
    rcases h.row.2 with ⟨h1, _⟩ | ⟨_, _, _, h1, _⟩
    · injection h1 with h1; cases h1
    · injection h1 with _ h1 _
  subst hn
  exact h.row.frozenAt j
/-- what is known of a slice's type and of its elements' -/
structure TI (t e : TypeId) (k by' : Nat) : Prop where
  und : Try.prog.underlying t = some (.slice e)
  info : ∃ i z, Try.prog.info? e = some i ∧ i.zero = some z ∧ i.size = k ∧ i.bytes = by' ∧ z.cells.size = k
  pos : 0 < k
/-- the slice has an address, or it is nil -/
def Ra (v : Value) : Prop := ∀ n cap, v = .slice none n cap → cap = 0
theorem OR.ra {w : World} {B : Nat} {e : TypeId} {k : Nat} {v : Value} {rows : List (List Value)} (h : OR w B e k v rows) : Ra v := by
  intro n cap hv
  rcases h.row.2 with ⟨h1, _⟩ | ⟨g, c, cur, h1, _⟩
  · rw [h1] at hv; injection hv with _ _ h; exact h.symm
  · rw [h1] at hv; injection hv with h; cases h
theorem run_appk {t e : TypeId} {k by' : Nat} (T : TI t e k by') (ty : TypeId) (w : World) (B N : Nat) (v xv : Value) (rows new : List (List Value)) (hown : OR w B e k v rows) (hx : Rk N w k xv new) (hxa : Ra xv) (hlen : ∀ r ∈ new, r.length = k) (h1 : ∀ r ∈ new, ∀ u ∈ r, u.oneCell' = true) (hl : rows.length + new.length ≤ maxLen) (hby : (rows.length + new.length) * by' ≤ 140737488355328) (hbase : B ≤ w.heap.size) :
    ∃ v' w', (Builtin.append_ #[t, t] ty #[v, xv]).run Try.prog w = .ok v' w' ∧ OR w' B e k v' (rows ++ new) ∧ w.grownBy w' v.ownBlock ∧ (v'.ownBlock = v.ownBlock ∨ v'.ownBlock = some w.heap.size) := by
  obtain ⟨i0, z, hi, hz0, hz1, hz2, hz3⟩ := T.info
  obtain ⟨ao, cap, rfl, h2, h3⟩ := hx
  have hlen' : ∀ r ∈ rows ++ new, r.length = k := fun r hr => by
    rcases List.mem_append.1 hr with h | h
    · exact hown.len r h
    · exact hlen r h
  rcases ao with _ | ad
  · have hc0 := hxa _ _ rfl
    have hl0 : new = [] := List.length_eq_zero_iff.1 (by omega)
    subst hl0 hc0
    have hrun := run_append_owned_none (P := Try.prog) (w := w) B t ty e i0 k T.und hi v rows.length rows.flatten hown.row
    exact ⟨v, w, hrun, by simpa using hown, ⟨rfl, rfl, rfl, Nat.le_refl _, fun _ _ _ => rfl⟩, .inl rfl⟩
  · obtain ⟨v', w', hr, k2, k3, _, k5⟩ := run_append_own_at (P := Try.prog) w B t ty e i0 z k by' T.und hi hz0 hz1 hz2 hz3 T.pos v rows.length rows.flatten hown.row ad new.length cap new.flatten (flat_len hlen) (fun j u hu => by
        have hk := T.pos
        have hjl : j < new.length * k := by
          rcases Nat.lt_or_ge j (new.length * k) with hlt | hge
          · exact hlt
          · rw [List.getElem?_eq_none (by rw [flat_len hlen]; exact hge)] at hu; cases hu
        have hi' : j / k < new.length := by rw [Nat.mul_comm] at hjl; exact Nat.div_lt_of_lt_mul hjl
        obtain ⟨ad', e1, _, e3⟩ := h3 (j / k) hi'
        obtain rfl : ad = ad' := Option.some.inj e1
        have hj : j / k * k + j % k = j := by rw [Nat.mul_comm]; exact Nat.div_add_mod j k
        have e4 := e3 (j % k) u (by rw [← flat_get hlen (j / k) (j % k) hi' (Nat.mod_lt _ hk), hj]; exact hu)
        rw [hj] at e4
        exact e4) (fun u hu => by
        obtain ⟨r, hr, hur⟩ := List.mem_flatten.1 hu
        exact h1 r hr u hur) hl hby hbase
    refine ⟨v', w', hr, ⟨?_, hlen'⟩, k3, k5⟩
    rw [List.flatten_append, List.length_append]
    exact k2
theorem wp_appk {t e : TypeId} {k by' : Nat} (T : TI t e k by') {w : World} {o : Oper} {a : Act} {K : Act → World → Prop} {Q : Exit → Act → World → Prop} (s x : Operand)
    (ho : o.op = .call { callee := .builtin .append, args := #[s, x], argTypes := #[t, t] })
    (B N : Nat) (v xv : Value) (rows new : List (List Value)) (hs : a.eval s = v) (hx : a.eval x = xv) (hown : OR w B e k v rows) (hxv : Rk N w k xv new) (hxa : Ra xv) (hlen : ∀ r ∈ new, r.length = k) (h1 : ∀ r ∈ new, ∀ u ∈ r, u.oneCell' = true) (hl : rows.length + new.length ≤ maxLen) (hby : (rows.length + new.length) * by' ≤ 140737488355328) (hbase : B ≤ w.heap.size)
    (h : ∀ v' w', OR w' B e k v' (rows ++ new) → w.grownBy w' v.ownBlock → (v'.ownBlock = v.ownBlock ∨ v'.ownBlock = some w.heap.size) → K (a.put o.dst v') w') : o.wp Try.prog a w K Q := by
  obtain ⟨v', w', hr, h2, h3, h4⟩ := run_appk T o.type w B N v xv rows new hown hxv hxa hlen h1 hl hby hbase
  unfold Oper.wp execOp
  simp only [ho, resolve, invoke, builtin, Sem.run_bind, Sem.run_pure, Result.andThen_ok, List.map_toArray, List.map_cons, List.map_nil, hs, hx, hr]
  exact h v' w' h2 h3 h4
theorem wpList_appk {t e : TypeId} {k by' : Nat} (T : TI t e k by') {w : World} {ops : Array Oper} {rest : List Oper} {o : Oper} {a : Act} {Q : Exit → Act → World → Prop} (hgd : o.guard = none) (s x : Operand)
    (ho : o.op = .call { callee := .builtin .append, args := #[s, x], argTypes := #[t, t] })
    (B N : Nat) (v xv : Value) (rows new : List (List Value)) (hs : a.eval s = v) (hx : a.eval x = xv) (hown : OR w B e k v rows) (hxv : Rk N w k xv new) (hxa : Ra xv) (hlen : ∀ r ∈ new, r.length = k) (h1 : ∀ r ∈ new, ∀ u ∈ r, u.oneCell' = true) (hl : rows.length + new.length ≤ maxLen) (hby : (rows.length + new.length) * by' ≤ 140737488355328) (hbase : B ≤ w.heap.size)
    (h : ∀ v' w', OR w' B e k v' (rows ++ new) → w.grownBy w' v.ownBlock → (v'.ownBlock = v.ownBlock ∨ v'.ownBlock = some w.heap.size) → wpList Try.prog ops Q rest (a.put o.dst v') w') : wpList Try.prog ops Q (o :: rest) a w :=
  wpList_plain hgd fun _ hK => wp_appk T s x ho B N v xv rows new hs hx hown hxv hxa hlen h1 hl hby hbase fun v' w' h2 h3 h4 => hK _ _ (h v' w' h2 h3 h4)
theorem step_appk {t e : TypeId} {k by' : Nat} (T : TI t e k by') {w : World} {ops : Array Oper} {o : Oper} {a : Act} {K : Act → World → Prop} {Q : Exit → Act → World → Prop} {E : Prop} (hgd : o.guard = none) (s x : Operand)
    (ho : o.op = .call { callee := .builtin .append, args := #[s, x], argTypes := #[t, t] })
    (B N : Nat) (v xv : Value) (rows new : List (List Value)) (hs : a.eval s = v) (hx : a.eval x = xv) (hown : OR w B e k v rows) (hxv : Rk N w k xv new) (hxa : Ra xv) (hlen : ∀ r ∈ new, r.length = k) (h1 : ∀ r ∈ new, ∀ u ∈ r, u.oneCell' = true) (hl : rows.length + new.length ≤ maxLen) (hby : (rows.length + new.length) * by' ≤ 140737488355328) (hbase : B ≤ w.heap.size)
    (h : ∀ v' w', OR w' B e k v' (rows ++ new) → w.grownBy w' v.ownBlock → (v'.ownBlock = v.ownBlock ∨ v'.ownBlock = some w.heap.size) → K (a.put o.dst v') w') :
    if Region.wanted o (yielded ops a.tmps) = true then Oper.wp Try.prog o a w K Q else E := by
  have hw : Region.wanted o (yielded ops a.tmps) = true := by simp [Region.wanted, hgd]
  rw [if_pos hw]
  exact wp_appk T s x ho B N v xv rows new hs hx hown hxv hxa hlen h1 hl hby hbase h
/-- one is stored -/
theorem run_stk {w : World} {B g cap : Nat} {e : TypeId} {k : Nat} {rows : List (List Value)} (h : OR w B e k (.slice (some ⟨g, 0, none⟩) rows.length cap) rows) (hi : (Try.prog.info? e).map (·.size) = some k) (i : Nat) (r : List Value) (hir : i < rows.length) (hr : r.length = k) (h1 : ∀ u ∈ r, u.oneCell' = true) :
    ∃ w', (storeVar e ⟨g, i * k, none⟩ (.agg r.toArray)).run Try.prog w = .ok () w' ∧ OR w' B e k (.slice (some ⟨g, 0, none⟩) rows.length cap) (rows.set i r) ∧ w.grownBy w' (some g) ∧ w'.heap.size = w.heap.size := by
  rcases h.row.2 with ⟨h2, h3⟩ | ⟨g', cap', cur, e1, e2, e3, e4, e5, e6, e7⟩
  · injection h2 with h2; cases h2
  · injection e1 with e1 _ e1'
    injection e1 with e1
    injection e1 with e1
    subst e1 e1'
    have hle : i * k + k ≤ rows.length * k := by
      have : (i + 1) * k ≤ rows.length * k := Nat.mul_le_mul_right k (by omega)
      rw [Nat.add_mul] at this; omega
    have hle2 : rows.length * k ≤ cap * k := Nat.mul_le_mul_right k e4
    have hst := run_storeCells_at (P := Try.prog) g (i * k) e r 0 cur w e3 (by rw [hr, e6]; omega) h1
    rw [Nat.add_zero, hr] at hst
    obtain ⟨NC, hNC⟩ : ∃ NC : List Value, NC = cur.toList.take (i * k) ++ r ++ cur.toList.drop (i * k + k) := ⟨_, rfl⟩
    rw [← hNC] at hst
    have hcl : cur.toList.length = cap * k := by rw [← e6]; simp
    have hNl : NC.length = cap * k := by rw [hNC]; simp only [List.length_append, List.length_take, List.length_drop, hcl, hr]; omega
    have hset : ∀ x ∈ rows.set i r, x.length = k := fun x hx => by
      rcases List.mem_or_eq_of_mem_set hx with h5 | h5
      · exact h.len x h5
      · rw [h5]; exact hr
    refine ⟨w.setRow g NC.toArray, ?_, ⟨⟨?_, .inr ⟨g, cap, NC.toArray, by rw [List.length_set], e2, setRow_heap w g cur _ e (0, 0) e3, by rw [List.length_set]; exact e4, e5, by simpa using hNl, ?_⟩⟩, hset⟩, ⟨rfl, rfl, rfl, by simp, fun q _ hq => setRow_other w g q _ (fun e => hq (by rw [e]))⟩, by simp⟩
    · cases hq : Try.prog.info? e with
      | none => simp [hq] at hi
      | some ii =>
        have hs : ii.size = k := by simpa [hq] using hi
        simp [storeVar, sizeOf, typeInfo, hq, Value.cells, hs, hr]
        exact hst
    · rw [flat_len hset]
    · rw [List.length_set, ← flat_set h.len i r hir, hNC, ← e7]
      simp only
      rw [List.take_take, Nat.min_eq_left (by omega), List.take_append, List.take_append, List.length_append, List.length_take, hcl, Nat.min_eq_left (by omega), hr, List.take_take, Nat.min_eq_right (by omega), List.take_of_length_le (l := r) (by omega), List.drop_take]
theorem wp_stk {o : Oper} {a : Act} {w : World} {K : Act → World → Prop} {Q : Exit → Act → World → Prop} (e : TypeId) (x y : Operand) (ho : o.op = .store e x y)
    {B g cap k : Nat} {rows : List (List Value)} (i : Nat) (r : List Value) (h : OR w B e k (.slice (some ⟨g, 0, none⟩) rows.length cap) rows) (hi : (Try.prog.info? e).map (·.size) = some k) (hx : a.eval x = .pointer (some ⟨g, i * k, none⟩)) (hy : a.eval y = .agg r.toArray) (hir : i < rows.length) (hr : r.length = k) (h1 : ∀ u ∈ r, u.oneCell' = true)
    (hK : ∀ w', OR w' B e k (.slice (some ⟨g, 0, none⟩) rows.length cap) (rows.set i r) → w.grownBy w' (some g) → w'.heap.size = w.heap.size → K (a.put o.dst undef) w') : o.wp Try.prog a w K Q := by
  obtain ⟨w', h2, h3, h4, h5⟩ := run_stk h hi i r hir hr h1
  unfold Oper.wp execOp
  simp only [ho, hx, hy, Instr.storeAt, Instr.sureAddr, Sem.run_bind, Sem.run_pure, Result.andThen_ok, h2]
  exact hK w' h3 h4 h5
theorem wpList_stk {ops : Array Oper} {rest : List Oper} {o : Oper} {a : Act} {w : World} {Q : Exit → Act → World → Prop} (hgd : o.guard = none) (e : TypeId) (x y : Operand) (ho : o.op = .store e x y)
    {B g cap k : Nat} {rows : List (List Value)} (i : Nat) (r : List Value) (h : OR w B e k (.slice (some ⟨g, 0, none⟩) rows.length cap) rows) (hi : (Try.prog.info? e).map (·.size) = some k) (hx : a.eval x = .pointer (some ⟨g, i * k, none⟩)) (hy : a.eval y = .agg r.toArray) (hir : i < rows.length) (hr : r.length = k) (h1 : ∀ u ∈ r, u.oneCell' = true)
    (hK : ∀ w', OR w' B e k (.slice (some ⟨g, 0, none⟩) rows.length cap) (rows.set i r) → w.grownBy w' (some g) → w'.heap.size = w.heap.size → wpList Try.prog ops Q rest (a.put o.dst undef) w') : wpList Try.prog ops Q (o :: rest) a w :=
  wpList_plain hgd fun _ hk => wp_stk e x y ho i r h hi hx hy hir hr h1 fun w' h2 h3 h4 => hk _ _ (hK w' h2 h3 h4)
end Go.Proofs.Ytmgphfdieekpdaa
