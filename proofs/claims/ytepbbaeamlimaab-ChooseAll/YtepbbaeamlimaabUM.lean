/- Memory: rows that a call makes; one is appended, stored into. -/
import Derived.Test.YtepbbaeamlimaabKL
import Derived.Test.YtepbbaeamlimaabUF
import Derived.Test.YtepbbaeamlimaabUP
namespace Go.Proofs.Ytepbbaeamlimaab
open Go Go.RowKit Go.Sort Ch
set_option linter.unusedVariables false
theorem step_bsL {ops : Array Oper} {rest : List Oper} {o : Oper} {a : Act} {w : World} {Q : Exit → Act → World → Prop} (hw : Region.wanted o (yielded ops a.tmps) = true) (ts e : TypeId) (x : Operand) (ho : o.op = .buildSlice ts 1 #[(0, x)]) (xv : Value) (r : List Value) (hx : a.eval x = xv)
    (hrun : ∀ u : World, (Instr.buildSlice ts 1 #[(0, xv)]).run Try.prog u = .ok (.slice (some ⟨u.heap.size, 0, none⟩) 1 1) (u.alloc (.cells r.toArray e)))
    (h : ∀ W g, Hid (Nw w W g r.toArray e) → wpList Try.prog ops Q rest (a.put o.dst (.slice (some ⟨g, 0, none⟩) 1 1)) W) : wpList Try.prog ops Q (o :: rest) a w :=
  wpList_step fun K hK => by
    rw [if_pos hw]
    unfold Oper.wp execOp
    simp only [ho, List.map_toArray, List.map_cons, List.map_nil, hx, Sem.run_bind, Sem.run_pure, hrun w, Result.andThen_ok]
    exact hK _ _ (h _ _ (Nw.mk' w r.toArray e))
theorem Nw.rk {w W : World} {g : Nat} {r : List Value} {e : TypeId} (h : Nw w W g r.toArray e) {k : Nat} (hk : r.length = k) : Rk W.heap.size W k (.slice (some ⟨g, 0, none⟩) 1 1) [r] := by
  refine ⟨some ⟨g, 0, none⟩, 1, rfl, Nat.le_refl _, fun i hi => ⟨_, rfl, h.bk.lt, fun j u hu => ?_⟩⟩
  have e : i = 0 := by simp at hi; exact hi
  subst e
  rw [Nat.zero_mul, Nat.zero_add]
  exact cells_of h.bk j u hu
theorem below_own {W W' : World} {B : Nat} {v : Value} (hg : W.grownBy W' v.ownBlock) (hB : B ≤ W.heap.size) (hv : ∀ b, v.ownBlock = some b → B ≤ b) : Below B W W' :=
  ⟨hg.os, hg.tape, hg.output, hg.size, fun k hk => hg.block k (Nat.lt_of_lt_of_le hk hB) (fun e => by have := hv k e.symm; omega)⟩
theorem OR.own {w : World} {B : Nat} {e : TypeId} {k : Nat} {v : Value} {rows : List (List Value)} (h : OR w B e k v rows) : ∀ b, v.ownBlock = some b → B ≤ b := by
  intro b hb
  rcases h.row.2 with ⟨h1, _⟩ | ⟨g, cap, cur, h1, h2, _⟩
  · rw [h1] at hb; cases hb
  · rw [h1] at hb
    simp only [Value.ownBlock] at hb
    injection hb with hb
    omega
theorem step_apL {t e : TypeId} {k by' : Nat} (T : TI t e k by') {w : World} {ops : Array Oper} {rest : List Oper} {o : Oper} {a : Act} {Q : Exit → Act → World → Prop} (hgd : o.guard = none) (s x : Operand)
    (ho : o.op = .call { callee := .builtin .append, args := #[s, x], argTypes := #[t, t] })
    (B g : Nat) (v : Value) (r : List Value) (hs : a.eval s = v) (hx : a.eval x = .slice (some ⟨g, 0, none⟩) 1 1) (hlen : r.length = k) (h1 : ∀ u ∈ r, u.oneCell' = true) (w0 : World) (rows : List (List Value)) (hl : rows.length + 1 ≤ maxLen) (hby : (rows.length + 1) * by' ≤ 140737488355328) (hown : OR w0 B e k v rows) (hn : Nw w0 w g r.toArray e) (hbase : B ≤ w0.heap.size)
    (h : ∀ v' W, Hid (OR W B e k v' (rows ++ [r]) ∧ Below B w0 W) → wpList Try.prog ops Q rest (a.put o.dst v') W) : wpList Try.prog ops Q (o :: rest) a w := by
  have hs1 := hn.be.size
  refine wpList_appk T hgd s x ho B w.heap.size v _ rows [r] hs hx (hown.below hn.be (Nat.le_refl _)) (hn.rk hlen) (fun n c hh => by injection hh with hh; cases hh) (fun y hy => by simp at hy; rw [hy]; exact hlen) (fun y hy u hu => by simp at hy; subst hy; exact h1 u hu) hl hby (by omega) fun v' W h2 h3 _ => ?_
  exact h v' W ⟨h2, (hn.be.mono hbase).trans (below_own h3 (by omega) hown.own)⟩
theorem OR.ownlt {w : World} {B : Nat} {e : TypeId} {k : Nat} {v : Value} {rows : List (List Value)} (h : OR w B e k v rows) : ∀ b, v.ownBlock = some b → B ≤ b ∧ b < w.heap.size := by
  intro b hb
  rcases h.row.2 with ⟨h1, _⟩ | ⟨g, cap, cur, h1, h2, h3, _⟩
  · rw [h1] at hb; cases hb
  · rw [h1] at hb
    simp only [Value.ownBlock] at hb
    injection hb with hb
    subst hb
    refine ⟨h2, ?_⟩
    rcases Nat.lt_or_ge g w.heap.size with h | h
    · exact h
    · rw [Array.getElem?_eq_none h] at h3; cases h3
/-- two rows apart -/
def Dj (v u : Value) : Prop := u.ownBlock = none ∨ u.ownBlock ≠ v.ownBlock
theorem Dj.symm {v u : Value} (h : Dj v u) : Dj u v := by
  unfold Dj at *
  rcases h with h | h
  · cases hv : v.ownBlock with
    | none => exact .inl rfl
    | some b => exact .inr (by rw [h]; simp)
  · exact .inr (Ne.symm h)
/-- appended to one, beside another -/
theorem step_ap2 {t e e2 : TypeId} {k k2 by' : Nat} (T : TI t e k by') {w : World} {ops : Array Oper} {rest : List Oper} {o : Oper} {a : Act} {Q : Exit → Act → World → Prop} (hgd : o.guard = none) (s x : Operand)
    (ho : o.op = .call { callee := .builtin .append, args := #[s, x], argTypes := #[t, t] })
    (B g : Nat) (v v2 : Value) (r : List Value) (hs : a.eval s = v) (hx : a.eval x = .slice (some ⟨g, 0, none⟩) 1 1) (hlen : r.length = k) (h1 : ∀ u ∈ r, u.oneCell' = true) (w0 : World) (rows rows2 : List (List Value)) (hl : rows.length + 1 ≤ maxLen) (hby : (rows.length + 1) * by' ≤ 140737488355328) (hown : OR w0 B e k v rows) (hown2 : OR w0 B e2 k2 v2 rows2) (hd : Dj v v2) (hn : Nw w0 w g r.toArray e) (hbase : B ≤ w0.heap.size)
    (h : ∀ v' W, Hid (OR W B e k v' (rows ++ [r]) ∧ OR W B e2 k2 v2 rows2 ∧ Dj v' v2 ∧ Below B w0 W) → wpList Try.prog ops Q rest (a.put o.dst v') W) : wpList Try.prog ops Q (o :: rest) a w := by
  have hs1 := hn.be.size
  refine wpList_appk T hgd s x ho B w.heap.size v _ rows [r] hs hx (hown.below hn.be (Nat.le_refl _)) (hn.rk hlen) (fun n c hh => by injection hh with hh; cases hh) (fun y hy => by simp at hy; rw [hy]; exact hlen) (fun y hy u hu => by simp at hy; subst hy; exact h1 u hu) hl hby (by omega) fun v' W h2 h3 h4 => ?_
  have o2 := hown2.below hn.be (Nat.le_refl _)
  refine h v' W ⟨h2, ⟨o2.row.kept h3 hd, o2.len⟩, ?_, (hn.be.mono hbase).trans (below_own h3 (by omega) hown.own)⟩
  rcases h4 with h4 | h4
  · unfold Dj; rw [h4]; exact hd
  · cases hv : v2.ownBlock with
    | none => exact .inl hv
    | some b =>
      refine .inr ?_
      rw [hv, h4]
      have := (o2.ownlt b hv).2
      intro e
      injection e with e
      omega
theorem or_len {w : World} {B : Nat} {e : TypeId} {k : Nat} {v : Value} {rows : List (List Value)} (h : OR w B e k v rows) : ∃ ao cap, v = .slice ao rows.length cap := by
  rcases h.row.2 with ⟨h1, h2⟩ | ⟨g, cap, cur, h1, _⟩
  · refine ⟨none, 0, ?_⟩
    have : rows.length = 0 := by first | (simpa using h2) | (rw [h2]; rfl) | (simp_all)
    rw [this]; exact h1
  · exact ⟨_, _, h1⟩
theorem flat_cell {k : Nat} {rows : List (List Value)} (h : ∀ r ∈ rows, r.length = k) (i j : Nat) (u : Value) (hi : i < rows.length) (hj : j < k) : rows.flatten.set (i * k + j) u = (rows.set i ((rows.getD i []).set j u)).flatten := by
  induction rows generalizing i with
  | nil => exact absurd hi (by simp)
  | cons s t ih =>
    have hs := h s (List.mem_cons_self ..)
    rw [List.flatten_cons]
    cases i with
    | zero =>
      rw [Nat.zero_mul, Nat.zero_add, List.set_append_left _ _ (by omega), List.set_cons_zero, List.flatten_cons]; rfl
    | succ i =>
      rw [List.set_cons_succ, List.flatten_cons, List.set_append_right _ _ (by rw [hs, Nat.add_mul]; omega), hs, show (i + 1) * k + j - k = i * k + j from by rw [Nat.add_mul]; omega, ih (fun x hx => h x (List.mem_cons_of_mem _ hx)) i (by simpa using hi)]
      rfl
/-- a cell of an element is stored -/
theorem OR.cellSet0 {w : World} {B g cap n : Nat} {e : TypeId} {k : Nat} {rows : List (List Value)} {i : Nat} (h : OR w B e k (.slice (some ⟨g, 0, none⟩) n cap) rows) (hi : i < rows.length) (j : Nat) (hj : j < k) (u : Value) :
    OR (w.setCell ⟨g, i * k + j, none⟩ u) B e k (.slice (some ⟨g, 0, none⟩) n cap) (rows.set i ((rows.getD i []).set j u)) ∧ w.grownBy (w.setCell ⟨g, i * k + j, none⟩ u) (some g) := by
  have hn : n = rows.length := by
    rcases h.row.2 with ⟨h1, _⟩ | ⟨_, _, _, h1, _⟩
    · injection h1 with h1; cases h1
    · injection h1 with _ h1 _
  subst hn
  obtain ⟨h1, h2⟩ := h.row.stored (i * k + j) u
  refine ⟨⟨by rw [List.length_set, ← flat_cell h.len i j u hi hj]; exact h1, fun x hx => ?_⟩, h2⟩
  rcases List.mem_or_eq_of_mem_set hx with h5 | h5
  · exact h.len x h5
  · rw [h5, List.length_set, List.getD_eq_getElem?_getD, List.getElem?_eq_getElem hi]
    exact h.len _ (List.getElem_mem hi)
theorem below_thru {a b c : World} (h : Below a.heap.size a b) (k : Below b.heap.size b c) : Below a.heap.size a c := h.trans (k.mono h.size)
def cnL (c : Cn) : List Value := [.int .i64 c.id, .int .i64 c.o, .int .i64 c.d, .int .i64 c.j, .int .i64 c.s, .bool c.pf, .bool c.pu]
def zCn : Cn := ⟨0, 0, 0, 0, 0, false, false⟩
theorem cnL_len (c : Cn) : (cnL c).length = 7 := rfl
theorem cnL_one (c : Cn) : ∀ u ∈ cnL c, u.oneCell' = true := by
  intro u hu
  simp only [cnL, List.mem_cons, List.not_mem_nil, or_false] at hu
  rcases hu with rfl | rfl | rfl | rfl | rfl | rfl | rfl <;> rfl
/-- an end as it lies in memory -/
def enV (z : Int) : Value := .complex .f64 (Fl.fl (plc z)) (Fl.fl (kd z))
def enR (es : List Int) : List (List Value) := es.map fun z => [enV z]
theorem enV_one (z : Int) : (enV z).oneCell' = true := rfl
/-- the reference's end -/
def edL (z : Int) : List Value := [.int .i64 (plc z), .int .i64 (kd z)]
theorem edL_one (z : Int) : ∀ u ∈ edL z, u.oneCell' = true := by
  intro u hu
  simp only [edL, List.mem_cons, List.not_mem_nil, or_false] at hu
  rcases hu with rfl | rfl <;> rfl
theorem tiC : TI 22 25 7 48 := by
  refine ⟨Try.underlying22, ?_, by decide⟩
  have h : (Try.prog.info? 25).map (fun i => (i.zero, i.size, i.bytes)) = some (some (.agg (cnL zCn).toArray), 7, 48) := by kernel_rfl
  cases hi : Try.prog.info? 25 with
  | none => rw [hi] at h; cases h
  | some i =>
    rw [hi] at h
    simp only [Option.map_some, Option.some.injEq, Prod.mk.injEq] at h
    exact ⟨i, _, rfl, h.1, h.2.1, h.2.2, rfl⟩
theorem tiE : TI 33 41 1 16 := by
  refine ⟨Try.underlying33, ?_, by decide⟩
  have h : (Try.prog.info? 41).map (fun i => (i.zero, i.size, i.bytes)) = some (some (.complex .f64 0 0), 1, 16) := by kernel_rfl
  cases hi : Try.prog.info? 41 with
  | none => rw [hi] at h; cases h
  | some i =>
    rw [hi] at h
    simp only [Option.map_some, Option.some.injEq, Prod.mk.injEq] at h
    exact ⟨i, _, rfl, h.1, h.2.1, h.2.2, rfl⟩
theorem tiD : TI 36 39 2 16 := by
  refine ⟨Try.underlying36, ?_, by decide⟩
  have h : (Try.prog.info? 39).map (fun i => (i.zero, i.size, i.bytes)) = some (some (.agg #[.int .i64 0, .int .i64 0]), 2, 16) := by kernel_rfl
  cases hi : Try.prog.info? 39 with
  | none => rw [hi] at h; cases h
  | some i =>
    rw [hi] at h
    simp only [Option.map_some, Option.some.injEq, Prod.mk.injEq] at h
    exact ⟨i, _, rfl, h.1, h.2.1, h.2.2, rfl⟩
theorem run_bsC (c : Cn) (u : World) : (Instr.buildSlice 22 1 #[(0, .agg (cnL c).toArray)]).run Try.prog u = .ok (.slice (some ⟨u.heap.size, 0, none⟩) 1 1) (u.alloc (.cells (cnL c).toArray 25)) := by
  kernel_rfl
theorem ix_C {ao : Option Addr} {ad : Addr} (n cap k : Nat) (h : ao = some ad) (hk : (k : Int) < n) (w : World) : Sem.run Try.prog (Instr.indexAt 22 (.slice ao n cap) (.int .i64 (k : Int))) w = .ok (.pointer (some (ad.add (k * 7)))) w := by
  have u' := Try.underlying22
  have c3 : Try.prog.cellsOf 25 = 7 := by kernel_rfl
  have h0 : (0 : Int) ≤ k := Int.natCast_nonneg k
  subst h
  go_simp
theorem ix_E {ao : Option Addr} {ad : Addr} (n cap k : Nat) (h : ao = some ad) (hk : (k : Int) < n) (w : World) : Sem.run Try.prog (Instr.indexAt 33 (.slice ao n cap) (.int .i64 (k : Int))) w = .ok (.pointer (some (ad.add k))) w := by
  have u' := Try.underlying33
  have c3 : Try.prog.cellsOf 41 = 1 := by kernel_rfl
  have h0 : (0 : Int) ≤ k := Int.natCast_nonneg k
  subst h
  go_simp
theorem ix_D {ao : Option Addr} {ad : Addr} (n cap k : Nat) (h : ao = some ad) (hk : (k : Int) < n) (w : World) : Sem.run Try.prog (Instr.indexAt 36 (.slice ao n cap) (.int .i64 (k : Int))) w = .ok (.pointer (some (ad.add (k * 2)))) w := by
  have u' := Try.underlying36
  have c3 : Try.prog.cellsOf 39 = 2 := by kernel_rfl
  have h0 : (0 : Int) ≤ k := Int.natCast_nonneg k
  subst h
  go_simp
/-- candidates that a slice holds -/
theorem cands_read {N : Nat} {w : World} {v : Value} {l : List Cn} (h : Rk N w 7 v (l.map cnL)) : ∃ ao cap, v = .slice ao l.length cap ∧ l.length ≤ cap ∧ ∀ w' : World, (∀ p : Addr, p.block < N → w'.cell? p = w.cell? p) → ∀ (i : Nat) c, l[i]? = some c → ∃ ad, ao = some ad ∧ ad.block < N ∧ ∀ j u, (cnL c)[j]? = some u → w'.cell? ((ad.add (i * 7)).add j) = some u := by
  obtain ⟨ao, cap, hv, hc, hr⟩ := h
  rw [List.length_map] at hv hr hc
  refine ⟨ao, cap, hv, hc, fun w' hw i c hi => ?_⟩
  have hl : i < l.length := by
    rcases Nat.lt_or_ge i l.length with h | h
    · exact h
    · rw [List.getElem?_eq_none h] at hi; cases hi
  obtain ⟨ad, k1, k2, k3⟩ := hr i hl
  refine ⟨ad, k1, k2, fun j u hu => ?_⟩
  rw [hw _ (by rw [add_block, add_block]; exact k2), add_add]
  refine k3 j u ?_
  rw [getD_map' cnL l i hl]
  rw [List.getElem?_eq_getElem hl] at hi
  rw [Option.some.inj hi]; exact hu
theorem ends_read {N : Nat} {w : World} {v : Value} {es : List Int} (h : Rk N w 1 v (enR es)) : ∃ ao cap, v = .slice ao es.length cap ∧ ∀ w' : World, (∀ p : Addr, p.block < N → w'.cell? p = w.cell? p) → ∀ (i : Nat) z, es[i]? = some z → ∃ ad, ao = some ad ∧ ad.block < N ∧ w'.cell? (ad.add i) = some (enV z) := by
  obtain ⟨ao, cap, hv, _, hr⟩ := h
  unfold enR at hv hr
  rw [List.length_map] at hv hr
  refine ⟨ao, cap, hv, fun w' hw i c hi => ?_⟩
  have hl : i < es.length := by
    rcases Nat.lt_or_ge i es.length with h | h
    · exact h
    · rw [List.getElem?_eq_none h] at hi; cases hi
  obtain ⟨ad, k1, k2, k3⟩ := hr i hl
  refine ⟨ad, k1, k2, ?_⟩
  rw [hw _ (by rw [add_block]; exact k2)]
  have := k3 0 (enV c) (by rw [List.getD_eq_getElem?_getD, List.getElem?_map, hi]; rfl)
  simpa using this
theorem eds_read {N : Nat} {w : World} {v : Value} {es : List Int} (h : Rk N w 2 v (es.map edL)) : ∃ ao cap, v = .slice ao es.length cap ∧ ∀ w' : World, (∀ p : Addr, p.block < N → w'.cell? p = w.cell? p) → ∀ (i : Nat) z, es[i]? = some z → ∃ ad, ao = some ad ∧ ad.block < N ∧ ∀ j u, (edL z)[j]? = some u → w'.cell? ((ad.add (i * 2)).add j) = some u := by
  obtain ⟨ao, cap, hv, _, hr⟩ := h
  rw [List.length_map] at hv hr
  refine ⟨ao, cap, hv, fun w' hw i c hi => ?_⟩
  have hl : i < es.length := by
    rcases Nat.lt_or_ge i es.length with h | h
    · exact h
    · rw [List.getElem?_eq_none h] at hi; cases hi
  obtain ⟨ad, k1, k2, k3⟩ := hr i hl
  refine ⟨ad, k1, k2, fun j u hu => ?_⟩
  rw [hw _ (by rw [add_block, add_block]; exact k2), add_add]
  refine k3 j u ?_
  rw [getD_map' edL es i hl]
  rw [List.getElem?_eq_getElem hl] at hi
  rw [Option.some.inj hi]; exact hu
theorem below_cells {w w' : World} {N B : Nat} (h : Below B w w') (hN : N ≤ B) : ∀ p : Addr, p.block < N → w'.cell? p = w.cell? p := fun p hp => h.cell (by omega)
end Go.Proofs.Ytepbbaeamlimaab
