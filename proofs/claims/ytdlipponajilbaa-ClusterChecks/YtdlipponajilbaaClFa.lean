/- Rows of several cells in the sort's words, and back; rows that are made. -/
import Derived.Test.YtdlipponajilbaaClE
namespace Go.Proofs.Ytdlipponajilbaa
open Go Go.RowKit Go.Sort
set_option linter.unusedVariables false
theorem flatK_list {α : Type} [Inhabited α] (enc : α → List Value) (k : Nat) (hk : ∀ x, (enc x).length = k) (hpos : 0 < k) (xs : List α) (t : Nat) (ht : t < xs.length * k) : ((xs.map enc).flatten)[t]? = some ((flatK enc k xs.toArray)[t]!) := by
  have hlen : ∀ r ∈ xs.map enc, r.length = k := fun r hr => by obtain ⟨x, _, rfl⟩ := List.mem_map.1 hr; exact hk x
  have hi : t / k < xs.length := Nat.div_lt_of_lt_mul (by rw [Nat.mul_comm]; exact ht)
  have hm : t % k < k := Nat.mod_lt _ hpos
  have e1 := flat_get hlen (t / k) (t % k) (by rw [List.length_map]; exact hi) hm
  have hd : t / k * k + t % k = t := by rw [Nat.mul_comm]; exact Nat.div_add_mod t k
  rw [hd] at e1
  have e2 : (xs.map enc).getD (t / k) [] = enc xs[t / k] := by
    rw [List.getD_eq_getElem?_getD, List.getElem?_map, List.getElem?_eq_getElem hi]; rfl
  rw [e2] at e1
  have e3 : (flatK enc k xs.toArray)[t]! = (enc xs[t / k])[t % k]! := by
    rw [get_flatK enc k xs.toArray t (by simpa using ht)]
    simp [getElem!_pos, hi]
  have hmk : t % k < (enc xs[t / k]).length := by rw [hk]; exact hm
  have e4 : (enc xs[t / k])[t % k]? = some ((enc xs[t / k])[t % k]!) := by
    rw [List.getElem?_eq_getElem hmk, getElem!_pos (enc xs[t / k]) (t % k) hmk]
  rw [e4] at e1
  rw [e1, e3]
theorem OR.holdsK {α : Type} [Inhabited α] {enc : α → List Value} {w : World} {B g cap n : Nat} {e : TypeId} {k : Nat} {xs : List α} (h : OR w B e k (.slice (some ⟨g, 0, none⟩) n cap) (xs.map enc)) (hk : ∀ x, (enc x).length = k) (hpos : 0 < k) : HoldsK enc k w g 0 xs.toArray := by
  intro t ht
  have ht' : t < xs.length * k := by simpa using ht
  refine ⟨?_, h.frozen _⟩
  have hi : t / k < xs.length := Nat.div_lt_of_lt_mul (by rw [Nat.mul_comm]; exact ht')
  have hd : t / k * k + t % k = t := by rw [Nat.mul_comm]; exact Nat.div_add_mod t k
  have hlen : ∀ r ∈ xs.map enc, r.length = k := fun r hr => by obtain ⟨x, _, rfl⟩ := List.mem_map.1 hr; exact hk x
  have h2 := h.at (t / k) (by rw [List.length_map]; exact hi) (t % k) ((flatK enc k xs.toArray)[t]!) (by
    rw [← flat_get hlen (t / k) (t % k) (by rw [List.length_map]; exact hi) (Nat.mod_lt _ hpos), hd]
    exact flatK_list enc k hk hpos xs t ht')
  have e5 : (⟨g, t / k * k, none⟩ : Addr).add (t % k) = ⟨g, 0 + t, none⟩ := by
    have := Addr.add_mid g (t / k * k) (t % k)
    rw [this, hd, Nat.zero_add]
  rw [e5] at h2
  exact h2
theorem OR.putRowK {α : Type} [Inhabited α] {enc : α → List Value} {w : World} {B g cap n q : Nat} {e : TypeId} {k : Nat} {xs ys : List α} (h : OR w B e k (.slice (some ⟨g, 0, none⟩) n cap) (xs.map enc)) (hk : ∀ x, (enc x).length = k) (hpos : 0 < k) (hy : ys.length = xs.length) (os : Array Obj) :
    OR (grow (Sort.putRowK enc k (Sort.ahead w q) g 0 ys.toArray) os) B e k (.slice (some ⟨g, 0, none⟩) n cap) (ys.map enc) ∧ w.grownBy (grow (Sort.putRowK enc k (Sort.ahead w q) g 0 ys.toArray) os) (some g) := by
  have hlen : ∀ r ∈ ys.map enc, r.length = k := fun r hr => by obtain ⟨x, _, rfl⟩ := List.mem_map.1 hr; exact hk x
  rcases h.row.2 with ⟨e0, _⟩ | ⟨g', cap', cur, e0, hb, hg, hn, hm, hs, ht⟩
  · injection e0 with e0; cases e0
  · injection e0 with e1 e2 e3
    injection e1 with e1
    injection e1 with e1
    subst e1; subst e3
    rw [List.length_map] at e2 hn ht
    subst e2
    have hgl : g < w.heap.size := by
      rcases Nat.lt_or_ge g w.heap.size with h' | h'
      · exact h'
      · rw [Array.getElem?_eq_none h'] at hg; cases hg
    have hheap : (grow (Sort.putRowK enc k (Sort.ahead w q) g 0 ys.toArray) os).heap[g]? = some (.cells (putCells id 0 (flatK enc k ys.toArray) cur) e (0, 0)) := by
      unfold Sort.putRowK
      simp only [grow]
      rw [Array.getElem?_append_left (by simp [putRow, mapBlock, Sort.ahead]; exact hgl)]
      simp [putRow, mapBlock, Sort.ahead, Array.getElem?_modify, hg, onCells]
    refine ⟨⟨⟨by rw [flat_len hlen], .inr ⟨g, cap, putCells id 0 (flatK enc k ys.toArray) cur, by rw [List.length_map, hy], hb, hheap, by rw [List.length_map, hy]; exact hn, hm, by simpa [putCells] using hs, ?_⟩⟩, hlen⟩, ⟨rfl, rfl, rfl, ?_, ?_⟩⟩
    · apply List.ext_getElem?
      intro j
      rw [List.getElem?_take, List.length_map, Array.getElem?_toList]
      by_cases hj : j < ys.length * k
      · have hle : ys.length * k ≤ cap * k := Nat.mul_le_mul_right k (by omega)
        have hjc : j < cur.size := by omega
        simp only [if_pos hj, putCells, Array.getElem?_mapIdx, Array.getElem?_eq_getElem hjc, Option.map_some]
        rw [if_pos (by simp; exact hj), flatK_list enc k hk hpos ys j hj]
        simp
      · rw [if_neg hj, List.getElem?_eq_none (by rw [flat_len hlen, List.length_map]; omega)]
    · unfold Sort.putRowK
      simp [grow, putRow, mapBlock, Sort.ahead]
    · intro b hb' hne
      unfold Sort.putRowK
      simp only [grow]
      rw [Array.getElem?_append_left (by simp [putRow, mapBlock, Sort.ahead]; exact hb')]
      have hgb : g ≠ b := fun e => hne (by rw [e])
      simp [putRow, mapBlock, Sort.ahead, Array.getElem?_modify, hgb]
theorem made_rows (z : List Value) (k n : Nat) (hk : z.length = k) (hpos : 0 < k) : (madeCells z.toArray (n * k)).toList = (List.replicate n z).flatten := by
  have hlen : ∀ r ∈ List.replicate n z, r.length = k := fun r hr => by rw [List.eq_of_mem_replicate hr]; exact hk
  apply List.ext_getElem?
  intro t
  by_cases ht : t < n * k
  · have hi : t / k < n := Nat.div_lt_of_lt_mul (by rw [Nat.mul_comm]; exact ht)
    have hm : t % k < k := Nat.mod_lt _ hpos
    have e1 := flat_get hlen (t / k) (t % k) (by rw [List.length_replicate]; exact hi) hm
    have hd : t / k * k + t % k = t := by rw [Nat.mul_comm]; exact Nat.div_add_mod t k
    rw [hd] at e1
    rw [e1]
    have e2 : (List.replicate n z).getD (t / k) [] = z := by rw [List.getD_eq_getElem?_getD, List.getElem?_replicate, if_pos hi]; rfl
    rw [e2]
    unfold madeCells
    rw [Array.getElem?_toList, Array.getElem?_map, Array.getElem?_range]
    simp [ht, hk, hm]
  · rw [List.getElem?_eq_none (by rw [Array.length_toList, size_madeCells]; omega), List.getElem?_eq_none (by rw [flat_len hlen, List.length_replicate]; omega)]
theorem zero_of {t e : TypeId} {k by' : Nat} (T : TI t e k by') (z : List Value) (h : (Try.prog.info? e).map (fun i => i.zero) = some (some (.agg z.toArray))) (n : Nat) (hn : n * by' ≤ 140737488355328) (hn2 : n ≤ 1000000) (hk : z.length = k) (w : World) :
    ∃ w', (Instr.makeSlice t (.int .i64 (n : Int)) (.int .i64 (n : Int))).run Try.prog w = .ok (.slice (some ⟨w.heap.size, 0, none⟩) n n) w' ∧ OR w' w.heap.size e k (.slice (some ⟨w.heap.size, 0, none⟩) n n) (List.replicate n z) ∧ Below w.heap.size w w' := by
  obtain ⟨i, zv, h1, h2, h3, h4, h5⟩ := T.info
  have hz : zv = .agg z.toArray := by
    rw [h1] at h
    simp [h2] at h
    exact h
  have hm := run_make (P := Try.prog) w t e i zv T.und h1 h2 .i64 .i64 (n : Int) (n : Int) (by omega) (by omega) (by rw [h4]; have := Int.ofNat_le.2 hn; rw [Int.natCast_mul, Int.mul_comm] at this; omega) (by omega)
  rw [h3, hz] at hm
  refine ⟨_, hm, ?_, (Below.refl _ _).alloc (Nat.le_refl _) _⟩
  have e0 : (Value.agg z.toArray).cells = z.toArray := rfl
  rw [e0]
  have hlen : ∀ r ∈ List.replicate n z, r.length = k := fun r hr => by rw [List.eq_of_mem_replicate hr]; exact hk
  refine ⟨⟨?_, .inr ⟨w.heap.size, n, madeCells z.toArray ((n : Int).toNat * k), by rw [List.length_replicate], Nat.le_refl _, alloc_at _ _, by rw [List.length_replicate]; exact Nat.le_refl _, by unfold maxLen; omega, by rw [size_madeCells]; simp, ?_⟩⟩, hlen⟩
  · rw [flat_len hlen]
  · rw [List.length_replicate]
    simp only [Int.toNat_natCast]
    rw [made_rows z k n hk T.pos]
    exact List.take_of_length_le (by rw [flat_len hlen, List.length_replicate]; exact Nat.le_refl _)
/-- an element of several cells is stored -/
theorem step_stK {ops : Array Oper} {rest : List Oper} {o : Oper} {a : Act} {w : World} {Q : Exit → Act → World → Prop} {e : TypeId} (hw : Region.wanted o (yielded ops a.tmps) = true) (x y : Operand) (ho : o.op = .store e x y)
    (B g n cap k i : Nat) (r : List Value) (hx : a.eval x = .pointer (some ⟨g, i * k, none⟩)) (hy : a.eval y = .agg r.toArray) (hr : r.length = k) (h1 : ∀ u ∈ r, u.oneCell' = true) (hi : (Try.prog.info? e).map (·.size) = some k) (rows : List (List Value)) (hn : n = rows.length) (hir : i < rows.length) (h : OR w B e k (.slice (some ⟨g, 0, none⟩) n cap) rows)
    (hK : ∀ W, Hid (OR W B e k (.slice (some ⟨g, 0, none⟩) n cap) (rows.set i r) ∧ w.grownBy W (some g) ∧ W.heap.size = w.heap.size) → wpList Try.prog ops Q rest (a.put o.dst undef) W) : wpList Try.prog ops Q (o :: rest) a w := by
  subst hn
  obtain ⟨w', h2, h3, h4, h5⟩ := run_stk h hi i r hir hr h1
  exact wpList_step fun K hK' => by
    rw [if_pos hw]
    unfold Oper.wp execOp
    simp only [ho, hx, hy, Instr.storeAt, Instr.sureAddr, Sem.run_bind, Sem.run_pure, Result.andThen_ok, h2]
    exact hK' _ _ (hK w' ⟨h3, h4, h5⟩)
end Go.Proofs.Ytdlipponajilbaa
