/- The reference's line in memory: its edges, and what append makes of them. -/
import Derived.Test.YtenlkadmniobdaaPT
import Derived.ArgAppend
namespace Go.Proofs.Ytenlkadmniobdaa
open Go.RowKit
/-- edges in memory: none, or some cells of a block from B on -/
def Eg (w : World) (B : Nat) (bo : Option Nat) (ev : Value) (es : List Int) : Prop :=
  ok6 es ∧ ((bo = none ∧ ev = .slice none 0 0 ∧ es = []) ∨ (∃ b off cap cur, bo = some b ∧ ev = .slice (some ⟨b, off, none⟩) es.length cap ∧ B ≤ b ∧ w.heap[b]? = some (.cells cur 25 (0, 0)) ∧ 0 < es.length ∧ es.length ≤ cap ∧ off + cap ≤ cur.size ∧ (∀ k, k < es.length → cur[off + k]? = some (.int .i64 (es.getD k 0)))))
theorem Eg.nil (w : World) (B : Nat) : Eg w B none (.slice none 0 0) [] := ⟨fun x hx => by simp at hx, .inl ⟨rfl, rfl, rfl⟩⟩
theorem Eg.sl {w : World} {B : Nat} {bo : Option Nat} {ev : Value} {es : List Int} (h : Eg w B bo ev es) : Sl w.heap.size w ev es := by
  obtain ⟨hok, ⟨rfl, rfl, rfl⟩ | ⟨b, off, cap, cur, rfl, rfl, h1, h2, h3, h4, h5, h6⟩⟩ := h
  · exact ⟨none, 0, rfl, by simp, by simp, hok, fun _ => rfl⟩
  · refine ⟨_, _, rfl, h4, fun _ => ⟨_, rfl, (Array.getElem?_eq_some_iff.1 h2).1, fun k hk => ?_⟩, hok, by simp⟩
    rw [add_own, cell_of_row w b _ cur _ (0, 0) h2]
    exact h6 k hk
theorem Eg.lt {w : World} {B : Nat} {bo : Option Nat} {ev : Value} {es : List Int} (h : Eg w B bo ev es) : ∀ k, bo = some k → B ≤ k ∧ k < w.heap.size := by
  obtain ⟨hok, ⟨rfl, rfl, rfl⟩ | ⟨b, off, cap, cur, rfl, rfl, h1, h2, h3, h4, h5, h6⟩⟩ := h
  · intro k hk; cases hk
  · intro k hk; injection hk with hk; subst hk; exact ⟨h1, (Array.getElem?_eq_some_iff.1 h2).1⟩
theorem Eg.kept {w w' : World} {B : Nat} {bo : Option Nat} {ev : Value} {es : List Int} (h : Eg w B bo ev es) (hk : ∀ k, bo = some k → w'.heap[k]? = w.heap[k]?) : Eg w' B bo ev es := by
  obtain ⟨hok, ⟨rfl, rfl, rfl⟩ | ⟨b, off, cap, cur, rfl, rfl, h1, h2, h3, h4, h5, h6⟩⟩ := h
  · exact ⟨hok, .inl ⟨rfl, rfl, rfl⟩⟩
  · exact ⟨hok, .inr ⟨b, off, cap, cur, rfl, rfl, h1, (hk b rfl).trans h2, h3, h4, h5, h6⟩⟩
theorem ok6_one {o : Int} (ho : -9223372036854775808 ≤ o ∧ o ≤ 9223372036854775807) : ok6 [o] := fun y hy => by
  have e : y = o := by simpa using hy
  rw [e]; exact ho
theorem Eg.fresh {w' : World} {N B n : Nat} {v' : Value} {xs : List Int} (h : w'.ownsRow N 25 1 v' n (vi xs)) (hn : n = xs.length) (hp : 0 < xs.length) (hB : B ≤ N) (hok : ok6 xs) : ∃ g, N ≤ g ∧ Eg w' B (some g) v' xs := by
  subst hn
  rcases h.2 with ⟨q1, q2⟩ | ⟨g, cap, cur, q1, q2, q3, q4, q5, q6, q7⟩
  · omega
  · refine ⟨g, q2, hok, .inr ⟨g, 0, cap, cur, rfl, q1, by omega, q3, hp, q4, by omega, fun k hk => ?_⟩⟩
    have e := vi_get xs k hk
    rw [← q7, List.getElem?_take_of_lt (by omega)] at e
    rw [Nat.zero_add]
    simpa using e
/-- one edge more -/
theorem run_appE (w : World) (B : Nat) (bo : Option Nat) (ev : Value) (es : List Int) (x : Nat) (o : Int) (h : Eg w B bo ev es) (hB : B ≤ w.heap.size) (hl : es.length ≤ 16) (hx : w.cell? ⟨x, 0, none⟩ = some (.int .i64 o)) (ho : -9223372036854775808 ≤ o ∧ o ≤ 9223372036854775807) :
    ∃ bo' ev' w', (Builtin.append_ #[28, 28] 28 #[ev, .slice (some ⟨x, 0, none⟩) 1 1]).run Try.prog w = .ok ev' w' ∧ Eg w' B bo' ev' (es ++ [o]) ∧ w.grownBy w' bo ∧ (bo' = bo ∨ ∃ g, bo' = some g ∧ w.heap.size ≤ g) := by
  obtain ⟨i0, hi, hz0, hz1, hz2⟩ := info25p
  have hnews : ∀ j u, (vi [o])[j]? = some u → w.cell? ((⟨x, 0, none⟩ : Addr).add j) = some u := fun j u hu => by
    cases j with
    | zero => rw [add_own, hx, ← hu]; rfl
    | succ j => simp [vi] at hu
  have h1c : ∀ u ∈ vi [o], u.oneCell' = true := fun u hu => by unfold vi at hu; obtain ⟨b, _, rfl⟩ := List.mem_map.1 hu; rfl
  have hok2 : ok6 (es ++ [o]) := h.1.app (ok6_one ho)
  have hvi : vi (es ++ [o]) = vi es ++ vi [o] := by unfold vi; rw [List.map_append]
  obtain ⟨hok, ⟨rfl, rfl, rfl⟩ | ⟨b, off, cap, cur, rfl, rfl, h1, h2, h3, h4, h5, h6⟩⟩ := h
  · obtain ⟨v', w', hr, k2, k3, _, k5⟩ := run_append_own_at (P := Try.prog) w w.heap.size 28 28 25 i0 (.int .i64 0) 1 8 Try.underlying28 hi hz0 hz1 hz2 rfl (by decide) (.slice none 0 0) 0 [] (World.ownsRow_nil _ _ _ _) ⟨x, 0, none⟩ 1 1 (vi [o]) (by simp [vi]) hnews h1c (by unfold maxLen; omega) (by omega) (Nat.le_refl _)
    obtain ⟨g, hg, hE⟩ := Eg.fresh (B := B) (xs := [o]) k2 rfl (by simp) hB (ok6_one ho)
    exact ⟨some g, v', w', hr, hE, k3, .inr ⟨g, rfl, hg⟩⟩
  · by_cases hroom : es.length + 1 ≤ cap
    · have hcell : w.cell? ⟨b, off + es.length, none⟩ = cur[off + es.length]? := cell_of_row w b _ cur _ (0, 0) h2
      have hr := run_append_room_cells (P := Try.prog) w 28 28 25 i0 Try.underlying28 hi b off es.length cap ⟨x, 0, none⟩ 1 1 (vi [o]) (by rw [hz1]; simp [vi]) hnews h1c hroom
        (fun j hj => by
          have e : j = 0 := by simp [vi] at hj; omega
          rw [e, hz1, Nat.mul_one, Nat.add_zero, hcell, Array.getElem?_eq_getElem (by omega)]; rfl)
        (fun j hj => by simp [World.frozen?, h2])
      rw [hz1, Nat.mul_one] at hr
      have hset : w.setCells b (off + es.length) (vi [o]) = w.setCell ⟨b, off + es.length, none⟩ (.int .i64 o) := rfl
      rw [hset] at hr
      refine ⟨some b, _, _, hr, ⟨hok2, .inr ⟨b, off, cap, cur.setIfInBounds (off + es.length) (.int .i64 o), rfl, by rw [List.length_append]; rfl, h1, ?_, by simp, by rw [List.length_append]; exact hroom, by simp; omega, fun k hk => ?_⟩⟩, ⟨rfl, rfl, rfl, by simp, fun k hk hne => Below.heap_setCell w _ _ k (fun e => hne (by rw [e]))⟩, .inl rfl⟩
      · rw [setCell_eq_setRow w b _ _ _ (0, 0) _ h2, setRow_heap w b _ _ _ _ h2]
      · rw [List.length_append, List.length_singleton] at hk
        rcases Nat.lt_or_ge k es.length with hlt | hge
        · rw [Array.getElem?_setIfInBounds_ne (by omega), h6 k hlt, List.getD_eq_getElem?_getD, List.getD_eq_getElem?_getD, List.getElem?_append_left hlt]
        · have e : k = es.length := by omega
          rw [e, Array.getElem?_setIfInBounds_self_of_lt (by omega)]
          simp
    · obtain ⟨v', w', hr, k2, k3⟩ := run_append_arg_grows (P := Try.prog) w 28 28 25 i0 (.int .i64 0) 1 8 Try.underlying28 hi hz0 hz1 hz2 rfl (by decide) ⟨b, off, none⟩ es.length cap (vi es) (by rw [vi_len, Nat.mul_one])
        (fun j u hu => by
          by_cases hj : j < es.length
          · rw [add_own, cell_of_row w b _ cur _ (0, 0) h2, h6 j hj, ← vi_get _ _ hj, hu]
          · rw [List.getElem?_eq_none (by rw [vi_len]; omega)] at hu; cases hu)
        ⟨x, 0, none⟩ 1 1 (vi [o]) (by simp [vi]) hnews (by omega) (by unfold maxLen; omega) (by omega)
      rw [← hvi] at k2
      obtain ⟨g, hg, hE⟩ := Eg.fresh (B := B) (xs := es ++ [o]) k2 (by simp) (by simp) hB hok2
      exact ⟨some g, v', w', hr, hE, ⟨k3.os, k3.tape, k3.output, k3.size, fun k hk _ => k3.block k hk (by simp)⟩, .inr ⟨g, rfl, hg⟩⟩
/-- the last sixteen of them -/
theorem run_cutE (w : World) (B : Nat) (bo : Option Nat) (ev : Value) (es : List Int) (l : Nat) (h : Eg w B bo ev es) (hl : l < es.length) :
    ∃ ev', (∀ u, (Instr.slice 28 ev (some (.int .i64 (l : Int))) none none).run Try.prog u = .ok ev' u) ∧ Eg w B bo ev' (es.drop l) := by
  obtain ⟨hok, ⟨rfl, rfl, rfl⟩ | ⟨b, off, cap, cur, rfl, rfl, h1, h2, h3, h4, h5, h6⟩⟩ := h
  · simp at hl
  · have h7 : ¬ cap = l := by omega
    have h8 : l ≤ es.length := by omega
    refine ⟨.slice (some ⟨b, off + l, none⟩) (es.length - l) (cap - l), fun u => ?_, hok.drop l, .inr ⟨b, off + l, cap - l, cur, rfl, by rw [List.length_drop], h1, h2, by rw [List.length_drop]; omega, by rw [List.length_drop]; omega, by omega, fun k hk => ?_⟩⟩
    · simp [Instr.slice, Instr.sliceBounds, Instr.sliceBound, asIntOf, run_underlying Try.underlying28, h8, h7, add_own]
    · rw [List.length_drop] at hk
      rw [Nat.add_assoc, h6 (l + k) (by omega), List.getD_eq_getElem?_getD, List.getD_eq_getElem?_getD, List.getElem?_drop]
/-- the reference's line in block q -/
def Rl (w : World) (q B : Nat) (bo : Option Nat) (es : List Int) (m la : Int) : Prop := q < B ∧ B ≤ w.heap.size ∧ es.length ≤ 16 ∧ ∃ ev, w.heap[q]? = some (.cells #[ev, .int .i64 m, .int .u64 la] 66 (0, 0)) ∧ Eg w B bo ev es
theorem Rl.cells {w : World} {q : Nat} {ev : Value} {m la : Int} (h : w.heap[q]? = some (.cells #[ev, .int .i64 m, .int .u64 la] 66 (0, 0))) : w.cell? ⟨q, 0, none⟩ = some ev ∧ w.cell? ⟨q, 1, none⟩ = some (.int .i64 m) ∧ w.cell? ⟨q, 2, none⟩ = some (.int .u64 la) ∧ ∀ k, w.frozen? ⟨q, k, none⟩ = false := by
  refine ⟨?_, ?_, ?_, fun k => by simp [World.frozen?, h]⟩
  · rw [cell_of_row w q 0 _ _ (0, 0) h]; rfl
  · rw [cell_of_row w q 1 _ _ (0, 0) h]; rfl
  · rw [cell_of_row w q 2 _ _ (0, 0) h]; rfl
/-- all but the line's block and its edges' is as it was -/
structure Fq (q : Nat) (bo : Option Nat) (w w' : World) : Prop where
  os : w'.os = w.os
  tape : w'.tape = w.tape
  output : w'.output = w.output
  size : w.heap.size ≤ w'.heap.size
  block : ∀ k, k < w.heap.size → k ≠ q → bo ≠ some k → w'.heap[k]? = w.heap[k]?
theorem Fq.of_below {q : Nat} {bo : Option Nat} {w w' : World} (h : Below w.heap.size w w') : Fq q bo w w' := ⟨h.os, h.tape, h.output, h.size, fun k hk _ _ => h.block k hk⟩
theorem Rl.kept {w w' : World} {q B : Nat} {bo : Option Nat} {es : List Int} {m la : Int} (h : Rl w q B bo es m la) (hs : w.heap.size ≤ w'.heap.size) (hk : ∀ k, k < w.heap.size → k = q ∨ bo = some k → w'.heap[k]? = w.heap[k]?) : Rl w' q B bo es m la := by
  obtain ⟨h1, h2, h3, ev, h4, h5⟩ := h
  exact ⟨h1, Nat.le_trans h2 hs, h3, ev, (hk q (by omega) (.inl rfl)).trans h4, h5.kept (fun k hb => hk k (h5.lt k hb).2 (.inr hb))⟩
end Go.Proofs.Ytenlkadmniobdaa
