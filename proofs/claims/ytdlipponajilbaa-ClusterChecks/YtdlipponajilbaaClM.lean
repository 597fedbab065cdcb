/- Memory: candidates, rated ones and spans, in rows. -/
import Derived.Test.YtdlipponajilbaaGB
import Derived.Test.YtdlipponajilbaaClA
import Derived.Deep.RegionHeld3
namespace Go.Proofs.Ytdlipponajilbaa
open Go Go.RowKit Go.Sort
set_option linter.unusedVariables false
theorem or_len {w : World} {B : Nat} {e : TypeId} {k : Nat} {v : Value} {rows : List (List Value)} (h : OR w B e k v rows) : ∃ ao cap, v = .slice ao rows.length cap := by
  rcases h.row.2 with ⟨h1, h2⟩ | ⟨g, cap, cur, h1, _⟩
  · refine ⟨none, 0, ?_⟩
    have : rows.length = 0 := by first | (simpa using h2) | (rw [h2]; rfl) | (simp_all)
    rw [this]; exact h1
  · exact ⟨_, _, h1⟩
theorem flat_cell {k : Nat} {rows : List (List Value)} (h : ∀ r ∈ rows, r.length = k) (i j : Nat) (u : Value) (hi : i < rows.length) (hj : j < k) : rows.flatten.set (i * k + j) u = (rows.set i ((rows.getD i []).set j u)).flatten := by
  induction rows generalizing i with
  | nil => exact absurd hi (by simp)
  | cons s t ih =>
    have hs := h s (List.mem_cons_self ..)
    rw [List.flatten_cons]
    cases i with
    | zero =>
      rw [Nat.zero_mul, Nat.zero_add, List.set_append_left _ _ (by omega), List.set_cons_zero, List.flatten_cons]; rfl
    | succ i =>
      rw [List.set_cons_succ, List.flatten_cons, List.set_append_right _ _ (by rw [hs, Nat.add_mul]; omega), hs, show (i + 1) * k + j - k = i * k + j from by rw [Nat.add_mul]; omega, ih (fun x hx => h x (List.mem_cons_of_mem _ hx)) i (by simpa using hi)]
      rfl
theorem OR.cellSet0 {w : World} {B g cap n : Nat} {e : TypeId} {k : Nat} {rows : List (List Value)} {i : Nat} (h : OR w B e k (.slice (some ⟨g, 0, none⟩) n cap) rows) (hi : i < rows.length) (j : Nat) (hj : j < k) (u : Value) :
    OR (w.setCell ⟨g, i * k + j, none⟩ u) B e k (.slice (some ⟨g, 0, none⟩) n cap) (rows.set i ((rows.getD i []).set j u)) ∧ w.grownBy (w.setCell ⟨g, i * k + j, none⟩ u) (some g) := by
  have hn : n = rows.length := by
    rcases h.row.2 with ⟨h1, _⟩ | ⟨_, _, _, h1, _⟩
    · injection h1 with h1; cases h1
    · injection h1 with _ h1 _
  subst hn
  obtain ⟨h1, h2⟩ := h.row.stored (i * k + j) u
  refine ⟨⟨by rw [List.length_set, ← flat_cell h.len i j u hi hj]; exact h1, fun x hx => ?_⟩, h2⟩
  rcases List.mem_or_eq_of_mem_set hx with h5 | h5
  · exact h.len x h5
  · rw [h5, List.length_set, List.getD_eq_getElem?_getD, List.getElem?_eq_getElem hi]
    exact h.len _ (List.getElem_mem hi)
def cnL (c : Cn) : List Value := [.int .i64 c.id, .int .i64 c.o, .int .i64 c.d, .int .i64 c.j, .int .i64 c.s, .bool c.pf, .bool c.pu]
theorem cnL_len (c : Cn) : (cnL c).length = 7 := rfl
theorem cnL_one (c : Cn) : ∀ u ∈ cnL c, u.oneCell' = true := by
  intro u hu
  simp only [cnL, List.mem_cons, List.not_mem_nil, or_false] at hu
  rcases hu with rfl | rfl | rfl | rfl | rfl | rfl | rfl <;> rfl
def rtL (r : Rtd) : List Value := cnL r.c ++ [.int .i64 r.m]
theorem rtL_len (r : Rtd) : (rtL r).length = 8 := rfl
theorem rtL_one (r : Rtd) : ∀ u ∈ rtL r, u.oneCell' = true := by
  intro u hu
  unfold rtL at hu
  rcases List.mem_append.1 hu with h | h
  · exact cnL_one _ u h
  · rw [List.mem_singleton.1 h]; rfl
def spR (zs : List Int) : List (List Value) := zs.map fun z => [.int .i64 z]
theorem spR_len (zs : List Int) : (spR zs).length = zs.length := by unfold spR; rw [List.length_map]
theorem spR_snoc (zs : List Int) (z : Int) : spR (zs ++ [z]) = spR zs ++ [[.int .i64 z]] := by unfold spR; rw [List.map_append]; rfl
theorem tiC : TI 22 27 7 48 := by
  refine ⟨Try.underlying22, ?_, by decide⟩
  have h : (Try.prog.info? 27).map (fun i => (i.zero, i.size, i.bytes)) = some (some (.agg (cnL zCn).toArray), 7, 48) := by kernel_rfl
  cases hi : Try.prog.info? 27 with
  | none => rw [hi] at h; cases h
  | some i =>
    rw [hi] at h
    simp only [Option.map_some, Option.some.injEq, Prod.mk.injEq] at h
    exact ⟨i, _, rfl, h.1, h.2.1, h.2.2, rfl⟩
theorem tiS : TI 64 25 1 8 := by
  refine ⟨Try.underlying64, ?_, by decide⟩
  have h : (Try.prog.info? 25).map (fun i => (i.zero, i.size, i.bytes)) = some (some (.int .i64 0), 1, 8) := by kernel_rfl
  cases hi : Try.prog.info? 25 with
  | none => rw [hi] at h; cases h
  | some i =>
    rw [hi] at h
    simp only [Option.map_some, Option.some.injEq, Prod.mk.injEq] at h
    exact ⟨i, _, rfl, h.1, h.2.1, h.2.2, rfl⟩
theorem tiR : TI 53 55 8 56 := by
  refine ⟨Try.underlying53, ?_, by decide⟩
  have h : (Try.prog.info? 55).map (fun i => (i.zero, i.size, i.bytes)) = some (some (.agg (rtL ⟨zCn, 0⟩).toArray), 8, 56) := by kernel_rfl
  cases hi : Try.prog.info? 55 with
  | none => rw [hi] at h; cases h
  | some i =>
    rw [hi] at h
    simp only [Option.map_some, Option.some.injEq, Prod.mk.injEq] at h
    exact ⟨i, _, rfl, h.1, h.2.1, h.2.2, rfl⟩
theorem run_bsC (c : Cn) (u : World) : (Instr.buildSlice 22 1 #[(0, .agg (cnL c).toArray)]).run Try.prog u = .ok (.slice (some ⟨u.heap.size, 0, none⟩) 1 1) (u.alloc (.cells (cnL c).toArray 27)) := by
  kernel_rfl
theorem run_bs0 (u : World) : (Instr.buildSlice 22 0 #[]).run Try.prog u = .ok (.slice (some ⟨u.heap.size, 0, none⟩) 0 0) (u.alloc (.cells #[] 27)) := by
  kernel_rfl
theorem take_snoc {α : Type} {l : List α} {k : Nat} {c : α} (h : l[k]? = some c) : l.take (k + 1) = l.take k ++ [c] := by
  have hl : k < l.length := by
    rcases Nat.lt_or_ge k l.length with h1 | h1
    · exact h1
    · rw [List.getElem?_eq_none h1] at h; cases h
  rw [List.take_succ_eq_append_getElem hl]
  rw [List.getElem?_eq_getElem hl] at h
  rw [Option.some.inj h]
theorem run_bsS (z : Int) (u : World) : (Instr.buildSlice 64 1 #[(0, .int .i64 z)]).run Try.prog u = .ok (.slice (some ⟨u.heap.size, 0, none⟩) 1 1) (u.alloc (.cells ([.int .i64 z] : List Value).toArray 25)) := by
  kernel_rfl
theorem ix_C {ao : Option Addr} {ad : Addr} (n cap k : Nat) (h : ao = some ad) (hk : (k : Int) < n) (w : World) : Sem.run Try.prog (Instr.indexAt 22 (.slice ao n cap) (.int .i64 (k : Int))) w = .ok (.pointer (some (ad.add (k * 7)))) w := by
  have u' := Try.underlying22
  have c3 : Try.prog.cellsOf 27 = 7 := by kernel_rfl
  have h0 : (0 : Int) ≤ k := Int.natCast_nonneg k
  subst h
  go_simp
theorem ix_R {ao : Option Addr} {ad : Addr} (n cap k : Nat) (h : ao = some ad) (hk : (k : Int) < n) (w : World) : Sem.run Try.prog (Instr.indexAt 53 (.slice ao n cap) (.int .i64 (k : Int))) w = .ok (.pointer (some (ad.add (k * 8)))) w := by
  have u' := Try.underlying53
  have c3 : Try.prog.cellsOf 55 = 8 := by kernel_rfl
  have h0 : (0 : Int) ≤ k := Int.natCast_nonneg k
  subst h
  go_simp
theorem cands_read {N : Nat} {w : World} {v : Value} {l : List Cn} (h : Rk N w 7 v (l.map cnL)) : ∃ ao cap, v = .slice ao l.length cap ∧ l.length ≤ cap ∧ ∀ w' : World, (∀ p : Addr, p.block < N → w'.cell? p = w.cell? p) → ∀ (i : Nat) c, l[i]? = some c → ∃ ad, ao = some ad ∧ ad.block < N ∧ ∀ j u, (cnL c)[j]? = some u → w'.cell? ((ad.add (i * 7)).add j) = some u := by
  obtain ⟨ao, cap, hv, hc, hr⟩ := h
  rw [List.length_map] at hv hr hc
  refine ⟨ao, cap, hv, hc, fun w' hw i c hi => ?_⟩
  have hl : i < l.length := by
    rcases Nat.lt_or_ge i l.length with h | h
    · exact h
    · rw [List.getElem?_eq_none h] at hi; cases hi
  obtain ⟨ad, k1, k2, k3⟩ := hr i hl
  refine ⟨ad, k1, k2, fun j u hu => ?_⟩
  rw [hw _ (by rw [add_block, add_block]; exact k2), add_add]
  refine k3 j u ?_
  rw [getD_map' cnL l i hl]
  rw [List.getElem?_eq_getElem hl] at hi
  rw [Option.some.inj hi]; exact hu
theorem below_cells {w w' : World} {N B : Nat} (h : Below B w w') (hN : N ≤ B) : ∀ p : Addr, p.block < N → w'.cell? p = w.cell? p := fun p hp => h.cell (by omega)
theorem OR.addr {w : World} {B : Nat} {e : TypeId} {k : Nat} {v : Value} {rows : List (List Value)} (h : OR w B e k v rows) : ∃ g cap, (v = .slice none 0 0 ∧ rows = []) ∨ (v = .slice (some ⟨g, 0, none⟩) rows.length cap ∧ B ≤ g ∧ g < w.heap.size) := by
  rcases h.row.2 with ⟨h1, h2⟩ | ⟨g, cap, cur, h1, h2, h3, _⟩
  · exact ⟨0, 0, .inl ⟨h1, List.length_eq_zero_iff.1 h2⟩⟩
  · refine ⟨g, cap, .inr ⟨h1, h2, ?_⟩⟩
    rcases Nat.lt_or_ge g w.heap.size with h | h
    · exact h
    · rw [Array.getElem?_eq_none h] at h3; cases h3
/-- spans in a row, as the kit's roots want them -/
theorem OR.rs {w : World} {B : Nat} {e : TypeId} {v : Value} {zs : List Int} (h : OR w B e 1 v (spR zs)) : ∃ ao cap, v = .slice ao zs.length cap ∧ zs.length ≤ cap ∧ cap ≤ maxLen ∧ Rs w ao zs := by
  have hcap : ∀ ao n cap, v = .slice ao n cap → cap ≤ maxLen := fun ao n cap hv => by
    rcases h.row.2 with ⟨h1, _⟩ | ⟨g, cap', cur, h1, h2, h3, h4, h5, _⟩
    · rw [h1] at hv; injection hv with _ _ e; rw [← e]; exact Nat.zero_le _
    · rw [h1] at hv; injection hv with _ _ e; rw [← e]; exact h5
  obtain ⟨ao, cap, hv, hc, hr⟩ := h.rk
  rw [spR_len] at hv hc hr
  refine ⟨ao, cap, hv, hc, hcap _ _ _ hv, fun k hk => ?_⟩
  obtain ⟨ad, g1, g2, g3⟩ := hr k hk
  refine ⟨ad, g1, g2, ?_⟩
  have := g3 0 (.int .i64 (zs.getD k 0)) (by
    unfold spR
    rw [getD_map' _ _ _ hk, List.getD_eq_getElem?_getD, List.getElem?_eq_getElem hk]; rfl)
  simpa using this
end Go.Proofs.Ytdlipponajilbaa
