/- slices.Delete of one candidate. -/
import Derived.Test.YtdlipponajilbaaClF
import Derived.Deep.RegionLaw
import Derived.Laws.IdiomCopy
namespace Go.Proofs.Ytdlipponajilbaa
open Go Go.RowKit Go.Sort
set_option linter.unusedVariables false
theorem setCells_row (w : World) (g o : Nat) (T : TypeId) (vs : List Value) (cur : Array Value) (h : w.heap[g]? = some (.cells cur T (0, 0))) (hl : o + vs.length ≤ cur.size) (h1 : ∀ v ∈ vs, v.oneCell' = true) : w.setCells g o vs = w.setRow g (cur.toList.take o ++ vs ++ cur.toList.drop (o + vs.length)).toArray := by
  have e1 := run_storeCells_at (P := Try.prog) g o T vs 0 cur w h (by omega) h1
  have e2 := run_storeCells_cells (P := Try.prog) g o vs 0 w (fun j hj => by
    rw [cell_of_row w g _ cur T (0, 0) h, Array.getElem?_eq_getElem (by omega)]; rfl) (fun j hj => by simp [World.frozen?, h]) h1
  rw [Nat.add_zero] at e1 e2
  rw [e1] at e2
  injection e2 with _ e2
  exact e2.symm
theorem clear1 (w : World) (g o c : Nat) (ty T : TypeId) (cur : Array Value) (h : w.heap[g]? = some (.cells cur T (0, 0))) (hl : o + 7 ≤ cur.size) : (Builtin.clear_ #[22] ty #[.slice (some ⟨g, o, none⟩) 1 c]).run Try.prog w = .ok (.tuple #[]) (w.setCells g o (cnL zCn)) := by
  have e2 := run_storeCells_cells (P := Try.prog) g o (cnL zCn) 0 w (fun j hj => by
    have hj' : j < 7 := hj
    rw [cell_of_row w g _ cur T (0, 0) h, Array.getElem?_eq_getElem (by omega)]; rfl) (fun j hj => by simp [World.frozen?, h]) (cnL_one _)
  rw [Nat.add_zero] at e2
  have hz : (Builtin.zeroCells (Value.agg #[.int .i64 0, .int .i64 0, .int .i64 0, .int .i64 0, .int .i64 0, .bool false, .bool false]).cells 1).toList = cnL zCn := by kernel_rfl
  simp [Builtin.clear_, run_underlying Try.underlying22, hz, e2]
theorem flat_take {k : Nat} {rows : List (List Value)} (h : ∀ r ∈ rows, r.length = k) (i : Nat) : (rows.take i).flatten = rows.flatten.take (i * k) := by
  induction rows generalizing i with
  | nil => simp
  | cons r t ih =>
    cases i with
    | zero => simp
    | succ i =>
      have hr := h r (List.mem_cons_self ..)
      rw [List.take_succ_cons, List.flatten_cons, List.flatten_cons, ih (fun x hx => h x (List.mem_cons_of_mem _ hx)) i, show (i + 1) * k = r.length + i * k from by rw [hr, Nat.add_mul]; omega, List.take_length_add_append]
theorem flat_drop {k : Nat} {rows : List (List Value)} (h : ∀ r ∈ rows, r.length = k) (i : Nat) : (rows.drop i).flatten = rows.flatten.drop (i * k) := by
  induction rows generalizing i with
  | nil => simp
  | cons r t ih =>
    cases i with
    | zero => simp
    | succ i =>
      have hr := h r (List.mem_cons_self ..)
      rw [List.drop_succ_cons, List.flatten_cons, ih (fun x hx => h x (List.mem_cons_of_mem _ hx)) i, show (i + 1) * k = r.length + i * k from by rw [hr, Nat.add_mul]; omega, List.drop_length_add_append]
set_option maxRecDepth 20000 in
set_option maxHeartbeats 1000000 in
theorem delete_any (B g n cap i : Nat) (l : List Cn) (w : World) (h : OR w B 27 7 (.slice (some ⟨g, 0, none⟩) n cap) (l.map cnL)) (hn : n = l.length) (hi : i < n) (hl : n ≤ 1000) :
    Calls Try.prog 21 #[.slice (some ⟨g, 0, none⟩) n cap, .int .i64 (i : Int), .int .i64 ((i : Int) + 1)] w fun e w' => e = .returned (.slice (some ⟨g, 0, none⟩) (n - 1) cap) ∧ Hid (OR w' B 27 7 (.slice (some ⟨g, 0, none⟩) (n - 1) cap) ((l.eraseIdx i).map cnL) ∧ w.grownBy w' (some g)) := by
  obtain ⟨J, hJ⟩ : ∃ J : Nat, J = i + 1 := ⟨_, rfl⟩
  have hJi : (i : Int) + 1 = (J : Int) := by omega
  rw [hJi]
  rcases h.row.2 with ⟨e0, _⟩ | ⟨g', cap', cur, e0, hB, hg, hnc, hm, hs, ht⟩
  · injection e0 with e0; cases e0
  injection e0 with e1 e2 e3
  injection e1 with e1
  injection e1 with e1
  subst e1 e3
  rw [List.length_map] at hnc e2 ht
  obtain ⟨n1, hn1⟩ : ∃ n1, n = n1 + 1 := ⟨n - 1, by omega⟩
  have hlen : ∀ r ∈ l.map cnL, r.length = 7 := h.len
  -- what is moved
  obtain ⟨news, hnews⟩ : ∃ news, news = ((l.map cnL).drop (i + 1)).flatten := ⟨_, rfl⟩
  have hnl : news.length = (n - (i + 1)) * 7 := by rw [hnews, flat_len (fun r hr => hlen r (List.mem_of_mem_drop hr)), List.length_drop, List.length_map]; omega
  have hnd : news = (l.map cnL).flatten.drop ((i + 1) * 7) := by rw [hnews]; exact flat_drop hlen (i + 1)
  have hone : ∀ u ∈ news, u.oneCell' = true := by
    intro u hu
    rw [hnews] at hu
    obtain ⟨r, hr, hur⟩ := List.mem_flatten.1 hu
    obtain ⟨c, _, rfl⟩ := List.mem_map.1 (List.mem_of_mem_drop hr)
    exact cnL_one c u hur
  have hcur : cur.toList.length = cap * 7 := by rw [← hs]; simp
  have hcell : ∀ t u, news[t]? = some u → w.drew.cell? ⟨g, (i + 1) * 7 + t, none⟩ = some u := fun t u hu => by
    show w.cell? _ = _
    rw [cell_of_row w g _ cur _ (0, 0) hg, ← Array.getElem?_toList]
    have htl : t < news.length := (List.getElem?_eq_some_iff.1 hu).1
    rw [hnd, ← ht, List.getElem?_drop, List.getElem?_take_of_lt (by omega)] at hu
    exact hu
  obtain ⟨A, hA, hsrc⟩ : ∃ A : Addr, (if cap = i + 1 then some (⟨g, 0, none⟩ : Addr) else some ⟨g, (i + 1) * 7, none⟩) = some A ∧ Hid (∀ t u, news[t]? = some u → w.drew.cell? (A.add t) = some u) := by
    by_cases hc : cap = i + 1
    · refine ⟨⟨g, 0, none⟩, by simp [hc], fun t u hu => ?_⟩
      have h0 : news.length = 0 := by rw [hnl]; omega
      rw [List.length_eq_zero_iff.1 h0] at hu
      simp at hu
    · refine ⟨⟨g, (i + 1) * 7, none⟩, by simp [hc], fun t u hu => ?_⟩
      rw [own_add]
      exact hcell t u hu
  have s1 : Hid (news.length = (n - (i + 1)) * 7) := hnl
  have s2 : Hid (∀ u ∈ news, u.oneCell' = true) := hone
  have s3 : Hid (∀ t, t < news.length → (w.drew.cell? ⟨g, 0 + i * 7 + t, none⟩).isSome = true ∧ w.drew.frozen? ⟨g, 0 + i * 7 + t, none⟩ = false) := by
    intro t htl
    rw [hnl] at htl
    refine ⟨?_, by show w.frozen? _ = false; simp [World.frozen?, hg]⟩
    show (w.cell? _).isSome = true
    rw [cell_of_row w g _ cur _ (0, 0) hg, Array.getElem?_eq_getElem (by omega)]; rfl
  -- the worlds
  obtain ⟨W1, hW1⟩ : ∃ W1, W1 = w.drew.setCells g (0 + i * 7) news := ⟨_, rfl⟩
  have hgd : w.drew.heap[g]? = some (.cells cur 27 (0, 0)) := hg
  have hW1r : W1 = w.drew.setRow g (cur.toList.take (i * 7) ++ news ++ cur.toList.drop (i * 7 + news.length)).toArray := by
    rw [hW1, Nat.zero_add]
    exact setCells_row _ g (i * 7) _ news cur hgd (by rw [hnl, hs]; omega) hone
  obtain ⟨cur1, hc1⟩ : ∃ cur1 : List Value, cur1 = cur.toList.take (i * 7) ++ news ++ cur.toList.drop (i * 7 + news.length) := ⟨_, rfl⟩
  have hl1 : cur1.length = cap * 7 := by rw [hc1]; simp only [List.length_append, List.length_take, List.length_drop, hcur, hnl]; omega
  have hg1 : W1.heap[g]? = some (.cells cur1.toArray 27 (0, 0)) := by rw [hW1r, hc1]; exact setRow_heap _ g cur _ _ _ hgd
  obtain ⟨W2, hW2⟩ : ∃ W2, W2 = W1.setCells g (n1 * 7) (cnL zCn) := ⟨_, rfl⟩
  have hW2r : W2 = W1.setRow g (cur1.toArray.toList.take (n1 * 7) ++ cnL zCn ++ cur1.toArray.toList.drop (n1 * 7 + (cnL zCn).length)).toArray := by
    rw [hW2]
    exact setCells_row _ g (n1 * 7) _ (cnL zCn) cur1.toArray hg1 (by rw [List.size_toArray, hl1, cnL_len]; omega) (cnL_one _)
  have hcl : ∀ ty c, (Builtin.clear_ #[22] ty #[.slice (some ⟨g, n1 * 7, none⟩) 1 c]).run Try.prog W1 = .ok (.tuple #[]) W2 := fun ty c => by
    rw [hW2]
    exact clear1 W1 g (n1 * 7) c ty _ cur1.toArray hg1 (by rw [List.size_toArray, hl1]; omega)
  have HZ : Hid (OR W2 B 27 7 (.slice (some ⟨g, 0, none⟩) (n - 1) cap) ((l.eraseIdx i).map cnL) ∧ w.grownBy W2 (some g)) := by
    have hlen2 : ∀ r ∈ (l.eraseIdx i).map cnL, r.length = 7 := fun r hr => by obtain ⟨x, _, rfl⟩ := List.mem_map.1 hr; rfl
    have hel : (l.eraseIdx i).length = n1 := by rw [List.length_eraseIdx_of_lt (by omega)]; omega
    have hflat : ((l.eraseIdx i).map cnL).flatten = (l.map cnL).flatten.take (i * 7) ++ news := by
      rw [List.eraseIdx_eq_take_drop_succ, List.map_append, List.flatten_append, hnews, ← flat_take hlen i, List.map_take, List.map_drop]
    refine ⟨⟨⟨by rw [flat_len hlen2, List.length_map], .inr ⟨g, cap, (cur1.toArray.toList.take (n1 * 7) ++ cnL zCn ++ cur1.toArray.toList.drop (n1 * 7 + (cnL zCn).length)).toArray, ?_, hB, ?_, ?_, hm, ?_, ?_⟩⟩, hlen2⟩, ?_⟩
    · rw [List.length_map, hel]; congr 1; omega
    · rw [hW2r]; exact setRow_heap _ g cur1.toArray _ _ _ hg1
    · rw [List.length_map, hel]; omega
    · simp only [List.size_toArray, List.length_append, List.length_take, List.length_drop, cnL_len, hl1]; omega
    · rw [List.length_map, hel, hflat]
      simp only
      rw [List.append_assoc, List.take_append_of_le_length (by rw [List.length_take, hl1]; omega), List.take_take, Nat.min_self, hc1]
      rw [List.take_append_of_le_length (by simp only [List.length_append, List.length_take, hcur, hnl]; omega)]
      rw [List.take_of_length_le (by simp only [List.length_append, List.length_take, hcur, hnl]; omega)]
      congr 1
      rw [← ht, List.take_take, Nat.min_eq_left (by omega)]
    · rw [hW2r, hW1r]
      exact grownBy_trans (grownBy_trans (grownBy_drew w _) (grownBy_row _ _ _)) (grownBy_row _ _ _)
  obtain ⟨i0, z0, hi0, hz0, hz1, hz2, hz3⟩ := tiC.info
  have t22 := Try.underlying22
  have hW : Hid (W1 = w.drew.setCells g (0 + i * 7) news) := hW1
  obtain ⟨v3, hv3⟩ : ∃ v3, ∀ u, (Instr.slice 22 (.slice (some ⟨g, 0, none⟩) n cap) (some (.int .i64 (i : Int))) (some (.int .i64 (J : Int))) (some (.int .i64 (n : Int)))).run Try.prog u = .ok v3 u := by
    have q1 : n ≤ cap := by omega
    have q2 : J ≤ n := by omega
    have q3 : i ≤ J := by omega
    exact ⟨_, fun u => by simp [Instr.slice, Instr.sliceBounds, Instr.sliceBound, asIntOf, run_underlying Try.underlying22, q1, q2, q3]; rfl⟩
  have r1 : ∀ u, (Instr.slice 22 (.slice (some ⟨g, 0, none⟩) n cap) none (some (.int .i64 (i : Int))) none).run Try.prog u = .ok (.slice (some ⟨g, 0, none⟩) i cap) u := fun u => by
    have q1 : i ≤ cap := by omega
    simp [Instr.slice, Instr.sliceBounds, Instr.sliceBound, asIntOf, run_underlying Try.underlying22, q1, Addr.add]
  have r2 : ∀ u, (Instr.slice 22 (.slice (some ⟨g, 0, none⟩) n cap) (some (.int .i64 (J : Int))) none none).run Try.prog u = .ok (.slice (some A) (n - (i + 1)) (cap - (i + 1))) u := fun u => by
    have q2 : J ≤ n := by omega
    rw [← hA, ← hJ]
    simp [Instr.slice, Instr.sliceBounds, Instr.sliceBound, asIntOf, run_underlying Try.underlying22, q2, Addr.add]
    rw [if_neg (show ¬ J * 7 = 0 by omega)]
  have r3 : ∀ u, (Instr.slice 22 (.slice (some ⟨g, 0, none⟩) n1 cap) (some (.int .i64 (n1 : Int))) (some (.int .i64 (n : Int))) none).run Try.prog u = .ok (.slice (some ⟨g, n1 * 7, none⟩) 1 (cap - n1)) u := fun u => by
    have q1 : n ≤ cap := by omega
    have q2 : n1 ≤ n := by omega
    have q3 : cap ≠ n1 := by omega
    have q4 : n - n1 = 1 := by omega
    simp [Instr.slice, Instr.sliceBounds, Instr.sliceBound, asIntOf, run_underlying Try.underlying22, q1, q2, q3, q4, Addr.add]
    try omega
  have q1 : (i : Int) ≠ (J : Int) := by omega
  have q1b : ((i : Int) == (J : Int)) = false := by simpa using q1
  have q2 : (n1 : Int) + 1 = (n : Int) := by omega
  have q3 : i + (n - (i + 1)) = n1 := by omega
  have s5 : Hid (i + (n - (i + 1)) ≤ cap) := by show _ ≤ _; omega
  have HE : Hid (n - 1 = n1) := by show _ = _; omega
  rw [HE.out] at HZ ⊢
  have mixed : Try.prog.follows .mixedOrders = true := by kernel_rfl
  clear h hn hi hl hJ hJi hB hg hnc hm hs ht hlen hnews hnl hnd hone hcur hcell hA hgd hW1r hc1 hl1 hg1 hW2r hW2 hW1 e2 hn1 hz0 hz2 hz3
  go_enter Try.func21, Try.ntmps21
  go_wp2_with fail
  go_region_law (refine step_append_room rfl (.tmp 22) (.tmp 25) 22 rfl 27 i0 7 t22 hi0 hz1 g 0 i cap (by simp [Act.eval, Act.put]) A (n - (i + 1)) (cap - (i + 1)) news (by simp [Act.eval, Act.put]) s1.out hsrc.out s2.out s5.out s3.out ?_; rw [← hW.out])
  all_goals
    go_wp2_with fail
    go_ret
    exact ⟨rfl, HZ.out⟩
end Go.Proofs.Ytdlipponajilbaa
