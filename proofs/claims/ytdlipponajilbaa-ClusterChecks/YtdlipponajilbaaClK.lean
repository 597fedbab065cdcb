/- slices.Grow and slices.Concat at candidates; bestAhead. -/
import Derived.Test.YtdlipponajilbaaClH
namespace Go.Proofs.Ytdlipponajilbaa
open Go Go.RowKit Go.Sort
set_option linter.unusedVariables false
theorem run_zeros (w : World) (n : Nat) (ty : TypeId) (h0 : 0 < n) (hn : n ≤ 100000) : ∃ w' C, (Builtin.append_ #[22, 3] ty #[.slice none 0 0, .int .i64 (n : Int)]).run Try.prog w = .ok (.slice (some ⟨w.heap.size, 0, none⟩) n C) w' ∧ n ≤ C ∧ C ≤ maxLen ∧ Below w.heap.size w w' ∧ OR w' w.heap.size 27 7 (.slice (some ⟨w.heap.size, 0, none⟩) 0 C) [] := by
  obtain ⟨i, z, h1, h2, h3, h4, h5⟩ := tiC.info
  have hne : n ≠ 0 := by omega
  have h63' : ¬ (9223372036854775807 < (n : Int)) := by omega
  have h48' : ¬ (281474976710656 < Builtin.nextslicecap n 0 * i.bytes) := by rw [nextslicecap_zero h0, h4]; omega
  have hw : IntKind.i64.wrap (n : Int) = (n : Int) := by rw [IntKind.wrap_i64]; omega
  have hneg : ¬ (n : Int) < 0 := by omega
  have hby : ¬ (281474976710656 : Int) < (n : Int) * (i.bytes : Int) := by rw [h4]; omega
  refine ⟨w.drew.alloc (.cells (Builtin.zeroCells z.cells n ++ Builtin.zeroCells z.cells (grownCap w n 0 27 - n)) 27), grownCap w n 0 27, ?_, grownCap_ge _ _ _ _, grownCap_le_maxLen _ _ _ _ (by unfold maxLen; omega), ((Below.refl _ _).drew).alloc (Nat.le_refl _) _, ?_⟩
  · simp [Builtin.append_, run_underlying Try.underlying22, run_underlying Try.underlying3, sizeOf, typeInfo, zeroValue, h1, h2, hne, h63', h48', Question.forced, run_firstCells_none, newRow, grownCap, hw, hneg, hby, asInt, asIntOf]
    intro h
    rw [h3] at h
    omega
  · refine ⟨⟨rfl, .inr ⟨w.heap.size, _, _, rfl, Nat.le_refl _, alloc_at w.drew _, Nat.zero_le _, grownCap_le_maxLen _ _ _ _ (by unfold maxLen; omega), ?_, by simp⟩⟩, fun r hr => by cases hr⟩
    have hg := grownCap_ge w n 0 27
    simp only [Array.size_append, Builtin.zeroCells, Array.size_map, Array.size_range, h5]
    rw [← Nat.add_mul]
    rw [Nat.add_sub_of_le hg]
theorem wpList_appR {w : World} {ops : Array Oper} {rest : List Oper} {o : Oper} {a : Act} {Q : Exit → Act → World → Prop} (hgd : o.guard = none) (s x : Operand) (ts : Array TypeId)
    (ho : o.op = .call { callee := .builtin .append, args := #[s, x], argTypes := ts }) (sv xv v' : Value) (w' : World) (hs : a.eval s = sv) (hx : a.eval x = xv) (hrun : (Builtin.append_ ts o.type #[sv, xv]).run Try.prog w = .ok v' w')
    (h : wpList Try.prog ops Q rest (a.put o.dst v') w') : wpList Try.prog ops Q (o :: rest) a w := by
  refine wpList_plain hgd fun K hK => ?_
  unfold Oper.wp
  simp [execOp, ho, resolve, invoke, builtin, hs, hx, hrun, Result.andThen]
  exact hK _ _ h
set_option maxRecDepth 20000 in
set_option maxHeartbeats 1000000 in
theorem grow_any (n : Nat) (w : World) (hn : n ≤ 100000) : Calls Try.prog 79 #[.slice none 0 0, .int .i64 (n : Int)] w fun e w' => ∃ u, e = .returned u ∧ Hid (OR w' w.heap.size 27 7 u []) ∧ Hid (Below w.heap.size w w') := by
  by_cases h0 : n = 0
  · subst h0
    go_enter Try.func79, Try.ntmps79
    go_wp2_with fail
    go_ret
    exact ⟨_, rfl, OR.nil _ _ _ _, Below.refl _ _⟩
  · have hpos : (0 : Int) < n := by omega
    have hn2 : (n : Int) ≤ 100000 := by omega
    have r0 : ∀ u, (Instr.slice 22 (.slice none 0 0) none (some (.int .i64 0)) none).run Try.prog u = .ok (.slice none 0 0) u := fun u => by
      simp [Instr.slice, Instr.sliceBounds, Instr.sliceBound, asIntOf, run_underlying Try.underlying22]
    have r1 : ∀ (g C : Nat) (u : World), (Instr.slice 22 (.slice (some ⟨g, 0, none⟩) n C) none (some (.int .i64 0)) none).run Try.prog u = .ok (.slice (some ⟨g, 0, none⟩) 0 C) u := fun g C u => by
      simp [Instr.slice, Instr.sliceBounds, Instr.sliceBound, asIntOf, run_underlying Try.underlying22, Addr.add]
    have HZ : Hid (∀ ty, ∃ w' C, (Builtin.append_ #[22, 3] ty #[.slice none 0 0, .int .i64 (n : Int)]).run Try.prog w = .ok (.slice (some ⟨w.heap.size, 0, none⟩) n C) w' ∧ n ≤ C ∧ C ≤ maxLen ∧ Below w.heap.size w w' ∧ OR w' w.heap.size 27 7 (.slice (some ⟨w.heap.size, 0, none⟩) 0 C) []) := fun ty => run_zeros w n ty (by omega) hn
    obtain ⟨W1, C, hrun, _, _, hb, ho⟩ := HZ.out 22
    have H1 : Hid (Below w.heap.size w W1 ∧ OR W1 w.heap.size 27 7 (.slice (some ⟨w.heap.size, 0, none⟩) 0 C) []) := ⟨hb, ho⟩
    have HR : Hid ((Builtin.append_ #[22, 3] 22 #[.slice none 0 0, .int .i64 (n : Int)]).run Try.prog w = .ok (.slice (some ⟨w.heap.size, 0, none⟩) n C) W1) := hrun
    clear hrun hb ho HZ h0 hn
    go_enter Try.func79, Try.ntmps79
    go_wp2_with (at_builtin; refine wpList_appR rfl _ _ _ rfl (.slice none 0 0) (.int .i64 (n : Int)) _ W1 (by rfl) (by rfl) HR.out ?_)
    go_ret
    exact ⟨_, rfl, H1.out.2, H1.out.1⟩
set_option maxRecDepth 20000 in
set_option maxHeartbeats 1000000 in
theorem concat_any (q : Nat) (a1 a2 a3 : Addr) (n1 n2 n3 c1 c2 c3 : Nat) (x1 x2 x3 : List Cn) (w : World) (N : Nat) (hq : Bk q w #[.slice (some a1) n1 c1, .slice (some a2) n2 c2, .slice (some a3) n3 c3] 22) (h1 : Rk N w 7 (.slice (some a1) n1 c1) (x1.map cnL)) (h2 : Rk N w 7 (.slice (some a2) n2 c2) (x2.map cnL)) (h3 : Rk N w 7 (.slice (some a3) n3 c3) (x3.map cnL)) (hN : N ≤ w.heap.size) (l1 : x1.length ≤ 1000) (l2 : x2.length ≤ 1000) (l3 : x3.length ≤ 1000) :
    Calls Try.prog 61 #[.slice (some ⟨q, 0, none⟩) 3 3] w fun e w' => ∃ u, e = .returned u ∧ Hid (OR w' w.heap.size 27 7 u ((x1 ++ x2 ++ x3).map cnL)) ∧ Hid (Below w.heap.size w w') := by
  have len : ∀ {a : Addr} {n c : Nat} {x : List Cn}, Rk N w 7 (.slice (some a) n c) (x.map cnL) → n = x.length := fun h => by
    obtain ⟨_, _, e, _⟩ := h
    injection e with _ e _
    rw [e, List.length_map]
  have e1 := len h1
  have e2 := len h2
  have e3 := len h3
  have b1 : (n1 : Int) ≤ 1000 := by omega
  have b2 : (n2 : Int) ≤ 1000 := by omega
  have b3 : (n3 : Int) ≤ 1000 := by omega
  obtain ⟨S, hS⟩ : ∃ S : Nat, S = n1 + n2 + n3 := ⟨_, rfl⟩
  have HG : Hid (∀ u, Calls Try.prog 79 #[.slice none 0 0, .int .i64 ((n1 : Int) + n2 + n3)] u fun e w' => ∃ v, e = .returned v ∧ Hid (OR w' u.heap.size 27 7 v []) ∧ Hid (Below u.heap.size u w')) := fun u => by
    have := grow_any S u (by omega)
    rw [show ((S : Nat) : Int) = (n1 : Int) + n2 + n3 from by omega] at this
    exact this
  have HK : Hid ((Rk N w 7 (.slice (some a1) n1 c1) (x1.map cnL) ∧ Rk N w 7 (.slice (some a2) n2 c2) (x2.map cnL) ∧ Rk N w 7 (.slice (some a3) n3 c3) (x3.map cnL)) ∧ N ≤ w.heap.size ∧ x1.length ≤ 1000 ∧ x2.length ≤ 1000 ∧ x3.length ≤ 1000) := ⟨⟨h1, h2, h3⟩, hN, l1, l2, l3⟩
  have HQ : Hid (Bk q w #[.slice (some a1) n1 c1, .slice (some a2) n2 c2, .slice (some a3) n3 c3] 22) := hq
  have d0 : w.cell? ⟨q, 0, none⟩ = some (.slice (some a1) n1 c1) := hq.cell 0
  have d1 : w.cell? ⟨q, 1, none⟩ = some (.slice (some a2) n2 c2) := hq.cell 1
  have d2 : w.cell? ⟨q, 2, none⟩ = some (.slice (some a3) n3 c3) := hq.cell 2
  clear h1 h2 h3 hN l1 l2 l3 e1 e2 e3 hS hq len
  go_enter Try.func61, Try.ntmps61
  go_wp2_with fail
  refine wp_loop_rounds 4 ?_
  rw [rounds_succ]
  go_wp2_with fail
  rw [rounds_succ]
  go_wp2_with fail
  rw [rounds_succ]
  go_wp2_with fail
  rw [rounds_succ]
  go_wp2_with (go_at_call 79; refine (HG.out _).mono ?_; rintro e w1 ⟨v1, rfl, hg1, hg2⟩; have hb1 : Below w.heap.size w w1 := hg2.out; have kq : Bk q w1 #[.slice (some a1) n1 c1, .slice (some a2) n2 c2, .slice (some a3) n3 c3] 22 := HQ.out.kept (hb1.block _ HQ.out.lt); have k0 : w1.cell? ⟨q, 0, none⟩ = some (.slice (some a1) n1 c1) := kq.cell 0; have k1 : w1.cell? ⟨q, 1, none⟩ = some (.slice (some a2) n2 c2) := kq.cell 1; have k2 : w1.cell? ⟨q, 2, none⟩ = some (.slice (some a3) n3 c3) := kq.cell 2; have A1 : Hid (OR w1 w.heap.size 27 7 v1 (([] : List Cn).map cnL) ∧ Below w.heap.size w w1) := ⟨hg1.out, hb1⟩; clear hg1 hg2 hb1 kq)
  refine wp_loop_rounds 4 ?_
  rw [rounds_succ]
  go_wp2_with (at_builtin; refine wpList_appk tiC rfl _ _ rfl w.heap.size N v1 (.slice (some a1) n1 c1) _ (x1.map cnL) (by rfl) (by rfl) A1.out.1 (HK.out.1.1.below A1.out.2 HK.out.2.1) (fun n c hh => by injection hh with hh; cases hh) (fun y hy => by obtain ⟨c, _, rfl⟩ := List.mem_map.1 hy; rfl) (fun y hy u hu => by obtain ⟨c, _, rfl⟩ := List.mem_map.1 hy; exact cnL_one c u hu) (by have := HK.out.2.2; simp only [List.length_map, List.length_nil, maxLen]; omega) (by have := HK.out.2.2; simp only [List.length_map, List.length_nil]; omega) A1.out.2.size ?_; intro v2 w2 o1 o2 _; have hb1 : Below w.heap.size w w2 := A1.out.2.trans (below_own o2 A1.out.2.size A1.out.1.own); have kq : Bk q w2 #[.slice (some a1) n1 c1, .slice (some a2) n2 c2, .slice (some a3) n3 c3] 22 := HQ.out.kept (hb1.block _ HQ.out.lt); have k0 : w2.cell? ⟨q, 0, none⟩ = some (.slice (some a1) n1 c1) := kq.cell 0; have k1 : w2.cell? ⟨q, 1, none⟩ = some (.slice (some a2) n2 c2) := kq.cell 1; have k2 : w2.cell? ⟨q, 2, none⟩ = some (.slice (some a3) n3 c3) := kq.cell 2; have A2 : Hid (OR w2 w.heap.size 27 7 v2 (([] ++ x1 : List Cn).map cnL) ∧ Below w.heap.size w w2) := ⟨by rw [List.map_append]; exact o1, hb1⟩; clear o1 o2 hb1 kq)
  rw [rounds_succ]
  go_wp2_with (at_builtin; refine wpList_appk tiC rfl _ _ rfl w.heap.size N v2 (.slice (some a2) n2 c2) _ (x2.map cnL) (by rfl) (by rfl) A2.out.1 (HK.out.1.2.1.below A2.out.2 HK.out.2.1) (fun n c hh => by injection hh with hh; cases hh) (fun y hy => by obtain ⟨c, _, rfl⟩ := List.mem_map.1 hy; rfl) (fun y hy u hu => by obtain ⟨c, _, rfl⟩ := List.mem_map.1 hy; exact cnL_one c u hu) (by have := HK.out.2.2; simp only [List.length_map, List.length_append, List.length_nil, maxLen]; omega) (by have := HK.out.2.2; simp only [List.length_map, List.length_append, List.length_nil]; omega) A2.out.2.size ?_; intro v3 w3 o1 o2 _; have hb1 : Below w.heap.size w w3 := A2.out.2.trans (below_own o2 A2.out.2.size A2.out.1.own); have kq : Bk q w3 #[.slice (some a1) n1 c1, .slice (some a2) n2 c2, .slice (some a3) n3 c3] 22 := HQ.out.kept (hb1.block _ HQ.out.lt); have k0 : w3.cell? ⟨q, 0, none⟩ = some (.slice (some a1) n1 c1) := kq.cell 0; have k1 : w3.cell? ⟨q, 1, none⟩ = some (.slice (some a2) n2 c2) := kq.cell 1; have k2 : w3.cell? ⟨q, 2, none⟩ = some (.slice (some a3) n3 c3) := kq.cell 2; have A3 : Hid (OR w3 w.heap.size 27 7 v3 (([] ++ x1 ++ x2 : List Cn).map cnL) ∧ Below w.heap.size w w3) := ⟨by rw [List.map_append]; exact o1, hb1⟩; clear o1 o2 hb1 kq)
  rw [rounds_succ]
  go_wp2_with (at_builtin; refine wpList_appk tiC rfl _ _ rfl w.heap.size N v3 (.slice (some a3) n3 c3) _ (x3.map cnL) (by rfl) (by rfl) A3.out.1 (HK.out.1.2.2.below A3.out.2 HK.out.2.1) (fun n c hh => by injection hh with hh; cases hh) (fun y hy => by obtain ⟨c, _, rfl⟩ := List.mem_map.1 hy; rfl) (fun y hy u hu => by obtain ⟨c, _, rfl⟩ := List.mem_map.1 hy; exact cnL_one c u hu) (by have := HK.out.2.2; simp only [List.length_map, List.length_append, List.length_nil, maxLen]; omega) (by have := HK.out.2.2; simp only [List.length_map, List.length_append, List.length_nil]; omega) A3.out.2.size ?_; intro v4 w4 o1 o2 _; have hb1 : Below w.heap.size w w4 := A3.out.2.trans (below_own o2 A3.out.2.size A3.out.1.own); have kq : Bk q w4 #[.slice (some a1) n1 c1, .slice (some a2) n2 c2, .slice (some a3) n3 c3] 22 := HQ.out.kept (hb1.block _ HQ.out.lt); have k0 : w4.cell? ⟨q, 0, none⟩ = some (.slice (some a1) n1 c1) := kq.cell 0; have k1 : w4.cell? ⟨q, 1, none⟩ = some (.slice (some a2) n2 c2) := kq.cell 1; have k2 : w4.cell? ⟨q, 2, none⟩ = some (.slice (some a3) n3 c3) := kq.cell 2; have A4 : Hid (OR w4 w.heap.size 27 7 v4 (([] ++ x1 ++ x2 ++ x3 : List Cn).map cnL) ∧ Below w.heap.size w w4) := ⟨by rw [List.map_append]; exact o1, hb1⟩; clear o1 o2 hb1 kq)
  rw [rounds_succ]
  go_wp2_with fail
  go_ret
  refine ⟨_, rfl, ?_, A4.out.2⟩
  have h := A4.out.1
  simp only [List.nil_append] at h
  exact h
theorem ahd_eq {l : List Cn} {p : Nat} (hp : p < l.length) : (l.drop p).take (p + 1 - p) ++ l.take p ++ l.drop (p + 1) = ahd l p := by
  unfold ahd
  rw [show p + 1 - p = 1 from by omega, List.drop_eq_getElem_cons hp, List.take_succ_cons, List.take_zero, List.eraseIdx_eq_take_drop_succ, List.getD_eq_getElem?_getD, List.getElem?_eq_getElem hp]
  simp
set_option maxRecDepth 20000 in
set_option maxHeartbeats 1000000 in
theorem bestAhead_any (v : Value) (l : List Cn) (p : Nat) (w : World) (N : Nat) (h : Rk N w 7 v (l.map cnL)) (hN : N ≤ w.heap.size) (hl : l.length ≤ 1000) (hp : p < l.length) : Calls Try.prog 37 #[v, .int .i64 (p : Int)] w fun e w' => ∃ u, e = .returned u ∧ Hid (OR w' w.heap.size 27 7 u ((ahd l p).map cnL)) ∧ Hid (Below w.heap.size w w') := by
  obtain ⟨ao, cap, hv, hcap, hr⟩ := cands_read h
  obtain ⟨ad, hao, hrx⟩ := hr w (fun _ _ => rfl) p l[p] (List.getElem?_eq_getElem hp)
  clear hrx
  obtain ⟨n, hn⟩ : ∃ n, l.length = n := ⟨_, rfl⟩
  rw [hn] at hv
  subst hv
  subst hao
  obtain ⟨J, hJ⟩ : ∃ J : Nat, J = p + 1 := ⟨_, rfl⟩
  obtain ⟨o1, c1, r1, k1, f1, _⟩ := csl_mid h p J (by omega) (by omega)
  obtain ⟨o2, c2, r2, k2, f2, _⟩ := csl_take h p (by omega)
  obtain ⟨o3, c3, r3, k3, f3, _⟩ := csl_drop h J (by omega)
  obtain ⟨a1, rfl⟩ : ∃ a, o1 = some a := by
    cases o1 with
    | none => exact absurd rfl (f1 (by simp))
    | some a => exact ⟨a, rfl⟩
  obtain ⟨a2, rfl⟩ : ∃ a, o2 = some a := by
    cases o2 with
    | none => exact absurd rfl (f2 (by simp))
    | some a => exact ⟨a, rfl⟩
  obtain ⟨a3, rfl⟩ : ∃ a, o3 = some a := by
    cases o3 with
    | none => exact absurd rfl (f3 (by simp))
    | some a => exact ⟨a, rfl⟩
  obtain ⟨n1, hn1⟩ : ∃ n1, J - p = n1 := ⟨_, rfl⟩
  obtain ⟨n3, hn3⟩ : ∃ n3, n - J = n3 := ⟨_, rfl⟩
  rw [hn1] at r1
  rw [hn3] at r3
  have hpi : (p : Int) + 1 = (J : Int) := by omega
  have hpw : IntKind.i64.wrap ((p : Int) + 1) = (J : Int) := by rw [IntKind.wrap_i64]; omega
  have hJw : IntKind.i64.wrap (J : Int) = (J : Int) := by rw [IntKind.wrap_i64]; omega
  have HC : Hid (∀ (W : World) (q : Nat), Below w.heap.size w W → Bk q W #[.slice (some a1) n1 c1, .slice (some a2) p c2, .slice (some a3) n3 c3] 22 → Calls Try.prog 61 #[.slice (some ⟨q, 0, none⟩) 3 3] W fun e w' => ∃ u, e = .returned u ∧ Hid (OR w' w.heap.size 27 7 u ((ahd l p).map cnL) ∧ Below w.heap.size w w')) := fun W q hb hq => by
    have e := ahd_eq hp
    rw [← hJ] at e
    refine (concat_any q a1 a2 a3 n1 p n3 c1 c2 c3 ((l.drop p).take (J - p)) (l.take p) (l.drop J) W N hq (by rw [← hn1]; exact k1.below hb hN) (k2.below hb hN) (by rw [← hn3]; exact k3.below hb hN) (Nat.le_trans hN hb.size) (by rw [List.length_take, List.length_drop]; omega) (by rw [List.length_take]; omega) (by rw [List.length_drop]; omega)).mono ?_
    rintro e' w' ⟨u, rfl, h1, h2⟩
    refine ⟨u, rfl, ?_⟩
    rw [e] at h1
    exact ⟨h1.out.mono hb.size, below_thru hb h2.out⟩
  have mixed : Try.prog.follows .mixedOrders = true := by kernel_rfl
  clear h hN hl hp hn hr hcap hJ k1 k2 k3 f1 f2 f3 hn1 hn3
  go_enter Try.func37, Try.ntmps37
  go_wp2_with fail
  go_region_held3 (fun _ => True) (first | trivial | go_keep) ((go_at_call 61; refine (HC.out _ w.heap.size (by first | exact ((Below.refl _ _).alloc (Nat.le_refl _) _).drew | exact ((Below.refl _ _).drew).alloc (Nat.le_refl _) _) (by first | exact Bk.new _ _ _ | exact Bk.kept (Bk.new _ _ _) rfl)).mono ?_; rintro e w1 ⟨u1, rfl, h1⟩))
  all_goals
    go_wp2_with fail
    go_ret
    exact ⟨_, rfl, h1.out.1, h1.out.2⟩
end Go.Proofs.Ytdlipponajilbaa
