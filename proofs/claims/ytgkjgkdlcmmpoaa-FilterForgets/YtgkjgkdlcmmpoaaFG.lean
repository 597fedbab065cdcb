/- What jitter returns. -/
import Derived.Test.YtgkjgkdlcmmpoaaFF
namespace Go.Proofs.Ytgkjgkdlcmmpoaa
open Go Go.RowKit Fi
def vi (xs : List Int) : List Value := xs.map (fun x => .int .i64 x)
theorem vi_len (xs : List Int) : (vi xs).length = xs.length := by simp [vi]
theorem vi_get (xs : List Int) (k : Nat) (h : k < xs.length) : (vi xs)[k]? = some (.int .i64 (xs.getD k 0)) := by
  simp [vi, List.getD_eq_getElem?_getD, List.getElem?_eq_getElem h]
theorem run_stin1 {w : World} {p : Nat} {T : TypeId} {cs : List Value} (h : Bk p w cs.toArray T) (e : TypeId) (o : Nat) (v : Value) (hv : v.cells = #[v]) (hi : (Try.prog.info? e).map (·.size) = some 1) (hle : o < cs.length) (h1 : v.oneCell' = true) :
    (storeVar e ⟨p, o, none⟩ v).run Try.prog w = .ok () (w.setRow p (cs.set o v).toArray) := by
  have hst := run_storeCells_at (P := Try.prog) p o T [v] 0 cs.toArray w h (by simp; omega) (by intro u hu; simp at hu; rw [hu]; exact h1)
  rw [Nat.add_zero] at hst
  have e2 : cs.set o v = cs.take o ++ [v] ++ cs.drop (o + 1) := by rw [List.set_eq_take_append_cons_drop, if_pos hle]; simp
  cases hq : Try.prog.info? e with
  | none => simp [hq] at hi
  | some ii =>
    have hs : ii.size = 1 := by simpa [hq] using hi
    rw [e2]
    simp [storeVar, sizeOf, typeInfo, hq, hv, hs]
    simpa using hst
theorem wpOp_stin1 {ops : Array Oper} {Q : Exit → Act → World → Prop} {i0 : Nat} {K : Act → World → Prop} {a : Act} {w : World} (o : Oper) (ho : ops[i0]? = some o) (hgd : o.guard = none) (e : TypeId) (x y : Operand) (hop : o.op = .store e x y)
    {p : Nat} {T : TypeId} {cs : List Value} (h : Bk p w cs.toArray T) (i : Nat) (v : Value) (hx : a.eval x = .pointer (some ⟨p, i, none⟩)) (hy : a.eval y = v) (hv : v.cells = #[v]) (hi : (Try.prog.info? e).map (·.size) = some 1) (hle : i < cs.length) (h1 : v.oneCell' = true)
    (hK : K (a.put o.dst undef) (w.setRow p (cs.set i v).toArray)) : wpOp Try.prog ops Q i0 K a w := by
  unfold wpOp
  rw [ho]
  have hw : Region.wanted o (yielded ops a.tmps) = true := by simp [Region.wanted, hgd]
  simp only [hw, if_true]
  refine .inl ?_
  unfold Oper.wp execOp
  simp only [hop, hx, hy, Instr.storeAt, Instr.sureAddr, Sem.run_bind, Sem.run_pure, Result.andThen_ok, run_stin1 h e i v hv hi hle h1]
  exact hK
/-- how far the others lie from the first -/
def dfs (l : List Smp) : List Int := (l.drop 1).map (fun s => Fx.cl 4611686018427387904 (s.o - (fst l).o))
def jt (l : List Smp) : Int := max ((Sq.rms (dfs l) : Nat) : Int) 4096
theorem dfs_len (l : List Smp) : (dfs l).length = l.length - 1 := by unfold dfs; simp
theorem dfs_ok (l : List Smp) : okz (dfs l) := fun z hz => by
  unfold dfs at hz
  obtain ⟨s, _, rfl⟩ := List.mem_map.1 hz
  have := Fx.cl_bd (m := 4611686018427387904) (by decide) (s.o - (fst l).o)
  omega
theorem dfs_get (l : List Smp) (k : Nat) (h : k + 1 < l.length) : (dfs l).getD k 0 = Fx.cl 4611686018427387904 ((l.getD (k + 1) z0).o - (l.getD 0 z0).o) := by
  have e0 : fst l = l.getD 0 z0 := by unfold fst; cases l <;> rfl
  unfold dfs
  rw [e0, List.getD_eq_getElem?_getD, List.getElem?_map, List.getElem?_drop, Nat.add_comm 1 k, List.getElem?_eq_getElem h]
  have : l.getD (k + 1) z0 = l[k + 1] := by rw [List.getD_eq_getElem?_getD, List.getElem?_eq_getElem h]; rfl
  rw [this]
  rfl
theorem sub_at (p n : Nat) (u : World) (h2 : n ≤ 8) : (Instr.sliceAt 64 (.pointer (some ⟨p, 0, none⟩)) none (some (.int .i64 (n : Int))) none).run Try.prog u = .ok (.slice (some ⟨p, 0, none⟩) n 8) u := by
  simp [Instr.sliceAt, Instr.sliceBounds, Instr.sliceBound, asIntOf, run_underlying Try.underlying64, h2, add_own, Instr.sureAddr]
theorem ix_sp (g n cap i : Nat) (hi : (i : Int) < n) : ∀ w, Sem.run Try.prog (Instr.indexAt 60 (.slice (some ⟨g, 0, none⟩) n cap) (.int .i64 (i : Int))) w = .ok (.pointer (some ⟨g, i, none⟩)) w := by
  intro w
  have u := Try.underlying60
  have c3 : Try.prog.cellsOf 23 = 1 := by kernel_rfl
  have h0 : (0 : Int) ≤ i := Int.natCast_nonneg i
  have e : (⟨g, 0, none⟩ : Addr).add i = ⟨g, i, none⟩ := add_own _ _
  rw [← e]
  go_simp
set_option maxHeartbeats 1000000 in
theorem jitter_any (g n cap : Nat) (l : List Smp) (w : World) (h : Sg w g l) (hn : l.length = n) (hl : (n : Int) ≤ 8) (hp : 1 ≤ (n : Int)) (ok : ∀ s ∈ l, okS s) :
    Calls Try.prog 19 #[.slice (some ⟨g, 0, none⟩) n cap] w fun e w' => e = .returned (.int .i64 (jt l)) ∧ Below w.heap.size w w' := by
  have HL : Hid (l.length = n) := hn
  have HG : Hid (Sg w g l) := h
  have HO : Hid (∀ s ∈ l, okS s) := ok
  obtain ⟨m, hm⟩ : ∃ m, m = n - 1 := ⟨_, rfl⟩
  have em : (n : Int) - 1 = (m : Int) := by omega
  have Hm : Hid (m + 1 = n) := by show m + 1 = n; omega
  have hm7 : (m : Int) ≤ 7 := by omega
  obtain ⟨J, hJ⟩ : ∃ J, J = jt l := ⟨_, rfl⟩
  obtain ⟨M, hM⟩ : ∃ M : Int, M = ((Sq.rms (dfs l) : Nat) : Int) := ⟨_, rfl⟩
  have m3 : ∀ u, (Builtin.max_ #[23, 23] 23 #[.int .i64 M, .int .i64 4096]).run Try.prog u = .ok (.int .i64 J) u := fun u => by rw [run_mxS, hJ]; unfold jt; rw [← hM]; congr 2; split <;> omega
  rw [← hJ]
  have HM : Hid (M = ((Sq.rms (dfs l) : Nat) : Int)) := hM
  have hsl := fun u => sub_at w.heap.size m u (by omega)
  clear h hn ok hm hJ hM
  go_enter Try.func19, Try.ntmps19
  go_wp2
  go_loopw [12] (fun i wr => ∃ (k : Nat) (D : List Int), i = .int .i64 k ∧ (k : Int) ≤ m ∧ Hid (D.length = 8 ∧ (∀ j, j < k → D.getD j 0 = (dfs l).getD j 0) ∧ Bk w.heap.size wr (vi D).toArray 64 ∧ Below w.heap.size w wr)) (fun i _ => m - (intOf i).toNat)
  case atStart => exact ⟨0, List.replicate 8 0, rfl, by omega, ⟨rfl, fun j hj => by omega, Bk.new _ _ _, (Below.refl _ _).alloc (Nat.le_refl _) _⟩⟩
  case round =>
    obtain ⟨k, D, rfl, hk, HK⟩ := hrel
    have hG := HG.out.below HK.out.2.2.2 HG.out.lt
    by_cases hlt : (k : Int) < m
    · obtain ⟨q, hq⟩ : ∃ q, q = (k + 1) * 4 := ⟨_, rfl⟩
      have hix1 : ∀ u, Sem.run Try.prog (Instr.indexAt 22 (.slice (some ⟨g, 0, none⟩) n cap) (.int .i64 ((k : Int) + 1))) u = .ok (.pointer (some ⟨g, q, none⟩)) u := fun u => by rw [hq]; exact ix_sl g n cap (k + 1) (by have := Hm.out; omega) u
      have hix0 : ∀ u, Sem.run Try.prog (Instr.indexAt 22 (.slice (some ⟨g, 0, none⟩) n cap) (.int .i64 0)) u = .ok (.pointer (some ⟨g, 0, none⟩)) u := fun u => ix_sl g n cap 0 (by omega) u
      have hix2 := ix_sp w.heap.size m 8 k hlt
      have ew : IntKind.i64.wrap ((k : Int) + 1) = (k : Int) + 1 := by rw [IntKind.wrap_i64]; omega
      have hk1 : k + 1 < l.length := by have := HL.out; have := Hm.out; omega
      obtain ⟨x, hx⟩ : ∃ x, x = (l.getD (k + 1) z0).o := ⟨_, rfl⟩
      obtain ⟨y, hy⟩ : ∃ y, y = (l.getD 0 z0).o := ⟨_, rfl⟩
      have c1 : wr.cell? ⟨g, q, none⟩ = some (.int .i64 x) := by rw [hq, hx]; exact hG.c1 (k + 1) hk1 0 (by omega)
      have c0 : wr.cell? ⟨g, 0, none⟩ = some (.int .i64 y) := by rw [hy]; exact hG.c1 0 (by omega) 0 (by omega)
      have hmem : ∀ i, i < l.length → l.getD i z0 ∈ l := fun i hi => by rw [List.getD_eq_getElem?_getD, List.getElem?_eq_getElem hi]; exact List.getElem_mem hi
      have bx := (HO.out _ (hmem (k + 1) hk1)).1
      have by' := (HO.out _ (hmem 0 (by omega))).1
      rw [← hx] at bx
      rw [← hy] at by'
      obtain ⟨z, hz⟩ : ∃ z, z = Fx.cl 4611686018427387904 (x - y) := ⟨_, rfl⟩
      have HSb : Hid (∀ u, Calls Try.prog 31 #[.int .i64 x, .int .i64 y] u fun e w' => e = .returned (.int .i64 z) ∧ w' = u) := fun u => by rw [hz]; exact sub_any _ _ u bx.1 bx.2 by'.1 by'.2
      have HZ : Hid (z = (dfs l).getD k 0) := by show z = _; rw [dfs_get l k hk1, hz, hx, hy]
      clear hq hx hy hz hmem hk1 hG bx by'
      go_wp2_with fail
      refine wp_region_lastT (by kernel_rfl) (by kernel_rfl) (by rfl) (by kernel_rfl) ?_
      simp only [idleLast, idle]
      repeat (quiet_step ((go_at_call 31; exact Calls.quiet_of_same (HSb.out _))))
      refine wpQuiet_nil ?_
      intro _ hw'
      obtain ⟨nq, hw''⟩ := hw'
      subst hw''
      have hB : Bk w.heap.size (wr.drewN nq) (vi D).toArray 64 := HK.out.2.2.1
      refine wpOp_stin1 _ (by rfl) rfl 23 _ _ rfl hB k (.int .i64 z) (by rfl) (by rfl) rfl (by kernel_rfl) (by rw [vi_len, HK.out.1]; omega) rfl ?_
      have h2 : Bk w.heap.size ((wr.drewN nq).setRow w.heap.size ((vi D).set k (.int .i64 z)).toArray) (vi (D.set k z)).toArray 64 := by
        have e : (vi D).set k (.int .i64 z) = vi (D.set k z) := by unfold vi; rw [List.map_set]
        rw [e]
        exact setRow_heap _ _ _ _ _ _ hB
      have h3 : Below w.heap.size w ((wr.drewN nq).setRow w.heap.size ((vi D).set k (.int .i64 z)).toArray) := below_row (below_dr HK.out.2.2.2 nq) (Nat.le_refl _) _
      generalize (wr.drewN nq).setRow w.heap.size ((vi D).set k (.int .i64 z)).toArray = W2 at *
      have H2 : Hid ((D.set k z).length = 8 ∧ (∀ j, j < k + 1 → (D.set k z).getD j 0 = (dfs l).getD j 0) ∧ Bk w.heap.size W2 (vi (D.set k z)).toArray 64 ∧ Below w.heap.size w W2) := by
        refine ⟨by rw [List.length_set]; exact HK.out.1, fun j hj => ?_, h2, h3⟩
        rw [getD_set _ _ _ _ _ (by have := HK.out.1; omega)]
        split
        · rename_i e; rw [← e, HZ.out]
        · exact HK.out.2.1 j (by omega)
      clear h2 h3 hB
      go_wp2
      go_roundw
      case rel => exact ⟨k + 1, D.set k z, by go_num, by omega, H2⟩
      case measure => simp [intOf]; omega
    · have hkm : k = m := by omega
      subst hkm
      have HR : Hid (∀ cap, cap = 8 → Calls Try.prog 32 #[.slice (some ⟨w.heap.size, 0, none⟩) k cap] wr fun e w' => e = .returned (.int .i64 M) ∧ Below wr.heap.size wr w') := by
        intro cap hc
        have hl2 : (dfs l).length = k := by rw [dfs_len, HL.out]; have := Hm.out; omega
        have := RMS_any (some ⟨w.heap.size, 0, none⟩) (dfs l) cap wr (by rw [hl2, hc]; omega) (by rw [hc]; decide) (fun j hj => ⟨_, rfl, HK.out.2.2.1.lt, by
          rw [add_own, HK.out.2.2.1.cell, ← HK.out.2.1 j (by omega)]
          simp only [List.getElem?_toArray]
          exact vi_get D j (by rw [HK.out.1]; omega)⟩) (dfs_ok l)
        rw [hl2, ← HM.out] at this
        exact this
      clear hG
      go_wp2_with (go_at_call 32; refine (HR.out _ rfl).mono ?_; rintro e w3 ⟨rfl, hb3⟩)
      go_ret
      exact ⟨rfl, Below.then HK.out.2.2.2 hb3⟩
end Go.Proofs.Ytgkjgkdlcmmpoaa
