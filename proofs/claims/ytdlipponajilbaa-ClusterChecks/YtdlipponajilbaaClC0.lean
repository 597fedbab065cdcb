/- The statements' own: a candidate made; the document's examples. -/
import Derived.Test.YtdlipponajilbaaClZa
import Derived.Test.YtdlipponajilbaaClPb
import Derived.Deep.RegionHeld3
namespace Go.Proofs.Ytdlipponajilbaa
open Go Go.RowKit Go.Sort
set_option linter.unusedVariables false
set_option maxRecDepth 20000 in
set_option maxHeartbeats 1000000 in
theorem cand_any (a b : Int) (w : World) : Calls Try.prog 17 #[.int .i64 a, .int .i64 b] w fun e w' => e = .returned (.agg (cnL (cnd a b)).toArray) ∧ Below w.heap.size w w' := by
  go_enter Try.func17, Try.ntmps17
  go_upto_region 1 with (refine step_alL (by rfl) 27 rfl (cnL zCn).toArray (fun u => by kernel_rfl) ?_; intro w1 g H1)
  go_wp2_with (refine step_stL (by rfl) _ _ rfl g (cnL (cnd a b)).toArray (by rfl) (by rfl) (cnL zCn).toArray (by kernel_rfl) (by kernel_rfl) (by kernel_rfl) H1.out.bk ?_; intro w2 H2)
  refine bodyPost_ret (v := .agg (cnL (cnd a b)).toArray) (results_cell_row Try.results17 _ _ g _ _ (0, 0) _ (by rfl) H2.out.bk Try.underlying27 rfl (by kernel_rfl)) rfl ⟨rfl, ?_⟩
  exact H2.out.below H1.out.be H1.out.be.size (Nat.le_of_eq H1.out.at'.symm)
theorem OR.many {w : World} {B k : Nat} {rows : List (List Value)} {e : TypeId} (hk : ∀ r ∈ rows, r.length = k) (hB : B ≤ w.heap.size) (hl : rows.length ≤ maxLen) : OR (w.alloc (.cells rows.flatten.toArray e)) B e k (.slice (some ⟨w.heap.size, 0, none⟩) rows.length rows.length) rows := by
  refine ⟨⟨flat_len hk, .inr ⟨w.heap.size, rows.length, rows.flatten.toArray, rfl, hB, alloc_at _ _, Nat.le_refl _, hl, by simp [flat_len hk], ?_⟩⟩, hk⟩
  exact List.take_of_length_le (by rw [flat_len hk]; exact Nat.le_refl _)
theorem step_bsN {ops : Array Oper} {rest : List Oper} {o : Oper} {a : Act} {w : World} {Q : Exit → Act → World → Prop} (hw : Region.wanted o (yielded ops a.tmps) = true) (ts e : TypeId) (n k : Nat) (ps : List (Nat × Operand)) (ho : o.op = .buildSlice ts n ps.toArray) (vs : List (Nat × Value)) (hv : (ps.map fun p => (p.1, a.eval p.2)) = vs) (rows : List (List Value))
    (hk : ∀ r ∈ rows, r.length = k) (hn : rows.length = n) (hl : n ≤ maxLen)
    (hrun : ∀ u : World, (Instr.buildSlice ts n vs.toArray).run Try.prog u = .ok (.slice (some ⟨u.heap.size, 0, none⟩) n n) (u.alloc (.cells rows.flatten.toArray e)))
    (h : ∀ W v, Hid (OR W w.heap.size e k v rows ∧ Below w.heap.size w W) → wpList Try.prog ops Q rest (a.put o.dst v) W) : wpList Try.prog ops Q (o :: rest) a w :=
  wpList_step fun K hK => by
    rw [if_pos hw]
    unfold Oper.wp execOp
    have e' : (ps.toArray.map fun (p : Nat × Operand) => (p.1, a.eval p.2)) = vs.toArray := by rw [List.map_toArray, hv]
    simp only [ho, e', Sem.run_bind, Sem.run_pure, hrun w, Result.andThen_ok]
    have h1 := OR.many (w := w) (e := e) hk (Nat.le_refl _) (by rw [hn]; exact hl)
    rw [hn] at h1
    exact hK _ _ (h _ _ ⟨h1, (Below.refl _ _).alloc (Nat.le_refl _) _⟩)
theorem cl_len (l : List Cn) : ∀ r ∈ l.map cnL, r.length = 7 := by
  intro r hr
  obtain ⟨c, _, rfl⟩ := List.mem_map.1 hr
  exact cnL_len c
theorem run_bs4 (u : World) : (Instr.buildSlice 22 4 #[(0, .agg (cnL (cnd 1 0)).toArray), (1, .agg (cnL (cnd 2 1)).toArray), (2, .agg (cnL (cnd 3 2)).toArray), (3, .agg (cnL (cnd 4 1000)).toArray)]).run Try.prog u = .ok (.slice (some ⟨u.heap.size, 0, none⟩) 4 4) (u.alloc (.cells (xA.map cnL).flatten.toArray 27)) := by
  kernel_rfl
theorem run_bs2 (u : World) : (Instr.buildSlice 22 2 #[(0, .agg (cnL (cnd 1 100)).toArray), (1, .agg (cnL (cnd 2 100)).toArray)]).run Try.prog u = .ok (.slice (some ⟨u.heap.size, 0, none⟩) 2 2) (u.alloc (.cells (xC.map cnL).flatten.toArray 27)) := by
  kernel_rfl
theorem run_bs3 (u : World) : (Instr.buildSlice 22 3 #[(0, .agg (cnL (cnd 1 0)).toArray), (1, .agg (cnL (cnd 2 3)).toArray), (2, .agg (cnL (cnd 3 4)).toArray)]).run Try.prog u = .ok (.slice (some ⟨u.heap.size, 0, none⟩) 3 3) (u.alloc (.cells (xS.map cnL).flatten.toArray 27)) := by
  kernel_rfl
theorem run_bsM (u : World) : (Instr.buildSlice 22 2 #[(0, .agg (cnL (cnd 1 50)).toArray), (1, .agg (cnL (pls 2 7)).toArray)]).run Try.prog u = .ok (.slice (some ⟨u.heap.size, 0, none⟩) 2 2) (u.alloc (.cells (xM.map cnL).flatten.toArray 27)) := by
  kernel_rfl
theorem orM (u : World) : OR (u.alloc (.cells #[.int .i64 1, .int .i64 50, .int .i64 16777216, .int .i64 10, .int .i64 1, .bool false, .bool false, .int .i64 2, .int .i64 7, .int .i64 16777216, .int .i64 10, .int .i64 1, .bool false, .bool true] 27)) u.heap.size 27 7 (.slice (some ⟨u.heap.size, 0, none⟩) 2 2) (xM.map cnL) := OR.many (rows := xM.map cnL) (cl_len xM) (Nat.le_refl _) (by decide)
def zRw (u : World) (A : Nat) : Prop := u.heap[A]? = some (.cells #[.int .i64 0, .int .i64 0, .int .i64 0, .bool false, .bool false] 35 (0, 0))
theorem zRw.all {u : World} {A : Nat} (h : zRw u A) : u.cell? ⟨A, 0, none⟩ = some (.int .i64 0) ∧ u.cell? ⟨A, 1, none⟩ = some (.int .i64 0) ∧ u.cell? ⟨A, 2, none⟩ = some (.int .i64 0) ∧ u.cell? ⟨A, 3, none⟩ = some (.bool false) ∧ u.cell? ⟨A, 4, none⟩ = some (.bool false) ∧ ∀ i, u.frozen? ⟨A, i, none⟩ = false := by
  have h' : Bk A u #[.int .i64 0, .int .i64 0, .int .i64 0, .bool false, .bool false] 35 := h
  exact ⟨h'.cell 0, h'.cell 1, h'.cell 2, h'.cell 3, h'.cell 4, h'.frozen⟩
theorem zRw.new (u : World) : zRw (u.alloc (.cells #[.int .i64 0, .int .i64 0, .int .i64 0, .bool false, .bool false] 35)) u.heap.size := alloc_at _ _
theorem zRw.kept {u v : World} {A : Nat} (h : zRw u A) (hb : Below u.heap.size u v) : zRw v A := by
  have h' : Bk A u #[.int .i64 0, .int .i64 0, .int .i64 0, .bool false, .bool false] 35 := h
  exact h'.kept (hb.block _ h'.lt)
theorem zRw.five {u : World} {A : Nat} (h : zRw u A) : Bk A (((((u.setCell ⟨A, 0, none⟩ (.int .i64 2)).setCell ⟨A, 1, none⟩ (.int .i64 7)).setCell ⟨A, 2, none⟩ (.int .i64 10)).setCell ⟨A, 3, none⟩ (.bool true)).setCell ⟨A, 4, none⟩ (.bool true)) #[.int .i64 2, .int .i64 7, .int .i64 10, .bool true, .bool true] 35 := by
  have h' : Bk A u #[.int .i64 0, .int .i64 0, .int .i64 0, .bool false, .bool false] 35 := h
  exact ((((h'.set (j := 0) (.int .i64 2)).set (j := 1) (.int .i64 7)).set (j := 2) (.int .i64 10)).set (j := 3) (.bool true)).set (j := 4) (.bool true)
theorem zRw.dr {u : World} {A : Nat} (h : zRw u A) : zRw u.drew A := h
theorem zRw.al {u : World} {A : Nat} (h : zRw u A) (o : Obj) : zRw (u.alloc o) A := h.kept ((Below.refl _ _).alloc (Nat.le_refl _) o)
def bel (w0 w : World) : Prop := Hid (Below w0.heap.size w0 w)
theorem bel.thru {a b c : World} (h : bel a b) (k : Below b.heap.size b c) : bel a c := below_thru h.out k
theorem bel.dr {a b : World} (h : bel a b) : bel a b.drew := ⟨h.out.os, h.out.tape, h.out.output, h.out.size, h.out.block⟩
theorem bel.al {a b : World} (h : bel a b) (o : Obj) : bel a (b.alloc o) := Below.alloc h.out h.out.size o
theorem bel.st {a b : World} (h : bel a b) {g : Nat} (hg : a.heap.size ≤ g) (j : Nat) (x : Value) : bel a (b.setCell ⟨g, j, none⟩ x) := Below.setCell h.out hg x
theorem bel.wt {a b c : World} (h : bel a b) {g : Nat} {z : Array Value} {ty : TypeId} (k : Wt b c g z ty) (hg : a.heap.size ≤ g) : bel a c := k.below h.out h.out.size hg
set_option maxRecDepth 20000 in
set_option maxHeartbeats 16000000 in
theorem shown_any (w : World) : Calls Try.prog 4 #[] w fun e w' => e = .returned (.bool true) ∧ Below w.heap.size w w' := by
  have HK : Hid (∀ (w0 : World) a b u, bel w0 u → Calls Try.prog 17 #[.int .i64 a, .int .i64 b] u fun e w' => e = .returned (.agg (cnL (cnd a b)).toArray) ∧ bel w0 w') := fun w0 a b u hb => (cand_any a b u).mono fun e w' h => ⟨h.1, below_thru hb.out h.2⟩
  have HA : Hid (∀ v u B, OR u B 27 7 v (xA.map cnL) → Calls Try.prog 6 #[v] u fun e w' => ∃ x, e = .returned x ∧ Hid (OR w' u.heap.size 27 7 x (xB.map cnL)) ∧ Hid (Below u.heap.size u w')) := fun v u B ho => by
    have := cluster_any v xA u u.heap.size ho.rk (Nat.le_refl _) (by decide) okA
    rw [cluA] at this
    exact this
  have HC : Hid (∀ w0 v u B, bel w0 u → OR u B 27 7 v (xC.map cnL) → Calls Try.prog 7 #[v] u fun e w' => e = .returned (.tuple #[.int .i64 100, .int .i64 10]) ∧ bel w0 w') := fun w0 v u B hb ho => by
    have := combine_any v xC u u.heap.size ho.rk (Nat.le_refl _) (by decide) okCc
    rw [oC, jC] at this
    exact this.mono fun e w' h => ⟨h.1, hb.thru h.2⟩
  have HM : Hid (∀ w0 v u B, bel w0 u → OR u B 27 7 v (xM.map cnL) → Calls Try.prog 15 #[v, .int .i64 0] u fun e w' => e = .returned (.agg (rsL ⟨2, 7, 10, true, true⟩).toArray) ∧ bel w0 w') := fun w0 v u B hb ho => by
    have := mitigate_any v xM 0 u u.heap.size ho.rk (Nat.le_refl _) (by decide) okM
    rw [mitM] at this
    exact this.mono fun e w' h => ⟨h.1, hb.thru h.2⟩
  have HS : Hid (∀ w0 v u B, bel w0 u → OR u B 27 7 v (xS.map cnL) → Calls Try.prog 13 #[v, .int .i64 1] u fun e w' => e = .returned (.int .i64 3) ∧ bel w0 w') := fun w0 v u B hb ho => by
    have := select_any v xS 1 u u.heap.size ho.rk (Nat.le_refl _) (by decide) okS
    rw [selS] at this
    exact this.mono fun e w' h => ⟨h.1, hb.thru h.2⟩
  have hb0 : bel w w := Below.refl _ _
  go_enter Try.func4, Try.ntmps4
  refine post_hid fun Q hQ => ?_
  go_upto_region 2 with (first
    | (go_at_call 17; refine (HK.out w _ _ _ (by assumption)).mono ?_; rintro e w1 ⟨rfl, hb1⟩)
    | (refine step_bsN (by rfl) 22 27 4 7 _ rfl [(0, .agg (cnL (cnd 1 0)).toArray), (1, .agg (cnL (cnd 2 1)).toArray), (2, .agg (cnL (cnd 3 2)).toArray), (3, .agg (cnL (cnd 4 1000)).toArray)] (by rfl) (xA.map cnL) (cl_len xA) rfl (by decide) run_bs4 ?_; intro wA vA HVA))
  have HW1 : Hid (Below w.heap.size w wA) := below_thru hb1.out HVA.out.2
  have HOA := HA.out vA wA _ HVA.out.1
  clear HVA
  go_upto_region 3 with (go_at_call 6; refine HOA.mono ?_; rintro e w2 ⟨x, rfl, HX, hb2⟩)
  have HW2 : Hid (Below w.heap.size w w2) := below_thru HW1.out hb2.out
  obtain ⟨gk, ck, ek, _, hgk, hgl⟩ := HX.out.form (by decide)
  rw [show (xB.map cnL).length = 3 from rfl] at ek
  subst ek
  have hixk : ∀ u, Sem.run Try.prog (Instr.indexAt 22 (.slice (some ⟨gk, 0, none⟩) 3 ck) (.int .i64 2)) u = .ok (.pointer (some ⟨gk, 14, none⟩)) u := fun u => ix_C (ad := ⟨gk, 0, none⟩) 3 ck 2 rfl (by decide) u
  have HKc : Hid (∀ u, bel w2 u → u.cell? ⟨gk, 14, none⟩ = some (.int .i64 3)) := fun u hb => by
    rw [hb.out.cell hgl]
    have := HX.out.at 2 (by decide) 0 (.int .i64 3) rfl
    exact this
  have hb0 : bel w2 w2 := Below.refl _ _
  clear HW1 HOA HX hb2 HA hgk hgl
  go_upto_region 4 with (first
    | (go_at_call 17; refine (HK.out w2 _ _ _ (by assumption)).mono ?_; rintro e w3 ⟨rfl, hb3⟩)
    | (refine step_bsN (by rfl) 22 27 2 7 _ rfl [(0, .agg (cnL (cnd 1 100)).toArray), (1, .agg (cnL (cnd 2 100)).toArray)] (by rfl) (xC.map cnL) (cl_len xC) rfl (by decide) run_bs2 ?_; intro wB vB HVB; have hbB : bel w2 wB := hb3.thru HVB.out.2)
    | (go_at_call 7; refine (HC.out w2 _ _ _ hbB HVB.out.1).mono ?_; rintro e w4 ⟨rfl, hb4⟩))
  clear HVB HC hb3 hbB hb0
  go_upto_region 5 with (first
    | (go_at_call 17; refine (HK.out w2 _ _ _ hb4).mono ?_; rintro e w5 ⟨rfl, hb5⟩)
    | (refine step_alL (by rfl) 27 rfl (cnL zCn).toArray (fun u => by kernel_rfl) ?_; intro w6 g H6; have hb6 : bel w2 w6 := hb5.thru H6.out.be)
    | (refine step_stL (by rfl) _ _ rfl g (cnL (cnd 2 7)).toArray (by rfl) (by rfl) (cnL zCn).toArray (by kernel_rfl) (by kernel_rfl) (by kernel_rfl) H6.out.bk ?_; intro w7 H7; have hb7 : bel w2 w7 := hb6.wt H7.out (Nat.le_trans hb5.out.size (Nat.le_of_eq H6.out.at'.symm))))
  have HG : Hid (w2.heap.size ≤ g ∧ Bk g w7 (cnL (cnd 2 7)).toArray 27) := ⟨Nat.le_trans hb5.out.size (Nat.le_of_eq H6.out.at'.symm), H7.out.bk⟩
  clear hb4 hb5 hb6 H6 H7
  go_upto_region 6 with (refine step_st1 (T := 27) (by rfl) _ _ rfl g 6 (.bool true) (by rfl) (by rfl) rfl (by kernel_rfl) rfl (cnL (cnd 2 7)) (by decide) HG.out.2 ?_; intro w8 H8; have hb8 : bel w2 w8 := hb7.wt H8.out HG.out.1)
  have HG8 : Hid (Bk g w8 (cnL (pls 2 7)).toArray 27) := H8.out.bk
  clear hb7 HG H8
  have HC6 : Hid (∀ u, bel w8 u → u.cell? ⟨g, 0, none⟩ = some (.int .i64 2) ∧ u.cell? ⟨g, 1, none⟩ = some (.int .i64 7) ∧ u.cell? ⟨g, 2, none⟩ = some (.int .i64 16777216) ∧ u.cell? ⟨g, 3, none⟩ = some (.int .i64 10) ∧ u.cell? ⟨g, 4, none⟩ = some (.int .i64 1) ∧ u.cell? ⟨g, 5, none⟩ = some (.bool false) ∧ u.cell? ⟨g, 6, none⟩ = some (.bool true)) := fun u hb => by
    have h : Bk g u (cnL (pls 2 7)).toArray 27 := HG8.out.kept (hb.out.block _ HG8.out.lt)
    exact ⟨h.cell 0, h.cell 1, h.cell 2, h.cell 3, h.cell 4, h.cell 5, h.cell 6⟩
  have hb9 : bel w8 w8 := Below.refl _ _
  obtain ⟨c0, c1, c2, c3, c4, c5, c6⟩ := HC6.out w8 hb9
  have HK1 : Hid (∀ u, Calls Try.prog 17 #[.int .i64 1, .int .i64 50] u fun e w' => e = .returned (.agg #[.int .i64 1, .int .i64 50, .int .i64 16777216, .int .i64 10, .int .i64 1, .bool false, .bool false]) ∧ Below u.heap.size u w') := fun u => HK.out u 1 50 u (Below.refl _ _)
  have HM1 : Hid (∀ v u B, OR u B 27 7 v (xM.map cnL) → Calls Try.prog 15 #[v, .int .i64 0] u fun e w' => e = .returned (.agg #[.int .i64 2, .int .i64 7, .int .i64 10, .bool true, .bool true]) ∧ Below u.heap.size u w') := fun v u B ho => HM.out u v u B (Below.refl _ _) ho
  clear HG8
  go_frame
  go_cut [6] from 23 to 26 (fun p wx => ∃ A : Nat, p = .pointer (some ⟨A, 0, none⟩) ∧ Hid (Bk A wx #[.int .i64 2, .int .i64 7, .int .i64 10, .bool true, .bool true] 35 ∧ bel w8 wx))
  case first =>
    go_wp2_with fail
    go_region_held3 (fun w' => w'.cell? ⟨g, 0, none⟩ = some (.int .i64 2) ∧ w'.cell? ⟨g, 1, none⟩ = some (.int .i64 7) ∧ w'.cell? ⟨g, 2, none⟩ = some (.int .i64 16777216) ∧ w'.cell? ⟨g, 3, none⟩ = some (.int .i64 10) ∧ w'.cell? ⟨g, 4, none⟩ = some (.int .i64 1) ∧ w'.cell? ⟨g, 5, none⟩ = some (.bool false) ∧ w'.cell? ⟨g, 6, none⟩ = some (.bool true)) (first | with_reducible exact ⟨c0, c1, c2, c3, c4, c5, c6⟩ | with_reducible exact ⟨k0, k1, k2, k3, k4, k5, k6⟩ | with_reducible exact ⟨m0, m1, m2, m3, m4, m5, m6⟩ | with_reducible exact HC6.out _ (((((hbM.st hA _ _).st hA _ _).st hA _ _).st hA _ _).st hA _ _) | go_keep) (first
      | (go_at_call 17; refine (HK1.out _).mono ?_; rintro e w9 ⟨rfl, hq⟩; have hb10 : bel w8 w9 := (by first | with_reducible exact hb9.thru hq | with_reducible exact hb9.dr.thru hq | with_reducible exact (hb9.al _).thru hq | with_reducible exact (hb9.al _).dr.thru hq | with_reducible exact (hb9.dr.al _).thru hq | (trace_state; fail)); obtain ⟨k0, k1, k2, k3, k4, k5, k6⟩ := HC6.out w9 hb10; try (have rz : zRw w9 w8.heap.size := (by first | with_reducible exact (zRw.new _).kept hq | with_reducible exact (zRw.new _).dr.kept hq | exact (zRw.new w8.drew).kept hq)))
      | (go_at_call 15; (first | (have ho := orM w9; with_reducible refine (HM1.out _ _ _ ho).mono ?_) | (have ho := (orM w9).below ((Below.refl _ _).alloc (Nat.le_refl _) (.cells #[.int .i64 0, .int .i64 0, .int .i64 0, .bool false, .bool false] 35)) (by simp); with_reducible refine (HM1.out _ _ _ ho).mono ?_) | (have ho := orM (w9.alloc (.cells #[.int .i64 0, .int .i64 0, .int .i64 0, .bool false, .bool false] 35)); rw [size_alloc1] at ho; with_reducible refine (HM1.out _ _ _ ho).mono ?_)); rintro e wM ⟨rfl, hq2⟩; have hbM : bel w8 wM := (by first | with_reducible exact (hb10.al _).thru hq2 | with_reducible exact ((hb10.al _).al _).thru hq2); obtain ⟨m0, m1, m2, m3, m4, m5, m6⟩ := HC6.out wM hbM; (first
        | (have hA : w8.heap.size ≤ w8.heap.size := Nat.le_refl _; have rzM : zRw wM w8.heap.size := (by with_reducible exact (rz.al _).kept hq2); obtain ⟨y0, y1, y2, y3, y4, y5⟩ := rzM.all)
        | (have hA : w8.heap.size ≤ w9.heap.size := hb10.out.size; have rzM : zRw wM w9.heap.size := (by with_reducible exact ((zRw.new _).al _).kept hq2); obtain ⟨y0, y1, y2, y3, y4, y5⟩ := rzM.all)
        | (have hA : w8.heap.size ≤ w9.heap.size + 1 := Nat.le_succ_of_le hb10.out.size; have rzM : zRw wM (w9.heap.size + 1) := (by have h : zRw wM _ := (by with_reducible exact (zRw.new _).kept hq2); rw [size_alloc1] at h; exact h); obtain ⟨y0, y1, y2, y3, y4, y5⟩ := rzM.all)
        | skip)))
    all_goals go_wp2_with fail
    all_goals
      go_meet
      case rel => first
        | exact ⟨_, rfl, rzM.five, ((((hbM.st hA _ _).st hA _ _).st hA _ _).st hA _ _).st hA _ _⟩
        | exact ⟨_, rfl, alloc_at _ _, hbM.al _⟩
  case rest =>
    obtain ⟨A, rfl, HR⟩ := hcut
    have hb20 : bel w2 wc := hb8.thru HR.out.2
    have HK2 : Hid (∀ a b u, bel wc u → Calls Try.prog 17 #[.int .i64 a, .int .i64 b] u fun e w' => e = .returned (.agg (cnL (cnd a b)).toArray) ∧ bel wc w') := fun a b u hb => HK.out wc a b u hb
    have hbc : bel wc wc := Below.refl _ _
    clear HK HM HC6 HK1 HM1 c0 c1 c2 c3 c4 c5 c6
    go_wp2_with (first
      | (go_at_call 17; refine (HK2.out _ _ _ (by assumption)).mono ?_; rintro e w21 ⟨rfl, hbd⟩)
      | (refine step_bsN (by rfl) 22 27 3 7 _ rfl [(0, .agg (cnL (cnd 1 0)).toArray), (1, .agg (cnL (cnd 2 3)).toArray), (2, .agg (cnL (cnd 3 4)).toArray)] (by rfl) (xS.map cnL) (cl_len xS) rfl (by decide) run_bs3 ?_; intro wB vB HVB; have hbB : bel wc wB := hbd.thru HVB.out.2)
      | (go_at_call 13; refine (HS.out wc _ _ _ hbB HVB.out.1).mono ?_; rintro e wS ⟨rfl, hbS⟩; have f14 := HKc.out wS (hb20.thru hbS.out); have HBk : Bk A wS #[.int .i64 2, .int .i64 7, .int .i64 10, .bool true, .bool true] 35 := (by exact HR.out.1.kept (hbS.out.block _ HR.out.1.lt)); have r0 : wS.cell? ⟨A, 0, none⟩ = some (.int .i64 2) := HBk.cell 0; have r1 : wS.cell? ⟨A, 1, none⟩ = some (.int .i64 7) := HBk.cell 1; have r2 : wS.cell? ⟨A, 2, none⟩ = some (.int .i64 10) := HBk.cell 2; have r3 : wS.cell? ⟨A, 3, none⟩ = some (.bool true) := HBk.cell 3; have r4 : wS.cell? ⟨A, 4, none⟩ = some (.bool true) := HBk.cell 4; clear HBk))
    rw [hQ.out]
    go_ret
    exact ⟨rfl, below_thru HW2.out (below_thru hb20.out hbS.out)⟩
end Go.Proofs.Ytdlipponajilbaa
