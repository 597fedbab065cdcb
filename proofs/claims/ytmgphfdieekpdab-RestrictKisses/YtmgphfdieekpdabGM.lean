/- The reference's Death, region by region. Written by mkrdeath.py. -/
import Derived.Test.YtmgphfdieekpdabRX
import Derived.Test.YtmgphfdieekpdabRV
import Derived.Test.YtmgphfdieekpdabRK
namespace Go.Proofs.Ytmgphfdieekpdab
open Go Go.RowKit
theorem step_stR {ops : Array Oper} {rest : List Oper} {o : Oper} {a : Act} {w : World} {Q : Exit → Act → World → Prop} {T : TypeId} (hw : Region.wanted o (yielded ops a.tmps) = true) (x y : Operand) (ho : o.op = .store T x y)
    (g : Nat) (cells : Array Value) (hx : a.eval x = .pointer (some ⟨g, 0, none⟩)) (hy : a.eval y = .agg cells) (old : Array Value) (hs : (Try.prog.info? T).map (·.size) = some cells.size) (hold : old.size = cells.size) (h1 : cells.all (·.oneCell') = true) (hB : w.heap[g]? = some (.cells old T (0, 0)))
    (h : wpList Try.prog ops Q rest (a.put o.dst undef) (w.setRow g cells)) : wpList Try.prog ops Q (o :: rest) a w :=
  wpList_step fun K hK => by rw [if_pos hw]; exact wp_store_row _ x y ho g cells hx hy _ old hB hs hold h1 (hK _ _ h)
theorem cells_of {W : World} {g : Nat} {l : List Value} {T : TypeId} (h : W.heap[g]? = some (.cells l.toArray T (0, 0))) : ∀ j u, l[j]? = some u → W.cell? ((⟨g, 0, none⟩ : Addr).add j) = some u := fun j u hu => by
  have e : (⟨g, 0, none⟩ : Addr).add j = ⟨g, j, none⟩ := by unfold Addr.add; split <;> simp_all
  rw [e, cell_of_row W g j _ _ (0, 0) h]
  simpa using hu
theorem run_mx (a b : Int) (u : World) : (Builtin.max_ #[3, 3] 3 #[.int .i64 a, .int .i64 b]).run Try.prog u = .ok (.int .i64 (if a < b then b else a)) u := by simp [go_sem]
theorem run_mn (a b : Int) (u : World) : (Builtin.min_ #[3, 3] 3 #[.int .i64 a, .int .i64 b]).run Try.prog u = .ok (.int .i64 (if b < a then b else a)) u := by simp [go_sem]
theorem seq_hid {P : Program} {c1 c2 : Code} {Q : Exit → Act → World → Prop} {a : Act} {w : World} (h : ∀ R, Hid (R = c2) → Code.wp P (c1.seq R) Q a w) : Code.wp P (c1.seq c2) Q a w := h c2 rfl
theorem post_hid {P : Program} {c : Code} {Q : Exit → Act → World → Prop} {a : Act} {w : World} (h : ∀ R, Hid (R = Q) → Code.wp P c R a w) : Code.wp P c Q a w := h Q rfl
theorem world_hid {P : Program} {c : Code} {Q : Exit → Act → World → Prop} {a : Act} {w : World} (h : ∀ W, Hid (W = w) → Code.wp P c Q a W) : Code.wp P c Q a w := h w rfl
set_option maxRecDepth 20000 in
set_option maxHeartbeats 1000000 in
theorem rdeath_any (p : Pk) (code poll : Int) (w : World) : Calls Try.prog 11 #[.agg (pkC p).toArray, .int .u32 code, .int .i64 poll] w fun e w' => e = .returned (.agg (pkC (dtP p code poll)).toArray) ∧ Below w.heap.size w w' := by
  obtain ⟨a0, a1, a2, a3, a4, a5, a6, a7, a8, a9, a10, a11, a12, eo, en, ec, key, nak, mo, mn, mc⟩ := p
  unfold pkC dtP
  simp only
  obtain ⟨A, hA⟩ : ∃ A, (if a4 < poll then poll else a4) = A := ⟨_, rfl⟩
  obtain ⟨C, hC⟩ : ∃ C, (if A < 10 then A else 10) = C := ⟨_, rfl⟩
  obtain ⟨P, hP⟩ : ∃ P, (if 3 < C then C else 3) = P := ⟨_, rfl⟩
  have hPe : pollI a4 poll = P := by unfold pollI; rw [← hP, ← hC, ← hA]; repeat' split; all_goals omega
  rw [hPe]
  clear hPe
  obtain ⟨M, hM⟩ : ∃ M, amI a2 = M := ⟨_, rfl⟩
  rw [hM]
  have m1 : ∀ u, (Builtin.max_ #[3, 3] 3 #[.int .i64 a4, .int .i64 poll]).run Try.prog u = .ok (.int .i64 A) u := fun u => by rw [← hA]; exact run_mx _ _ u
  have m2 : ∀ u, (Builtin.min_ #[3, 3] 3 #[.int .i64 10, .int .i64 A]).run Try.prog u = .ok (.int .i64 C) u := fun u => by rw [← hC]; exact run_mn _ _ u
  have m3 : ∀ u, (Builtin.max_ #[3, 3] 3 #[.int .i64 3, .int .i64 C]).run Try.prog u = .ok (.int .i64 P) u := fun u => by rw [← hP]; exact run_mx _ _ u
  clear hA hC hP
  go_enter Try.func11, Try.ntmps11
  refine post_hid fun Q hQ => ?_
  refine seq_hid fun R hR => ?_
  go_wp2
  refine world_hid fun W0 hW0 => ?_
  have hz : W0.heap.size = w.heap.size + 1 + 1 := by rw [hW0.out]; simp
  obtain ⟨g, hg⟩ : ∃ g, W0.heap.size = g := ⟨_, rfl⟩
  have k1 : W0.cell? ⟨w.heap.size, 1, none⟩ = some (.int .i64 a1) := by rw [hW0.out]; simp
  have k2 : W0.cell? ⟨w.heap.size, 2, none⟩ = some (.int .i64 a2) := by rw [hW0.out]; simp
  have k4 : W0.cell? ⟨w.heap.size, 4, none⟩ = some (.int .i64 a4) := by rw [hW0.out]; simp
  have k12 : W0.cell? ⟨w.heap.size, 12, none⟩ = some (.int .u64 a12) := by rw [hW0.out]; simp
  have HZ : Hid (W0.heap[w.heap.size + 1]? = some (.cells #[.int .i64 0, .int .i64 0, .int .i64 0, .int .i64 0, .int .i64 0, .int .i64 0, .int .i64 0, .int .i64 0, .int .u32 0, .int .u64 0, .int .u64 0, .int .u64 0, .int .u64 0, .slice none 0 0, .int .i64 0, .bool false, .slice none 0 0] 29 (0, 0))) := by show W0.heap[w.heap.size + 1]? = _; rw [hW0.out, ← size_alloc1]; exact alloc_at _ _
  have HB : Hid (Below w.heap.size w W0) := by show Below _ _ _; rw [hW0.out]; exact ((Below.refl _ _).alloc (Nat.le_refl _) _).alloc (by simp) _
  clear hW0
  have HT0 : Hid ((W0.alloc (.cells #[.int .i64 0, .int .i64 0, .int .i64 0, .int .i64 0, .int .i64 0, .int .i64 0, .int .i64 0, .int .i64 0, .int .u32 0, .int .u64 0, .int .u64 0, .int .u64 0, .int .u64 0, .slice none 0 0, .int .i64 0, .bool false, .slice none 0 0] 29)).heap[g]? = some (.cells #[.int .i64 0, .int .i64 0, .int .i64 0, .int .i64 0, .int .i64 0, .int .i64 0, .int .i64 0, .int .i64 0, .int .u32 0, .int .u64 0, .int .u64 0, .int .u64 0, .int .u64 0, .slice none 0 0, .int .i64 0, .bool false, .slice none 0 0] 29 (0, 0))) := by have h0 := alloc_at W0 (.cells #[.int .i64 0, .int .i64 0, .int .i64 0, .int .i64 0, .int .i64 0, .int .i64 0, .int .i64 0, .int .i64 0, .int .u32 0, .int .u64 0, .int .u64 0, .int .u64 0, .int .u64 0, .slice none 0 0, .int .i64 0, .bool false, .slice none 0 0] 29); rw [hg] at h0; exact h0
  have Hz : Hid (g = w.heap.size + 1 + 1) := hg.symm.trans hz
  clear hz
  rw [hR.out]
  clear hR
  refine seq_hid fun R hR => ?_
  go_wp2_with (refine step_stR (by rfl) _ _ rfl g #[.int .i64 3, .int .i64 a1, .int .i64 a2, .int .i64 0, .int .i64 P, .int .i64 (-20), .int .i64 0, .int .i64 0, .int .u32 code, .int .u64 0, .int .u64 a12, .int .u64 a12, .int .u64 a12, .slice none 0 0, .int .i64 0, .bool false, .slice none 0 0] (by rfl) (by rfl) #[.int .i64 0, .int .i64 0, .int .i64 0, .int .i64 0, .int .i64 0, .int .i64 0, .int .i64 0, .int .i64 0, .int .u32 0, .int .u64 0, .int .u64 0, .int .u64 0, .int .u64 0, .slice none 0 0, .int .i64 0, .bool false, .slice none 0 0] (by kernel_rfl) (by rfl) (by kernel_rfl) HT0.out ?_)
  refine world_hid fun W3 hW3 => ?_
  have hB1 : Below g W0 W3 := by rw [hW3.out]; exact below_row ((Below.refl _ W0).alloc (Nat.le_of_eq hg.symm) _) (Nat.le_refl _) _
  have c2 : W3.cell? ⟨w.heap.size, 2, none⟩ = some (.int .i64 a2) := (hB1.cell (p := ⟨w.heap.size, 2, none⟩) (by show w.heap.size < g; have := Hz.out; omega)).trans k2
  have HT3 : Hid (W3.heap[g]? = some (.cells #[.int .i64 3, .int .i64 a1, .int .i64 a2, .int .i64 0, .int .i64 P, .int .i64 (-20), .int .i64 0, .int .i64 0, .int .u32 code, .int .u64 0, .int .u64 a12, .int .u64 a12, .int .u64 a12, .slice none 0 0, .int .i64 0, .bool false, .slice none 0 0] 29 (0, 0))) := by show W3.heap[g]? = _; rw [hW3.out]; exact setRow_heap _ _ _ _ _ _ HT0.out
  have HR3 : Hid (W3.heap[w.heap.size + 1]? = some (.cells #[.int .i64 0, .int .i64 0, .int .i64 0, .int .i64 0, .int .i64 0, .int .i64 0, .int .i64 0, .int .i64 0, .int .u32 0, .int .u64 0, .int .u64 0, .int .u64 0, .int .u64 0, .slice none 0 0, .int .i64 0, .bool false, .slice none 0 0] 29 (0, 0))) := (hB1.block _ (by have := Hz.out; omega)).trans HZ.out
  have HB3 : Hid (Below w.heap.size w W3) := HB.out.trans (hB1.mono (by have := Hz.out; omega))
  clear hW3 hB1 HT0 HZ HB k1 k2 k4 k12 m1 m2 m3 hg
  rw [hR.out]
  clear hR
  by_cases h3 : a2 = 3
  · subst h3
    obtain rfl : M = 4 := by rw [← hM]; rfl
    have t2 : W3.cell? ⟨g, 2, none⟩ = some (.int .i64 3) := by rw [cell_of_row W3 _ 2 _ _ (0, 0) HT3.out]; rfl
    have tf : W3.frozen? ⟨g, 2, none⟩ = false := by have h := HT3.out; simp [World.frozen?, h]
    refine seq_hid fun R hR => ?_
    go_wp2
    refine world_hid fun W4 hW4 => ?_
    have HT4 : Hid (W4.heap[g]? = some (.cells #[.int .i64 3, .int .i64 a1, .int .i64 4, .int .i64 0, .int .i64 P, .int .i64 (-20), .int .i64 0, .int .i64 0, .int .u32 code, .int .u64 0, .int .u64 a12, .int .u64 a12, .int .u64 a12, .slice none 0 0, .int .i64 0, .bool false, .slice none 0 0] 29 (0, 0))) := by show W4.heap[g]? = _; rw [hW4.out, setCell_eq_setRow W3 _ 2 _ _ (0, 0) _ HT3.out, setRow_heap W3 _ _ _ _ _ HT3.out]; rfl
    have HR4 : Hid (W4.heap[w.heap.size + 1]? = some (.cells #[.int .i64 0, .int .i64 0, .int .i64 0, .int .i64 0, .int .i64 0, .int .i64 0, .int .i64 0, .int .i64 0, .int .u32 0, .int .u64 0, .int .u64 0, .int .u64 0, .int .u64 0, .slice none 0 0, .int .i64 0, .bool false, .slice none 0 0] 29 (0, 0))) := by show W4.heap[w.heap.size + 1]? = _; rw [hW4.out]; exact (Below.heap_setCell W3 _ _ _ (by show w.heap.size + 1 ≠ g; have := Hz.out; omega)).trans HR3.out
    have HB4 : Hid (Below w.heap.size w W4) := by show Below _ _ _; rw [hW4.out]; exact HB3.out.setCell (by show w.heap.size ≤ g; have := Hz.out; omega) _
    have c4 : W4.cell? ⟨w.heap.size, 2, none⟩ = some (.int .i64 3) := by rw [hW4.out]; exact (World.cell?_of_block (w := W3) (a := ⟨w.heap.size, 2, none⟩) (Below.heap_setCell W3 _ _ w.heap.size (by show w.heap.size ≠ g; have := Hz.out; omega))).trans c2
    clear hW4 HT3 HR3 HB3 c2 t2 tf
    rw [hR.out]
    clear hR
    refine seq_hid fun R hR => ?_
    go_wp2
    rw [hR.out]
    clear hR
    have HC4 : Hid (∀ j u, ([.int .i64 3, .int .i64 a1, .int .i64 4, .int .i64 0, .int .i64 P, .int .i64 (-20), .int .i64 0, .int .i64 0, .int .u32 code, .int .u64 0, .int .u64 a12, .int .u64 a12, .int .u64 a12, .slice none 0 0, .int .i64 0, .bool false, .slice none 0 0] : List Value)[j]? = some u → W4.cell? ((⟨g, 0, none⟩ : Addr).add j) = some u) := cells_of HT4.out
    go_wp2_with (first | (refine step_ldat 29 _ rfl rfl ⟨g, 0, none⟩ (by rfl) [.int .i64 3, .int .i64 a1, .int .i64 4, .int .i64 0, .int .i64 P, .int .i64 (-20), .int .i64 0, .int .i64 0, .int .u32 code, .int .u64 0, .int .u64 a12, .int .u64 a12, .int .u64 a12, .slice none 0 0, .int .i64 0, .bool false, .slice none 0 0] _ Try.underlying29 rfl (by kernel_rfl) HC4.out ?_) | (refine step_stR (by rfl) _ _ rfl (w.heap.size + 1) #[.int .i64 3, .int .i64 a1, .int .i64 4, .int .i64 0, .int .i64 P, .int .i64 (-20), .int .i64 0, .int .i64 0, .int .u32 code, .int .u64 0, .int .u64 a12, .int .u64 a12, .int .u64 a12, .slice none 0 0, .int .i64 0, .bool false, .slice none 0 0] (by rfl) (by rfl) #[.int .i64 0, .int .i64 0, .int .i64 0, .int .i64 0, .int .i64 0, .int .i64 0, .int .i64 0, .int .i64 0, .int .u32 0, .int .u64 0, .int .u64 0, .int .u64 0, .int .u64 0, .slice none 0 0, .int .i64 0, .bool false, .slice none 0 0] (by kernel_rfl) (by rfl) (by kernel_rfl) HR4.out ?_))
    have hR5 := setRow_heap W4 _ _ #[.int .i64 3, .int .i64 a1, .int .i64 4, .int .i64 0, .int .i64 P, .int .i64 (-20), .int .i64 0, .int .i64 0, .int .u32 code, .int .u64 0, .int .u64 a12, .int .u64 a12, .int .u64 a12, .slice none 0 0, .int .i64 0, .bool false, .slice none 0 0] _ _ HR4.out
    have hB5 := below_row HB4.out (Nat.le_succ _) #[.int .i64 3, .int .i64 a1, .int .i64 4, .int .i64 0, .int .i64 P, .int .i64 (-20), .int .i64 0, .int .i64 0, .int .u32 code, .int .u64 0, .int .u64 a12, .int .u64 a12, .int .u64 a12, .slice none 0 0, .int .i64 0, .bool false, .slice none 0 0]
    rw [hQ.out]
    exact bodyPost_ret (v := .agg #[.int .i64 3, .int .i64 a1, .int .i64 4, .int .i64 0, .int .i64 P, .int .i64 (-20), .int .i64 0, .int .i64 0, .int .u32 code, .int .u64 0, .int .u64 a12, .int .u64 a12, .int .u64 a12, .slice none 0 0, .int .i64 0, .bool false, .slice none 0 0]) (results_cell_row Try.results11 _ _ (w.heap.size + 1) _ _ (0, 0) _ (by rfl) hR5 Try.underlying29 rfl (by kernel_rfl)) rfl ⟨rfl, hB5⟩
  by_cases h1 : a2 = 1
  · subst h1
    obtain rfl : M = 2 := by rw [← hM]; rfl
    have t2 : W3.cell? ⟨g, 2, none⟩ = some (.int .i64 1) := by rw [cell_of_row W3 _ 2 _ _ (0, 0) HT3.out]; rfl
    have tf : W3.frozen? ⟨g, 2, none⟩ = false := by have h := HT3.out; simp [World.frozen?, h]
    refine seq_hid fun R hR => ?_
    go_wp2
    rw [hR.out]
    clear hR
    refine seq_hid fun R hR => ?_
    go_wp2
    refine world_hid fun W4 hW4 => ?_
    have HT4 : Hid (W4.heap[g]? = some (.cells #[.int .i64 3, .int .i64 a1, .int .i64 2, .int .i64 0, .int .i64 P, .int .i64 (-20), .int .i64 0, .int .i64 0, .int .u32 code, .int .u64 0, .int .u64 a12, .int .u64 a12, .int .u64 a12, .slice none 0 0, .int .i64 0, .bool false, .slice none 0 0] 29 (0, 0))) := by show W4.heap[g]? = _; rw [hW4.out, setCell_eq_setRow W3 _ 2 _ _ (0, 0) _ HT3.out, setRow_heap W3 _ _ _ _ _ HT3.out]; rfl
    have HR4 : Hid (W4.heap[w.heap.size + 1]? = some (.cells #[.int .i64 0, .int .i64 0, .int .i64 0, .int .i64 0, .int .i64 0, .int .i64 0, .int .i64 0, .int .i64 0, .int .u32 0, .int .u64 0, .int .u64 0, .int .u64 0, .int .u64 0, .slice none 0 0, .int .i64 0, .bool false, .slice none 0 0] 29 (0, 0))) := by show W4.heap[w.heap.size + 1]? = _; rw [hW4.out]; exact (Below.heap_setCell W3 _ _ _ (by show w.heap.size + 1 ≠ g; have := Hz.out; omega)).trans HR3.out
    have HB4 : Hid (Below w.heap.size w W4) := by show Below _ _ _; rw [hW4.out]; exact HB3.out.setCell (by show w.heap.size ≤ g; have := Hz.out; omega) _
    have c4 : W4.cell? ⟨w.heap.size, 2, none⟩ = some (.int .i64 1) := by rw [hW4.out]; exact (World.cell?_of_block (w := W3) (a := ⟨w.heap.size, 2, none⟩) (Below.heap_setCell W3 _ _ w.heap.size (by show w.heap.size ≠ g; have := Hz.out; omega))).trans c2
    clear hW4 HT3 HR3 HB3 c2 t2 tf
    rw [hR.out]
    clear hR
    have HC4 : Hid (∀ j u, ([.int .i64 3, .int .i64 a1, .int .i64 2, .int .i64 0, .int .i64 P, .int .i64 (-20), .int .i64 0, .int .i64 0, .int .u32 code, .int .u64 0, .int .u64 a12, .int .u64 a12, .int .u64 a12, .slice none 0 0, .int .i64 0, .bool false, .slice none 0 0] : List Value)[j]? = some u → W4.cell? ((⟨g, 0, none⟩ : Addr).add j) = some u) := cells_of HT4.out
    go_wp2_with (first | (refine step_ldat 29 _ rfl rfl ⟨g, 0, none⟩ (by rfl) [.int .i64 3, .int .i64 a1, .int .i64 2, .int .i64 0, .int .i64 P, .int .i64 (-20), .int .i64 0, .int .i64 0, .int .u32 code, .int .u64 0, .int .u64 a12, .int .u64 a12, .int .u64 a12, .slice none 0 0, .int .i64 0, .bool false, .slice none 0 0] _ Try.underlying29 rfl (by kernel_rfl) HC4.out ?_) | (refine step_stR (by rfl) _ _ rfl (w.heap.size + 1) #[.int .i64 3, .int .i64 a1, .int .i64 2, .int .i64 0, .int .i64 P, .int .i64 (-20), .int .i64 0, .int .i64 0, .int .u32 code, .int .u64 0, .int .u64 a12, .int .u64 a12, .int .u64 a12, .slice none 0 0, .int .i64 0, .bool false, .slice none 0 0] (by rfl) (by rfl) #[.int .i64 0, .int .i64 0, .int .i64 0, .int .i64 0, .int .i64 0, .int .i64 0, .int .i64 0, .int .i64 0, .int .u32 0, .int .u64 0, .int .u64 0, .int .u64 0, .int .u64 0, .slice none 0 0, .int .i64 0, .bool false, .slice none 0 0] (by kernel_rfl) (by rfl) (by kernel_rfl) HR4.out ?_))
    have hR5 := setRow_heap W4 _ _ #[.int .i64 3, .int .i64 a1, .int .i64 2, .int .i64 0, .int .i64 P, .int .i64 (-20), .int .i64 0, .int .i64 0, .int .u32 code, .int .u64 0, .int .u64 a12, .int .u64 a12, .int .u64 a12, .slice none 0 0, .int .i64 0, .bool false, .slice none 0 0] _ _ HR4.out
    have hB5 := below_row HB4.out (Nat.le_succ _) #[.int .i64 3, .int .i64 a1, .int .i64 2, .int .i64 0, .int .i64 P, .int .i64 (-20), .int .i64 0, .int .i64 0, .int .u32 code, .int .u64 0, .int .u64 a12, .int .u64 a12, .int .u64 a12, .slice none 0 0, .int .i64 0, .bool false, .slice none 0 0]
    rw [hQ.out]
    exact bodyPost_ret (v := .agg #[.int .i64 3, .int .i64 a1, .int .i64 2, .int .i64 0, .int .i64 P, .int .i64 (-20), .int .i64 0, .int .i64 0, .int .u32 code, .int .u64 0, .int .u64 a12, .int .u64 a12, .int .u64 a12, .slice none 0 0, .int .i64 0, .bool false, .slice none 0 0]) (results_cell_row Try.results11 _ _ (w.heap.size + 1) _ _ (0, 0) _ (by rfl) hR5 Try.underlying29 rfl (by kernel_rfl)) rfl ⟨rfl, hB5⟩
  · obtain rfl : M = a2 := by rw [← hM]; unfold amI; simp [h3, h1]
    refine seq_hid fun R hR => ?_
    go_wp2
    rw [hR.out]
    clear hR
    refine seq_hid fun R hR => ?_
    go_wp2
    rw [hR.out]
    clear hR
    have HT4 := HT3
    have HR4 := HR3
    have HB4 := HB3
    have c4 := c2
    have HC4 : Hid (∀ j u, ([.int .i64 3, .int .i64 a1, .int .i64 M, .int .i64 0, .int .i64 P, .int .i64 (-20), .int .i64 0, .int .i64 0, .int .u32 code, .int .u64 0, .int .u64 a12, .int .u64 a12, .int .u64 a12, .slice none 0 0, .int .i64 0, .bool false, .slice none 0 0] : List Value)[j]? = some u → W3.cell? ((⟨g, 0, none⟩ : Addr).add j) = some u) := cells_of HT4.out
    go_wp2_with (first | (refine step_ldat 29 _ rfl rfl ⟨g, 0, none⟩ (by rfl) [.int .i64 3, .int .i64 a1, .int .i64 M, .int .i64 0, .int .i64 P, .int .i64 (-20), .int .i64 0, .int .i64 0, .int .u32 code, .int .u64 0, .int .u64 a12, .int .u64 a12, .int .u64 a12, .slice none 0 0, .int .i64 0, .bool false, .slice none 0 0] _ Try.underlying29 rfl (by kernel_rfl) HC4.out ?_) | (refine step_stR (by rfl) _ _ rfl (w.heap.size + 1) #[.int .i64 3, .int .i64 a1, .int .i64 M, .int .i64 0, .int .i64 P, .int .i64 (-20), .int .i64 0, .int .i64 0, .int .u32 code, .int .u64 0, .int .u64 a12, .int .u64 a12, .int .u64 a12, .slice none 0 0, .int .i64 0, .bool false, .slice none 0 0] (by rfl) (by rfl) #[.int .i64 0, .int .i64 0, .int .i64 0, .int .i64 0, .int .i64 0, .int .i64 0, .int .i64 0, .int .i64 0, .int .u32 0, .int .u64 0, .int .u64 0, .int .u64 0, .int .u64 0, .slice none 0 0, .int .i64 0, .bool false, .slice none 0 0] (by kernel_rfl) (by rfl) (by kernel_rfl) HR4.out ?_))
    have hR5 := setRow_heap W3 _ _ #[.int .i64 3, .int .i64 a1, .int .i64 M, .int .i64 0, .int .i64 P, .int .i64 (-20), .int .i64 0, .int .i64 0, .int .u32 code, .int .u64 0, .int .u64 a12, .int .u64 a12, .int .u64 a12, .slice none 0 0, .int .i64 0, .bool false, .slice none 0 0] _ _ HR4.out
    have hB5 := below_row HB4.out (Nat.le_succ _) #[.int .i64 3, .int .i64 a1, .int .i64 M, .int .i64 0, .int .i64 P, .int .i64 (-20), .int .i64 0, .int .i64 0, .int .u32 code, .int .u64 0, .int .u64 a12, .int .u64 a12, .int .u64 a12, .slice none 0 0, .int .i64 0, .bool false, .slice none 0 0]
    rw [hQ.out]
    exact bodyPost_ret (v := .agg #[.int .i64 3, .int .i64 a1, .int .i64 M, .int .i64 0, .int .i64 P, .int .i64 (-20), .int .i64 0, .int .i64 0, .int .u32 code, .int .u64 0, .int .u64 a12, .int .u64 a12, .int .u64 a12, .slice none 0 0, .int .i64 0, .bool false, .slice none 0 0]) (results_cell_row Try.results11 _ _ (w.heap.size + 1) _ _ (0, 0) _ (by rfl) hR5 Try.underlying29 rfl (by kernel_rfl)) rfl ⟨rfl, hB5⟩
end Go.Proofs.Ytmgphfdieekpdab
