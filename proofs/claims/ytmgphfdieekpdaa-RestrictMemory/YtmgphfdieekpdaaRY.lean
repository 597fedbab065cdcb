/- remember, where the memory is full. -/
import Derived.Test.YtmgphfdieekpdaaRQ
import Derived.Test.YtmgphfdieekpdaaRN
import Derived.Test.YtmgphfdieekpdaaGL
import Derived.Lib.QuietBelow
namespace Go.Proofs.Ytmgphfdieekpdaa
open Go Go.RowKit Go.Sort
/-- GL's law, where the calls make blocks of their own -/
theorem wp_region_last_below {P : Program} {id : Nat} {Q : Exit → Act → World → Prop} {a : Act} {w : World} {l : List Oper} (hm : P.follows .mixedOrders = true) (hL : lastB l = true) (hn : l.isEmpty = false) (hB : Region.lexB .any (idleLast l).toArray = true)
    (h : wpQuiet P (idleLast l).toArray (fun w' => ∃ p : Regrown, w' = grow (redrawn w p.d) p.os) (fun a => ∀ w', (∃ p : Regrown, w' = grow (redrawn w p.d) p.os) → wpOp P l.toArray Q (l.length - 1) (fun a' w'' => Q .normal a' w'') a w') (idleLast l) a) : (Code.region id l.toArray true).wp P Q a w := by
  have hne : l ≠ [] := by intro e; rw [e] at hn; cases hn
  simp only [Region.lexB, Bool.and_eq_true] at hB
  refine wp_region_any hm (wpAny_last (C := fun w' => ∃ p : Regrown, w' = grow (redrawn w p.d) p.os) hL hne _ _ _ _ ⟨⟨w.drawn + 1, #[]⟩, by rw [grow_empty]; rfl⟩ (by simp) ?_ ?_)
  · have hp : 0 < l.length := List.length_pos_iff.2 hne
    have hp2 : l.length - 1 < l.length := by omega
    simp [hp2]
  · have := wpAnyQ_lex (C := fun w' => ∃ p : Regrown, w' = grow (redrawn w p.d) p.os) (md := .any) hB.1 (idleLast l) 0 (Array.replicate (idleLast l).toArray.size false) a (by simp) (by simpa using hB.2) h
    simpa [idle_len] using this
theorem quiet_ld6 {ops : Array Oper} {rest : List Oper} {o : Oper} {a : Act} {C : World → Prop} {Q : Act → Prop} (hw : Region.wanted o (yielded ops a.tmps) = true) (ty : TypeId) (x : Operand) (ho : o.op = .load ty x)
    (ad : Addr) (hx : a.eval x = .pointer (some ad)) (cs : List Value) (d : TypeDesc) (hu : Try.prog.underlying ty = some d) (hd : d.isRow = true) (hi : (Try.prog.info? ty).map (·.size) = some cs.length)
    (hc : ∀ w, C w → ∀ j u, cs[j]? = some u → w.cell? (ad.add j) = some u)
    (h : wpQuiet Try.prog ops C Q rest (a.put o.dst (.agg cs.toArray))) : wpQuiet Try.prog ops C Q (o :: rest) a := by
  unfold wpQuiet
  rw [if_pos hw]
  refine ⟨.agg cs.toArray, fun w hw => ?_, h⟩
  unfold Oper.quietAt execOp
  simp only [ho, hx, Instr.loadAt, Instr.sureAddr, Sem.run_bind, Sem.run_pure, Result.andThen_ok, run_loadVar_at w ad ty cs d (hc w hw) hu hd hi]
  exact ⟨rfl, rfl⟩
theorem wpOp_stk {ops : Array Oper} {Q : Exit → Act → World → Prop} {i0 : Nat} {K : Act → World → Prop} {a : Act} {w : World} (o : Oper) (ho : ops[i0]? = some o) (hgd : o.guard = none) (e : TypeId) (x y : Operand) (hop : o.op = .store e x y)
    {B g cap k : Nat} {rows : List (List Value)} (i : Nat) (r : List Value) (h : OR w B e k (.slice (some ⟨g, 0, none⟩) rows.length cap) rows) (hi : (Try.prog.info? e).map (·.size) = some k) (hx : a.eval x = .pointer (some ⟨g, i * k, none⟩)) (hy : a.eval y = .agg r.toArray) (hir : i < rows.length) (hr : r.length = k) (h1 : ∀ u ∈ r, u.oneCell' = true)
    (hK : ∀ w', OR w' B e k (.slice (some ⟨g, 0, none⟩) rows.length cap) (rows.set i r) → w.grownBy w' (some g) → w'.heap.size = w.heap.size → K (a.put o.dst undef) w') : wpOp Try.prog ops Q i0 K a w := by
  unfold wpOp
  rw [ho]
  have hw : Region.wanted o (yielded ops a.tmps) = true := by simp [Region.wanted, hgd]
  simp only [hw, if_true]
  exact .inl (wp_stk e x y hop i r h hi hx hy hir hr h1 hK)
theorem least : ∀ xs : List Sn, 0 < xs.length → ∃ i, ∃ _ : i < xs.length, ∀ j (hj : j < xs.length), xs[i].turn ≤ xs[j].turn
  | [], h => by simp at h
  | [x], _ => ⟨0, by simp, fun j hj => by have : j = 0 := by simp at hj; exact hj
                                          subst this; exact Int.le_refl _⟩
  | x :: y :: r, _ => by
    obtain ⟨i, hi, h⟩ := least (y :: r) (by simp)
    by_cases hx : x.turn ≤ (y :: r)[i].turn
    · refine ⟨0, by simp, fun j hj => ?_⟩
      match j, hj with
      | 0, _ => exact Int.le_refl _
      | j + 1, hj => exact Int.le_trans hx (h j (by simpa using hj))
    · refine ⟨i + 1, by simpa using hi, fun j hj => ?_⟩
      match j, hj with
      | 0, _ => show (y :: r)[i].turn ≤ x.turn; omega
      | j + 1, hj => exact h j (by simpa using hj)
theorem least_one {xs : List Sn} {i : Nat} (hi : i < xs.length) (h : ∀ j (hj : j < xs.length), xs[i].turn ≤ xs[j].turn) (hnd : ∀ i j (hi : i < xs.length) (hj : j < xs.length), xs[i].turn = xs[j].turn → i = j) {r : Int} (hr : olB xs r) : r = (i : Int) := by
  obtain ⟨k, hk, rfl, hm⟩ := hr
  have := hnd i k hi hk (Int.le_antisymm (h k hk) (hm i hi))
  rw [this]
theorem ix_sn6 (ga cap i : Nat) (hi : i < 32) : ∀ w, Sem.run Try.prog (Instr.indexAt 64 (.slice (some ⟨ga, 0, none⟩) 32 cap) (.int .i64 (i : Int))) w = .ok (.pointer (some ⟨ga, i * 6, none⟩)) w := by
  intro w
  have u := Try.underlying64
  have c3 : Try.prog.cellsOf 75 = 6 := by kernel_rfl
  have h0 : (0 : Int) ≤ i := Int.natCast_nonneg i
  have h1 : (i : Int) < 32 := by omega
  have e : (⟨ga, 0, none⟩ : Addr).add (i * 6) = ⟨ga, i * 6, none⟩ := add_own _ _
  rw [← e]
  go_simp
set_option maxHeartbeats 1000000 in
set_option maxRecDepth 20000 in
theorem remember_full (B g : Nat) (sv : Value) (xs : List Sn) (cost mn now turns a : Int) (w : World) (hM : Mm w B g sv cost mn now turns xs) (hB : B ≤ w.heap.size) (hl : xs.length = 32) (hnd : ∀ i j (hi : i < xs.length) (hj : j < xs.length), xs[i].turn = xs[j].turn → i = j) :
    Calls Try.prog 33 #[.pointer (some ⟨g, 0, none⟩), .int .u32 a] w fun e w' => e = .returned (.tuple #[]) ∧ ∃ i, (∃ _ : i < xs.length, ∀ j (hj : j < xs.length), xs[i].turn ≤ xs[j].turn) ∧ Mm w' B g sv cost mn now turns (xs.set i (nwS a cost now turns)) ∧ Fm w w' g sv := by
  obtain ⟨i, hi, hmin⟩ := least xs (by omega)
  have HI : Hid (i < 32 ∧ (∃ _ : i < xs.length, ∀ j (hj : j < xs.length), xs[i].turn ≤ xs[j].turn) ∧ ∀ r, olB xs r → r = (i : Int)) := ⟨by omega, ⟨hi, hmin⟩, fun r hr => least_one hi hmin hnd hr⟩
  clear hi hmin hnd
  have hc := hM.blk.cell 0
  have hm := hM.blk.cell 1
  have hn := hM.blk.cell 2
  have ht := hM.blk.cell 3
  have hs := hM.blk.cell 4
  simp at hc hm hn ht hs
  have hfr : ∀ j, w.frozen? ⟨g, j, none⟩ = false := fun j => hM.blk.frozen j
  have hgl : g < w.heap.size := hM.blk.lt
  obtain ⟨ao, cap, hsv, hcap, -⟩ := hM.row.rk
  rw [List.length_map] at hsv hcap
  subst hsv
  obtain ⟨L, hL⟩ : ∃ L, L = xs.length := ⟨_, rfl⟩
  rw [← hL] at hs hcap hM
  have HL : Hid (L = xs.length) := hL
  obtain rfl : L = 32 := by omega
  have HM : Hid (Mm w B g (.slice ao 32 cap) cost mn now turns xs ∧ B ≤ w.heap.size) := ⟨hM, hB⟩
  clear hL hl hM hB
  go_enter Try.func33, Try.ntmps33
  go_wp2
  go_region
  generalize hW1 : World.drew _ = W1
  have HB1 : Hid (Below w.heap.size w W1) := by rw [← hW1]; exact ((Below.refl _ _).alloc (Nat.le_refl _) _).drew
  have hz1 : W1.heap.size = w.heap.size + 1 := by rw [← hW1]; simp [World.drew]
  have HS1 : Hid (Bk w.heap.size W1 #[.int .u32 a, .int .i64 now, .int .i64 now, .int .i64 1, .int .i64 cost, .int .i64 turns] 75) := by rw [← hW1]; exact Bk.new w _ _
  have HM1 : Hid (Mm W1 B g (.slice ao 32 cap) cost mn now turns xs) := HM.out.1.below HB1.out
  have s0 := HS1.out.cell 0
  have s1 := HS1.out.cell 1
  have s2 := HS1.out.cell 2
  have s3 := HS1.out.cell 3
  have s4 := HS1.out.cell 4
  have s5 := HS1.out.cell 5
  have hs1 := HM1.out.blk.cell 4
  simp at s0 s1 s2 s3 s4 s5 hs1
  have hfr1 : ∀ j, W1.frozen? ⟨g, j, none⟩ = false := fun j => HM1.out.blk.frozen j
  have hgl1 : g < W1.heap.size := HM1.out.blk.lt
  have hgl1' : w.heap.size < W1.heap.size := by omega
  obtain ⟨ga, cap', hf, -, hg1, hg2⟩ := HM1.out.row.form (by rw [List.length_map]; have := HL.out; omega)
  rw [List.length_map, ← HL.out] at hf
  injection hf with hf _ hf2
  subst hf hf2
  have HQ : Hid (g < W1.heap.size ∧ w.heap.size < W1.heap.size ∧ ga < W1.heap.size) := ⟨hgl1, hgl1', hg2⟩
  have HOLD : Hid (∀ d os, Calls Try.prog 48 #[.pointer (some ⟨g, 0, none⟩)] (grow (redrawn W1 d) os) fun e w'' => e = .returned (.int .i64 (i : Int)) ∧ ∃ p : Regrown, w'' = grow (redrawn W1 p.d) p.os) := fun d os =>
    Calls.regrown_of ((oldest_any W1.heap.size _ xs g _ (HM1.out.row.rk.below (below_regrown W1 d os) (Nat.le_refl _)) (below_regrown W1 d os).size (by have := HL.out; omega) (by have := HL.out; omega) (by rw [(below_regrown W1 d os).cell (p := ⟨g, 4, none⟩) HQ.out.1]; exact hs1)).mono fun _ _ ⟨r, h1, h2, h3⟩ => ⟨by rw [h1, HI.out.2.2 r h2.out], h3⟩)
  have HS6 : Hid (∀ w', (∃ q : Regrown, w' = grow (redrawn W1 q.d) q.os) → ∀ j u, (snL (nwS a cost now turns))[j]? = some u → w'.cell? ((⟨w.heap.size, 0, none⟩ : Addr).add j) = some u) := by
    rintro _ ⟨q, rfl⟩ j u hu
    refine cell_regrown ?_ _ _
    have e : (⟨w.heap.size, 0, none⟩ : Addr).add j = ⟨w.heap.size, j, none⟩ := by unfold Addr.add; split <;> simp_all
    rw [e, HS1.out.cell j]
    rw [← hu]
    simp [snL, nwS]
  have hs4 := cell_regrown hs1
  have hix := ix_sn6 ga cap i HI.out.1
  clear hW1 hc hm hn ht hs hfr hgl hz1 hg1 hg2 hgl1' s0 s1 s2 s3 s4 s5 hgl1
  go_wp2_with fail
  refine wp_region_last_below (by kernel_rfl) (by kernel_rfl) (by rfl) (by kernel_rfl) ?_
  simp only [idleLast, idle]
  repeat (first | (refine quiet_ld6 (by rfl) 75 _ rfl ⟨w.heap.size, 0, none⟩ (by rfl) (snL (nwS a cost now turns)) _ Try.underlying75 rfl (by kernel_rfl) HS6.out ?_) | (quiet_step (exact HOLD.out _ _)))
  refine wpQuiet_nil ?_
  intro _ hw'
  obtain ⟨⟨dq, osq⟩, hw''⟩ := hw'
  subst hw''
  have HU : Hid (Mm (grow (redrawn W1 dq) osq) B g (.slice (some ⟨ga, 0, none⟩) 32 cap) cost mn now turns xs ∧ Below w.heap.size w (grow (redrawn W1 dq) osq)) := ⟨HM1.out.below (below_regrown W1 dq osq), HB1.out.trans ((below_regrown W1 dq osq).mono HB1.out.size)⟩
  have e32 : (xs.map snL).length = 32 := by rw [List.length_map]; exact HL.out.symm
  have HRW : OR (grow (redrawn W1 dq) osq) B 75 6 (.slice (some ⟨ga, 0, none⟩) (xs.map snL).length cap) (xs.map snL) := by rw [e32]; exact HU.out.1.row
  refine wpOp_stk (B := B) (g := ga) (cap := cap) (k := 6) (rows := xs.map snL) _ (by rfl) rfl 75 _ _ rfl i (snL (nwS a cost now turns)) HRW (by kernel_rfl) (by rfl) (by rfl) (by rw [e32]; exact HI.out.1) rfl (by intro u hu; simp [snL, nwS] at hu; rcases hu with rfl | rfl | rfl | rfl | rfl | rfl <;> rfl) ?_
  intro w5 ho hg hz
  have hne : ga ≠ g := fun e => HU.out.1.ne (by rw [e]; rfl)
  have hM5 : Mm w5 B g (.slice (some ⟨ga, 0, none⟩) xs.length cap) cost mn now turns (xs.set i (nwS a cost now turns)) := by
    refine ⟨?_, ?_, HU.out.1.low⟩
    · rw [← HL.out]
      exact HU.out.1.blk.kept (hg.block g HU.out.1.blk.lt (fun e => hne (by injection e with e; first | exact e | exact e.symm)))
    · rw [List.map_set, ← List.length_map (f := snL)]
      exact ho
  have hF5 : Fm w w5 g (.slice (some ⟨ga, 0, none⟩) xs.length cap) := (Fm.of_below HU.out.2).trans (Fm.row (sv := .slice (some ⟨ga, 0, none⟩) xs.length cap) hg) (fun k e => .inl e)
  have HE : Hid (i < xs.length ∧ Mm w5 B g (.slice (some ⟨ga, 0, none⟩) xs.length cap) cost mn now turns (xs.set i (nwS a cost now turns)) ∧ Fm w w5 g (.slice (some ⟨ga, 0, none⟩) xs.length cap)) := ⟨by have := HI.out.1; have := HL.out; omega, hM5, hF5⟩
  clear ho hg hz hM5 hF5 HRW HU hix hs4 HS6 HOLD
  first
  | exact ⟨rfl, by first | rfl | simp [results, Try.results33], rfl, i, HI.out.2.1, HE.out.2.1, HE.out.2.2⟩
  | (go_end0; exact ⟨rfl, i, HI.out.2.1, HE.out.2.1, HE.out.2.2⟩)
end Go.Proofs.Ytmgphfdieekpdaa
