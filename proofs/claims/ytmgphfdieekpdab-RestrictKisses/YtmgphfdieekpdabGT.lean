/- RestrictKisses. -/
import Derived.Test.YtmgphfdieekpdabGS
import Derived.Lib.QuietBelow
namespace Go.Proofs.Ytmgphfdieekpdab
open Go Go.RowKit Go.Sort
/-- a struct loaded whole, in a region that draws its order -/
theorem quiet_ldat {ops : Array Oper} {rest : List Oper} {o : Oper} {a : Act} {C : World → Prop} {Q : Act → Prop} (hw : Region.wanted o (yielded ops a.tmps) = true) (ty : TypeId) (x : Operand) (ho : o.op = .load ty x)
    (ad : Addr) (hx : a.eval x = .pointer (some ad)) (cs : List Value) (d : TypeDesc) (hu : Try.prog.underlying ty = some d) (hd : d.isRow = true) (hi : (Try.prog.info? ty).map (·.size) = some cs.length)
    (hc : ∀ w, C w → ∀ j u, cs[j]? = some u → w.cell? (ad.add j) = some u)
    (h : wpQuiet Try.prog ops C Q rest (a.put o.dst (.agg cs.toArray))) : wpQuiet Try.prog ops C Q (o :: rest) a := by
  unfold wpQuiet
  rw [if_pos hw]
  refine ⟨.agg cs.toArray, fun w hw => ?_, h⟩
  unfold Oper.quietAt execOp
  simp only [ho, hx, Instr.loadAt, Instr.sureAddr, Sem.run_bind, Sem.run_pure, Result.andThen_ok, run_loadVar_at w ad ty cs d (hc w hw) hu hd hi]
  exact ⟨rfl, rfl⟩
set_option maxRecDepth 20000 in
set_option maxHeartbeats 1000000 in
theorem RestrictKisses_row (s : ByteArray) (p : Pk) (code poll : Int) (w : World) (hs : s.size ≤ maxLen) : Calls Try.prog 3 #[.string s, .agg (pkC p).toArray, .int .u32 code, .int .i64 poll] w fun e w' => e = .returned (.bool true) ∧ Below w.heap.size w w' := by
  obtain ⟨D, hD⟩ : ∃ D, dtP p code poll = D := ⟨_, rfl⟩
  have hi : idB D = decide (code ≠ 0) := by rw [← hD]; unfold idB dtP; simp
  have hr : D.rid = code := by rw [← hD]; rfl
  have HDe : Hid (∀ w, Calls Try.prog 5 #[.agg (pkC p).toArray, .int .u32 code, .int .i64 poll] w fun e w' => e = .returned (.agg (pkC D).toArray) ∧ Below w.heap.size w w') := fun w => hD ▸ death_any p code poll w
  have HRe : Hid (∀ w, Calls Try.prog 11 #[.agg (pkC p).toArray, .int .u32 code, .int .i64 poll] w fun e w' => e = .returned (.agg (pkC D).toArray) ∧ Below w.heap.size w w') := fun w => hD ▸ rdeath_any p code poll w
  have HI : Hid (∀ w, Calls Try.prog 6 #[.agg (pkC D).toArray] w fun e w' => e = .returned (.tuple #[.int .u32 code, .bool (decide (code ≠ 0))]) ∧ Below w.heap.size w w') := fun w => by
    have h := isDeath_any D w
    have e : (if idB D = true then D.rid else 0) = code := by rw [hi, hr]; simp only [decide_eq_true_eq]; split <;> simp_all
    rw [e, hi] at h
    exact h
  obtain ⟨X, hX⟩ : ∃ X, (if idB p = true then p.rid else 0) = X := ⟨_, rfl⟩
  obtain ⟨B, hBp⟩ : ∃ B, idB p = B := ⟨_, rfl⟩
  have HJ : Hid (∀ w, Calls Try.prog 6 #[.agg (pkC p).toArray] w fun e w' => e = .returned (.tuple #[.int .u32 X, .bool B]) ∧ Below w.heap.size w w') := fun w => by have h := isDeath_any p w; rw [hX, hBp] at h; exact h
  have HK : Hid (∀ w, Calls Try.prog 7 #[.agg (pkC p).toArray] w fun e w' => e = .returned (.tuple #[.int .u32 X, .bool B]) ∧ Below w.heap.size w w') := fun w => by have h := risDeath_any p w; rw [hX, hBp] at h; exact h
  clear hX hBp hi hr hD
  have Hs : Hid (s.size ≤ maxLen) := hs
  clear hs
  go_enter Try.func3, Try.ntmps3
  refine post_hid fun Q hQ => ?_
  refine seq_hid fun R hR => ?_
  go_wp2
  refine world_hid fun W1 hW1 => ?_
  have HB1 : Hid (Below w.heap.size w W1) := by show Below _ _ _; rw [hW1.out]; exact (Below.refl _ _).alloc (Nat.le_refl _) _
  have HP1 : Hid (W1.heap[w.heap.size]? = some (.cells (pkC p).toArray 29 (0, 0)) ∧ w.heap.size < W1.heap.size) := by show W1.heap[w.heap.size]? = _ ∧ _; rw [hW1.out]; exact ⟨alloc_at _ _, by simp⟩
  clear hW1
  rw [hR.out]
  clear hR
  refine seq_hid fun R hR => ?_
  go_wp2_with fail
  refine (shown_any _).mono ?_
  rintro e w2 ⟨rfl, hb2⟩
  have HB2 : Hid (Below w.heap.size w w2) := HB1.out.trans (hb2.mono HB1.out.size)
  have HP2 : Hid (w2.heap[w.heap.size]? = some (.cells (pkC p).toArray 29 (0, 0)) ∧ w.heap.size < w2.heap.size) := ⟨(hb2.block _ HP1.out.2).trans HP1.out.1, Nat.lt_of_lt_of_le HP1.out.2 hb2.size⟩
  clear hb2 HB1 HP1
  go_wp2_with fail
  rw [hR.out]
  clear hR
  refine seq_hid fun R hR => ?_
  have HC2 : Hid (∀ j u, (pkC p)[j]? = some u → w2.cell? ((⟨w.heap.size, 0, none⟩ : Addr).add j) = some u) := cells_of HP2.out.1
  go_wp2_with (refine step_ldat 29 _ rfl rfl ⟨w.heap.size, 0, none⟩ (by rfl) (pkC p) _ Try.underlying29 rfl (by kernel_rfl) HC2.out ?_)
  refine (HDe.out _).mono ?_
  rintro e w3 ⟨rfl, hb3⟩
  have HB3 : Hid (Below w.heap.size w w3) := HB2.out.trans (hb3.mono HB2.out.size)
  have HP3 : Hid (w3.heap[w.heap.size]? = some (.cells (pkC p).toArray 29 (0, 0)) ∧ w.heap.size < w3.heap.size) := ⟨(hb3.block _ HP2.out.2).trans HP2.out.1, Nat.lt_of_lt_of_le HP2.out.2 hb3.size⟩
  clear hb3 HB2 HP2 HC2
  obtain ⟨g, hg⟩ : ∃ g, w3.heap.size = g := ⟨_, rfl⟩
  have HT3 : Hid ((w3.alloc (.cells #[.int .i64 0, .int .i64 0, .int .i64 0, .int .i64 0, .int .i64 0, .int .i64 0, .int .i64 0, .int .i64 0, .int .u32 0, .int .u64 0, .int .u64 0, .int .u64 0, .int .u64 0, .slice none 0 0, .int .i64 0, .bool false, .slice none 0 0] 29)).heap[g]? = some (.cells #[.int .i64 0, .int .i64 0, .int .i64 0, .int .i64 0, .int .i64 0, .int .i64 0, .int .i64 0, .int .i64 0, .int .u32 0, .int .u64 0, .int .u64 0, .int .u64 0, .int .u64 0, .slice none 0 0, .int .i64 0, .bool false, .slice none 0 0] 29 (0, 0))) := by have h0 := alloc_at w3 (.cells #[.int .i64 0, .int .i64 0, .int .i64 0, .int .i64 0, .int .i64 0, .int .i64 0, .int .i64 0, .int .i64 0, .int .u32 0, .int .u64 0, .int .u64 0, .int .u64 0, .int .u64 0, .slice none 0 0, .int .i64 0, .bool false, .slice none 0 0] 29); rw [hg] at h0; exact h0
  go_wp2_with (refine step_stR (by rfl) _ _ rfl g (pkC D).toArray (by rfl) (by rfl) #[.int .i64 0, .int .i64 0, .int .i64 0, .int .i64 0, .int .i64 0, .int .i64 0, .int .i64 0, .int .i64 0, .int .u32 0, .int .u64 0, .int .u64 0, .int .u64 0, .int .u64 0, .slice none 0 0, .int .i64 0, .bool false, .slice none 0 0] (by kernel_rfl) (by kernel_rfl) (by kernel_rfl) HT3.out ?_)
  refine world_hid fun W4 hW4 => ?_
  have hB4 : Below g w3 W4 := by rw [hW4.out]; exact below_row ((Below.refl _ w3).alloc (Nat.le_of_eq hg.symm) _) (Nat.le_refl _) _
  have HD4 : Hid (W4.heap[g]? = some (.cells (pkC D).toArray 29 (0, 0)) ∧ g < W4.heap.size) := by
    have h : W4.heap[g]? = some (.cells (pkC D).toArray 29 (0, 0)) := by rw [hW4.out]; exact setRow_heap _ _ _ _ _ _ HT3.out
    exact ⟨h, by rcases Nat.lt_or_ge g W4.heap.size with hlt | hge; exact hlt; rw [Array.getElem?_eq_none hge] at h; cases h⟩
  have HP4 : Hid (W4.heap[w.heap.size]? = some (.cells (pkC p).toArray 29 (0, 0)) ∧ w.heap.size < g) := ⟨(hB4.block _ (hg ▸ HP3.out.2)).trans HP3.out.1, hg ▸ HP3.out.2⟩
  have HB4 : Hid (Below w.heap.size w W4) := HB3.out.trans (hB4.mono (Nat.le_of_lt (hg ▸ HP3.out.2)))
  clear hW4 hB4 HT3 HB3 HP3 hg
  rw [hR.out]
  clear hR
  refine seq_hid fun R hR => ?_
  have HC4 : Hid (∀ j u, (pkC D)[j]? = some u → W4.cell? ((⟨g, 0, none⟩ : Addr).add j) = some u) := cells_of HD4.out.1
  go_wp2_with (refine step_ldat 29 _ rfl rfl ⟨g, 0, none⟩ (by rfl) (pkC D) _ Try.underlying29 rfl (by kernel_rfl) HC4.out ?_)
  refine (HI.out _).mono ?_
  rintro e w5 ⟨rfl, hb5⟩
  have HD5 : Hid (w5.heap[g]? = some (.cells (pkC D).toArray 29 (0, 0)) ∧ g < w5.heap.size) := ⟨(hb5.block _ HD4.out.2).trans HD4.out.1, Nat.lt_of_lt_of_le HD4.out.2 hb5.size⟩
  have HP5 : Hid (w5.heap[w.heap.size]? = some (.cells (pkC p).toArray 29 (0, 0)) ∧ w.heap.size < g) := ⟨(hb5.block _ (Nat.lt_trans HP4.out.2 HD4.out.2)).trans HP4.out.1, HP4.out.2⟩
  have HB5 : Hid (Below w.heap.size w w5) := HB4.out.trans (hb5.mono HB4.out.size)
  clear hb5 HC4 HB4 HP4 HD4
  go_wp2_with fail
  rw [hR.out]
  clear hR
  refine seq_hid fun R hR => ?_
  have HC5 : Hid (∀ j u, (pkC p)[j]? = some u → w5.cell? ((⟨w.heap.size, 0, none⟩ : Addr).add j) = some u) := cells_of HP5.out.1
  go_wp2_with (refine step_ldat 29 _ rfl rfl ⟨w.heap.size, 0, none⟩ (by rfl) (pkC p) _ Try.underlying29 rfl (by kernel_rfl) HC5.out ?_)
  refine (HJ.out _).mono ?_
  rintro e w6 ⟨rfl, hb6⟩
  have HD6 : Hid (w6.heap[g]? = some (.cells (pkC D).toArray 29 (0, 0)) ∧ g < w6.heap.size) := ⟨(hb6.block _ HD5.out.2).trans HD5.out.1, Nat.lt_of_lt_of_le HD5.out.2 hb6.size⟩
  have HP6 : Hid (w6.heap[w.heap.size]? = some (.cells (pkC p).toArray 29 (0, 0)) ∧ w.heap.size < g) := ⟨(hb6.block _ (Nat.lt_trans HP5.out.2 HD5.out.2)).trans HP5.out.1, HP5.out.2⟩
  have HB6 : Hid (Below w.heap.size w w6) := HB5.out.trans (hb6.mono HB5.out.size)
  clear hb6 HC5 HB5 HP5 HD5
  go_wp2_with fail
  rw [hR.out]
  clear hR
  refine seq_hid fun R hR => ?_
  have HC6 : Hid (∀ j u, (pkC p)[j]? = some u → w6.cell? ((⟨w.heap.size, 0, none⟩ : Addr).add j) = some u) := cells_of HP6.out.1
  go_wp2_with (refine step_ldat 29 _ rfl rfl ⟨w.heap.size, 0, none⟩ (by rfl) (pkC p) _ Try.underlying29 rfl (by kernel_rfl) HC6.out ?_)
  refine (HK.out _).mono ?_
  rintro e w7 ⟨rfl, hb7⟩
  have HD7 : Hid (w7.heap[g]? = some (.cells (pkC D).toArray 29 (0, 0)) ∧ g < w7.heap.size) := ⟨(hb7.block _ HD6.out.2).trans HD6.out.1, Nat.lt_of_lt_of_le HD6.out.2 hb7.size⟩
  have HP7 : Hid (w7.heap[w.heap.size]? = some (.cells (pkC p).toArray 29 (0, 0)) ∧ w.heap.size < g) := ⟨(hb7.block _ (Nat.lt_trans HP6.out.2 HD6.out.2)).trans HP6.out.1, HP6.out.2⟩
  have HB7 : Hid (Below w.heap.size w w7) := HB6.out.trans (hb7.mono HB6.out.size)
  clear hb7 HC6 HB6 HP6 HD6
  go_wp2_with fail
  rw [hR.out]
  clear hR
  refine seq_hid fun R hR => ?_
  have HC7 : Hid (∀ w', (∃ q : Regrown, w' = grow (redrawn w7 q.d) q.os) → ∀ j u, (pkC p)[j]? = some u → w'.cell? ((⟨w.heap.size, 0, none⟩ : Addr).add j) = some u) := by
    rintro _ ⟨q, rfl⟩ j u hu
    exact cell_regrown (cells_of HP7.out.1 j u hu) _ _
  have HE7 : Hid (∀ w', (∃ q : Regrown, w' = grow (redrawn w7 q.d) q.os) → ∀ j u, (pkC D)[j]? = some u → w'.cell? ((⟨g, 0, none⟩ : Addr).add j) = some u) := by
    rintro _ ⟨q, rfl⟩ j u hu
    exact cell_regrown (cells_of HD7.out.1 j u hu) _ _
  have C1 : Hid (∀ d os, Calls Try.prog 8 #[.string s] (grow (redrawn w7 d) os) fun e w'' => e = .returned (.int .u32 (kcF s)) ∧ ∃ p : Regrown, w'' = grow (redrawn w7 p.d) p.os) := fun d os => Calls.regrown_of ((kiss_any s _ Hs.out).mono fun _ _ ⟨h1, h2⟩ => ⟨h1, h2 ▸ Below.refl _ _⟩)
  have C2 : Hid (∀ d os, Calls Try.prog 9 #[.string s] (grow (redrawn w7 d) os) fun e w'' => e = .returned (.int .u32 (kcF s)) ∧ ∃ p : Regrown, w'' = grow (redrawn w7 p.d) p.os) := fun d os => Calls.regrown_of ((rkiss_any s _ Hs.out).mono fun _ _ ⟨h1, h2⟩ => ⟨h1, h2 ▸ Below.refl _ _⟩)
  have C3 : Hid (∀ d os, Calls Try.prog 11 #[.agg (pkC p).toArray, .int .u32 code, .int .i64 poll] (grow (redrawn w7 d) os) fun e w'' => e = .returned (.agg (pkC D).toArray) ∧ ∃ p : Regrown, w'' = grow (redrawn w7 p.d) p.os) := fun d os => Calls.regrown_of (HRe.out _)
  have C4 : Hid (∀ d os, Calls Try.prog 10 #[.agg (pkC D).toArray, .agg (pkC D).toArray] (grow (redrawn w7 d) os) fun e w'' => e = .returned (.bool true) ∧ ∃ p : Regrown, w'' = grow (redrawn w7 p.d) p.os) := fun d os => Calls.regrown_of (same_any D _)
  clear HP7 HD7 HI HJ HK HRe HDe
  generalize kcF s = kc at C1 C2
  by_cases h0 : code = 0
  · subst h0
    refine wp_seq ?_
    refine wp_region_quiet_below (by kernel_rfl) (by kernel_rfl) ?_
    repeat (first | (refine quiet_ldat (by rfl) 29 _ rfl ⟨g, 0, none⟩ (by rfl) (pkC D) _ Try.underlying29 rfl (by kernel_rfl) HE7.out ?_) | (refine quiet_ldat (by rfl) 29 _ rfl ⟨w.heap.size, 0, none⟩ (by rfl) (pkC p) _ Try.underlying29 rfl (by kernel_rfl) HC7.out ?_) | (quiet_step (first | exact C1.out _ _ | exact C2.out _ _ | exact C3.out _ _ | exact C4.out _ _)))
    refine wpQuiet_nil ?_
    intro _ hw'
    obtain ⟨⟨dq, osq⟩, hw''⟩ := hw'
    subst hw''
    rw [hR.out]
    go_wp2_with fail
    rw [hQ.out]
    exact bodyPost_ret (v := .bool true) (by simp [results, Try.results3]) rfl ⟨rfl, HB7.out.trans ((below_regrown w7 dq osq).mono HB7.out.size)⟩
  · refine wp_seq ?_
    refine wp_region_quiet_below (by kernel_rfl) (by kernel_rfl) ?_
    repeat (first | (refine quiet_ldat (by rfl) 29 _ rfl ⟨g, 0, none⟩ (by rfl) (pkC D) _ Try.underlying29 rfl (by kernel_rfl) HE7.out ?_) | (refine quiet_ldat (by rfl) 29 _ rfl ⟨w.heap.size, 0, none⟩ (by rfl) (pkC p) _ Try.underlying29 rfl (by kernel_rfl) HC7.out ?_) | (quiet_step (first | exact C1.out _ _ | exact C2.out _ _ | exact C3.out _ _ | exact C4.out _ _)))
    refine wpQuiet_nil ?_
    intro _ hw'
    obtain ⟨⟨dq, osq⟩, hw''⟩ := hw'
    subst hw''
    rw [hR.out]
    go_wp2_with fail
    rw [hQ.out]
    exact bodyPost_ret (v := .bool true) (by simp [results, Try.results3, h0]) rfl ⟨rfl, HB7.out.trans ((below_regrown w7 dq osq).mono HB7.out.size)⟩
end Go.Proofs.Ytmgphfdieekpdab
