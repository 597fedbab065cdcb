/- told of the law: both memories tell the same. -/
import Derived.Test.YtmgphfdieekpdaaMD
import Derived.Lib.QuietBelow
namespace Go.Proofs.Ytmgphfdieekpdaa
open Go Go.RowKit Go.Sort
/-- a struct loaded whole, in a region that draws its order -/
theorem quiet_ldat {ops : Array Oper} {rest : List Oper} {o : Oper} {a : Act} {C : World → Prop} {Q : Act → Prop} (hw : Region.wanted o (yielded ops a.tmps) = true) (ty : TypeId) (x : Operand) (ho : o.op = .load ty x)
    (ad : Addr) (hx : a.eval x = .pointer (some ad)) (cs : List Value) (d : TypeDesc) (hu : Try.prog.underlying ty = some d) (hd : d.isRow = true) (hi : (Try.prog.info? ty).map (·.size) = some cs.length)
    (hc : ∀ w, C w → ∀ j u, cs[j]? = some u → w.cell? (ad.add j) = some u)
    (h : wpQuiet Try.prog ops C Q rest (a.put o.dst (.agg cs.toArray))) : wpQuiet Try.prog ops C Q (o :: rest) a := by
  unfold wpQuiet
  rw [if_pos hw]
  refine ⟨.agg cs.toArray, fun w hw => ?_, h⟩
  unfold Oper.quietAt execOp
  simp only [ho, hx, Instr.loadAt, Instr.sureAddr, Sem.run_bind, Sem.run_pure, Result.andThen_ok, run_loadVar_at w ad ty cs d (hc w hw) hu hd hi]
  exact ⟨rfl, rfl⟩
theorem adr0 (g n : Nat) : (⟨g, 0, none⟩ : Addr).add n = ⟨g, n, none⟩ := by rcases n with _ | n <;> simp [Addr.add]
def jkL : List Value := [.int .u32 1, .int .i64 0, .int .i64 0, .int .i64 0, .int .i64 (-7)]
set_option maxRecDepth 20000 in
set_option maxHeartbeats 2000000 in
theorem told_any (hS : SortOk) (B g : Nat) (sv : Value) (xs ss : List Sn) (cost mn now t : Int) (B2 h : Nat) (lv : Value) (av mn2 now2 : Int) (any : Bool) (a : Int) (w : World) (hM : Mm w B g sv cost mn now t xs) (hD : Rm w B2 h lv av mn2 now2 any ss) (hR : Rq cost now t xs ss) :
    Calls Try.prog 21 #[.pointer (some ⟨g, 0, none⟩), .pointer (some ⟨h, 0, none⟩), .int .u32 a] w fun e w' => e = .returned (.bool true) ∧ Below w.heap.size w w' := by
  have hlx : xs.length ≤ 32 := by rw [← hR.perm.length_eq]; exact hR.len
  have HM : Hid (Mm w B g sv cost mn now t xs ∧ Rm w B2 h lv av mn2 now2 any ss ∧ Rq cost now t xs ss ∧ SortOk) := ⟨hM, hD, hR, hS⟩
  have c0 := hD.blk.cell 0
  simp at c0
  obtain ⟨lo, lc, hlv, hlc, hlcell⟩ := hD.row.rk.en
  obtain ⟨L, hL⟩ : ∃ L, L = ss.length := ⟨_, rfl⟩
  have l1 : (L : Int) ≤ 32 := by have := hR.len; omega
  have HL : Hid (L = ss.length ∧ (∀ i (hi : i < ss.length), ∃ ad, lo = some ad ∧ ad.block < w.heap.size ∧ ∀ j u, (enL ss[i])[j]? = some u → w.cell? ((ad.add (i * 5)).add j) = some u)) := ⟨hL, hlcell⟩
  rw [← hL] at hlv hlc
  subst hlv
  have hhl : h < w.heap.size := hD.blk.lt
  have hLs : xs.length ≤ 32 := hlx
  have HLi : Hid (Calls Try.prog 23 #[.pointer (some ⟨g, 0, none⟩)] w fun e w' => ∃ (v : Value), e = .returned v ∧ OR w' w.heap.size 52 5 v (ss.map enL) ∧ Below w.heap.size w w') := by
    refine (list_any hS B g sv xs cost mn now t w hM hlx).mono ?_
    rintro e w' ⟨v, ys, rfl, hp, hs, ho, hb⟩
    rw [hR.list hp hs] at ho
    exact ⟨v, rfl, ho, hb⟩
  clear hM hD hR hS hL hlcell hlx
  go_enter Try.func21, Try.ntmps21
  refine post_hid fun Q hQ => ?_
  refine seq_hid fun R hR => ?_
  go_wp2_with fail
  rw [hR.out]
  clear hR
  refine seq_hid fun R hR => ?_
  go_wp2_with fail
  refine HLi.out.mono ?_
  rintro e w1 ⟨v1, rfl, ho1, hb1⟩
  obtain ⟨po, pc, hv1, hpc, -⟩ := ho1.rk.en
  rw [← HL.out.1] at hv1 hpc
  subst hv1
  have H1 : Hid (OR w1 w.heap.size 52 5 (.slice po L pc) (ss.map enL) ∧ Below w.heap.size w w1) := ⟨ho1, hb1⟩
  have d0 : w1.cell? ⟨h, 0, none⟩ = some (.slice lo L lc) := by rw [hb1.cell (p := ⟨h, 0, none⟩) hhl]; exact c0
  clear ho1 hb1 HLi c0
  go_wp2_with fail
  rw [hR.out]
  clear hR
  refine seq_hid fun R hR => ?_
  go_wp2_with fail
  rw [hR.out]
  clear hR
  refine seq_hid fun R hR => ?_
  go_wp2_with fail
  go_loopw [25] (fun iv wr => ∃ k : Nat, iv = .int .i64 (k : Int) ∧ (k : Int) ≤ L ∧ Hid (∃ rows : List (List Value), OR wr w.heap.size 52 5 (.slice po L pc) rows ∧ rows.length = L ∧ (∀ i (hi : i < ss.length), k ≤ i → rows.getD i [] = enL ss[i]) ∧ Below w.heap.size w wr)) (fun iv _ => (L - intOf iv).toNat)
  case atStart => exact ⟨0, rfl, by omega, _, H1.out.1, by rw [List.length_map]; exact HL.out.1.symm, (fun i hi _ => getD_map' enL ss i hi), H1.out.2⟩
  case round =>
    obtain ⟨k, rfl, hk, HI⟩ := hrel
    by_cases hlt : (k : Int) < L
    · have hkx : k < ss.length := by have := HL.out.1; omega
      obtain ⟨rows, ho, hrl, hrow, hb⟩ := HI.out
      obtain ⟨gp, cp, hf, -, hg1, hg2⟩ := ho.form (by omega)
      injection hf with v1 v2 v3
      subst v1
      subst v3
      obtain ⟨ad, g1, g2, g3⟩ := HL.out.2 k hkx
      have hix : ∀ w, Sem.run Try.prog (Instr.indexAt 55 (.slice (some ⟨gp, 0, none⟩) L pc) (.int .i64 (k : Int))) w = .ok (.pointer (some ⟨gp, k * 5, none⟩)) w := by rw [← adr0 gp (k * 5)]; exact ix_en L pc k rfl hlt
      have hiy : ∀ w, Sem.run Try.prog (Instr.indexAt 67 (.slice lo L lc) (.int .i64 (k : Int))) w = .ok (.pointer (some (ad.add (k * 5)))) w := ix_re L lc k g1 hlt
      have hrk := hrow k hkx (Nat.le_refl _)
      have HA : Hid (∀ w', (∃ q : Regrown, w' = grow (redrawn wr q.d) q.os) → ∀ j u, (enL ss[k])[j]? = some u → w'.cell? ((⟨gp, k * 5, none⟩ : Addr).add j) = some u) := by
        rintro _ ⟨q, rfl⟩ j u hu
        exact cell_regrown (ho.at k (by omega) j u (by rw [hrk]; exact hu)) _ _
      have HC : Hid (∀ w', (∃ q : Regrown, w' = grow (redrawn wr q.d) q.os) → ∀ j u, (enL ss[k])[j]? = some u → w'.cell? ((ad.add (k * 5)).add j) = some u) := by
        rintro _ ⟨q, rfl⟩ j u hu
        refine cell_regrown ?_ _ _
        rw [hb.cell (p := (ad.add (k * 5)).add j) (by rw [add_block, add_block]; exact g2)]
        exact g3 j u hu
      have d1 : wr.cell? ⟨h, 0, none⟩ = some (.slice lo L lc) := by
        have h0 := HM.out.2.1.blk.cell 0
        simp at h0
        rw [hb.cell (p := ⟨h, 0, none⟩) hhl]
        exact h0
      have HE : Hid (∀ d os, Calls Try.prog 37 #[.agg (enL ss[k]).toArray] (grow (redrawn wr d) os) fun e w'' => e = .returned (.agg (enL ss[k]).toArray) ∧ ∃ p : Regrown, w'' = grow (redrawn wr p.d) p.os) := fun d os => Calls.regrown_of (entry_any ss[k] _)
      obtain ⟨A, hA0⟩ : ∃ A, A = ad.add (k * 5) := ⟨_, rfl⟩
      rw [← hA0] at hiy HC
      obtain ⟨E, hE⟩ : ∃ E, E = ss[k] := ⟨_, rfl⟩
      rw [← hE] at HA HC HE
      have HO : Hid (OR wr w.heap.size 52 5 (.slice (some ⟨gp, 0, none⟩) rows.length pc) rows ∧ rows.length = L ∧ (∀ i (hi : i < ss.length), k ≤ i → rows.getD i [] = enL ss[i]) ∧ Below w.heap.size w wr ∧ w.heap.size ≤ gp) := ⟨by rw [hrl]; exact ho, hrl, hrow, hb, hg1⟩
      have d2 : ∀ d os, (grow (redrawn wr d) os).cell? ⟨h, 0, none⟩ = some (.slice lo L lc) := fun d os => cell_regrown d1 d os
      clear hA0 hE hrk g1 g2 g3 ho hrl hrow hb HI v2 d1
      obtain ⟨x0, x1, x2, x3, x4, x5⟩ := E
      unfold enL at HA HC HE
      simp only at HA HC HE
      go_wp2_with fail
      refine wp_region_quiet_below (by kernel_rfl) (by kernel_rfl) ?_
      repeat (first | (refine quiet_ldat (by rfl) 52 _ rfl ⟨gp, k * 5, none⟩ (by rfl) [.int .u32 x0, .int .i64 x1, .int .i64 x2, .int .i64 x3, .int .i64 x4] _ Try.underlying52 rfl (by kernel_rfl) HA.out ?_) | (refine quiet_ldat (by rfl) 76 _ rfl A (by rfl) [.int .u32 x0, .int .i64 x1, .int .i64 x2, .int .i64 x3, .int .i64 x4] _ Try.underlying76 rfl (by kernel_rfl) HC.out ?_) | (quiet_step (exact HE.out _ _)))
      refine wpQuiet_nil ?_
      intro _ hw'
      obtain ⟨⟨dq, osq⟩, hw''⟩ := hw'
      subst hw''
      have hbU : Below wr.heap.size wr (grow (redrawn wr dq) osq) := below_regrown wr dq osq
      have HU : Hid (OR (grow (redrawn wr dq) osq) w.heap.size 52 5 (.slice (some ⟨gp, 0, none⟩) rows.length pc) rows ∧ Below w.heap.size w (grow (redrawn wr dq) osq)) := ⟨HO.out.1.below hbU (Nat.le_refl _), HO.out.2.2.2.1.trans (hbU.mono HO.out.2.2.2.1.size)⟩
      clear hbU d2 HA HC HE hiy
      generalize grow (redrawn wr dq) osq = U at *
      go_wp2_with (refine wpList_stk (by rfl) 52 _ _ (by rfl) k jkL HU.out.1 en_info (by rfl) (by rfl) (by have := HO.out.2.1; omega) rfl (by intro u hu; exact one5 _ _ _ _ _ u hu) ?_)
      intro w7 ho7 hg7 hs7
      have H7 : Hid (∃ rows : List (List Value), OR w7 w.heap.size 52 5 (.slice (some ⟨gp, 0, none⟩) L pc) rows ∧ rows.length = L ∧ (∀ i (hi : i < ss.length), k + 1 ≤ i → rows.getD i [] = enL ss[i]) ∧ Below w.heap.size w w7) := by
        refine ⟨rows.set k jkL, by rw [← HO.out.2.1]; exact ho7, by rw [List.length_set]; exact HO.out.2.1, fun i hi hki => ?_, HU.out.2.grown hg7 HU.out.2.size (fun q hq => by injection hq with hq; have := HO.out.2.2.2.2; omega)⟩
        rw [List.getD_eq_getElem?_getD, List.getElem?_set_ne (by omega), ← List.getD_eq_getElem?_getD]
        exact HO.out.2.2.1 i hi (by omega)
      clear ho7 hg7 hs7 HU HO hix
      go_wp2_with fail
      exact ⟨⟨k + 1, by go_num, by omega, H7⟩, by simp [intOf]; omega⟩
    · obtain ⟨rows, -, -, -, hb⟩ := HI.out
      have HB : Hid (Below w.heap.size w wr) := hb
      clear HI hb
      have HF1 : Hid (∀ u, Below w.heap.size w u → Calls Try.prog 22 #[.pointer (some ⟨g, 0, none⟩), .int .u32 a] u fun e w' => ∃ s b, e = .returned (.tuple #[.agg (enL s).toArray, .bool b]) ∧ ((b = true ∧ s ∈ xs ∧ s.addr = a) ∨ (b = false ∧ s = zS ∧ ∀ x ∈ xs, x.addr ≠ a)) ∧ Below u.heap.size u w') := fun u hu => find_any B g sv xs cost mn now t a u (HM.out.1.below hu) hLs
      have HF2 : Hid (∀ u, Below w.heap.size w u → Calls Try.prog 35 #[.pointer (some ⟨h, 0, none⟩), .int .u32 a] u fun e w' => ∃ s b, e = .returned (.tuple #[.agg (enL s).toArray, .bool b]) ∧ ((b = true ∧ s ∈ ss ∧ s.addr = a) ∨ (b = false ∧ s = zS ∧ ∀ x ∈ ss, x.addr ≠ a)) ∧ Below u.heap.size u w') := fun u hu => by
        have h1 := HM.out.2.1.below hu
        have hc := h1.blk.cell 0
        simp at hc
        exact rfind_any u.heap.size h _ ss a u (Nat.le_refl _) h1.row.rk hc (by have := HL.out.1; omega)
      clear H1 d0 hhl hlc hpc
      go_wp2_with fail
      rw [hR.out]
      clear hR
      refine seq_hid fun R hR => ?_
      go_wp2_with fail
      refine (HF1.out _ HB.out).mono ?_
      rintro e w8 ⟨s, b, rfl, hsb, hb8⟩
      have H8 : Hid (((b = true ∧ s ∈ xs ∧ s.addr = a) ∨ (b = false ∧ s = zS ∧ ∀ x ∈ xs, x.addr ≠ a)) ∧ Below w.heap.size w w8) := ⟨hsb, HB.out.trans (hb8.mono HB.out.size)⟩
      clear hsb hb8 HB HF1
      obtain ⟨gx, hgx⟩ : ∃ gx, w8.heap.size = gx := ⟨_, rfl⟩
      obtain ⟨x0, x1, x2, x3, x4, x5⟩ := s
      unfold enL
      simp only
      go_wp2_with fail
      refine world_hid fun W9 hW9 => ?_
      have H9 : Hid (Bk gx W9 #[.int .u32 x0, .int .i64 x1, .int .i64 x2, .int .i64 x3, .int .i64 x4] 52 ∧ Below w.heap.size w W9) := by
        refine ⟨?_, ?_⟩
        · rw [hW9.out, ← hgx]; exact Bk.new w8 _ _
        · rw [hW9.out]; exact H8.out.2.alloc H8.out.2.size _
      clear hW9 hgx
      rw [hR.out]
      clear hR
      refine seq_hid fun R hR => ?_
      go_wp2_with fail
      refine (HF2.out _ H9.out.2).mono ?_
      rintro e w10 ⟨s', b', rfl, hsb', hb10⟩
      obtain ⟨hs1, hs2⟩ := HM.out.2.2.1.same H8.out.1 hsb'
      subst hs1
      subst hs2
      have H10 : Hid (Bk gx w10 #[.int .u32 x0, .int .i64 x1, .int .i64 x2, .int .i64 x3, .int .i64 x4] 52 ∧ Below w.heap.size w w10) := ⟨H9.out.1.kept (hb10.block _ H9.out.1.lt), H9.out.2.trans (hb10.mono H9.out.2.size)⟩
      clear hsb' hb10 HF2 H9 H8
      obtain ⟨gy, hgy⟩ : ∃ gy, w10.heap.size = gy := ⟨_, rfl⟩
      unfold enL
      simp only
      go_wp2_with fail
      refine world_hid fun W11 hW11 => ?_
      have H11 : Hid (Bk gx W11 #[.int .u32 x0, .int .i64 x1, .int .i64 x2, .int .i64 x3, .int .i64 x4] 52 ∧ Bk gy W11 #[.int .u32 x0, .int .i64 x1, .int .i64 x2, .int .i64 x3, .int .i64 x4] 76 ∧ Below w.heap.size w W11) := by
        have hbb : Below w10.heap.size w10 (w10.alloc (.cells #[.int .u32 x0, .int .i64 x1, .int .i64 x2, .int .i64 x3, .int .i64 x4] 76)) := (Below.refl _ _).alloc (Nat.le_refl _) _
        refine ⟨?_, ?_, ?_⟩
        · rw [hW11.out]; exact H10.out.1.kept (hbb.block _ H10.out.1.lt)
        · rw [hW11.out, ← hgy]; exact Bk.new w10 _ _
        · rw [hW11.out]; exact H10.out.2.alloc H10.out.2.size _
      clear hW11 hgy H10
      rw [hR.out]
      clear hR
      have HA : Hid (∀ w', (∃ q : Regrown, w' = grow (redrawn W11 q.d) q.os) → ∀ j u, ([.int .u32 x0, .int .i64 x1, .int .i64 x2, .int .i64 x3, .int .i64 x4] : List Value)[j]? = some u → w'.cell? ((⟨gx, 0, none⟩ : Addr).add j) = some u) := by
        rintro _ ⟨q, rfl⟩ j u hu
        exact cell_regrown (cells_of H11.out.1 j u hu) _ _
      have HC : Hid (∀ w', (∃ q : Regrown, w' = grow (redrawn W11 q.d) q.os) → ∀ j u, ([.int .u32 x0, .int .i64 x1, .int .i64 x2, .int .i64 x3, .int .i64 x4] : List Value)[j]? = some u → w'.cell? ((⟨gy, 0, none⟩ : Addr).add j) = some u) := by
        rintro _ ⟨q, rfl⟩ j u hu
        exact cell_regrown (cells_of H11.out.2.1 j u hu) _ _
      have HE : Hid (∀ d os, Calls Try.prog 37 #[.agg #[.int .u32 x0, .int .i64 x1, .int .i64 x2, .int .i64 x3, .int .i64 x4]] (grow (redrawn W11 d) os) fun e w'' => e = .returned (.agg #[.int .u32 x0, .int .i64 x1, .int .i64 x2, .int .i64 x3, .int .i64 x4]) ∧ ∃ p : Regrown, w'' = grow (redrawn W11 p.d) p.os) := fun d os => Calls.regrown_of (entry_any ⟨x0, x1, x2, x3, x4, x5⟩ _)
      refine wp_seq ?_
      refine wp_region_quiet_below (by kernel_rfl) (by kernel_rfl) ?_
      repeat (first | (refine quiet_ldat (by rfl) 52 _ rfl ⟨gx, 0, none⟩ (by rfl) [.int .u32 x0, .int .i64 x1, .int .i64 x2, .int .i64 x3, .int .i64 x4] _ Try.underlying52 rfl (by kernel_rfl) HA.out ?_) | (refine quiet_ldat (by rfl) 76 _ rfl ⟨gy, 0, none⟩ (by rfl) [.int .u32 x0, .int .i64 x1, .int .i64 x2, .int .i64 x3, .int .i64 x4] _ Try.underlying76 rfl (by kernel_rfl) HC.out ?_) | (quiet_step (exact HE.out _ _)))
      refine wpQuiet_nil ?_
      intro _ hw'
      obtain ⟨⟨dq, osq⟩, hw''⟩ := hw'
      subst hw''
      have HB : Hid (Below w.heap.size w (grow (redrawn W11 dq) osq)) := H11.out.2.2.trans ((below_regrown W11 dq osq).mono H11.out.2.2.size)
      go_wp2_with fail
      rw [hQ.out]
      exact bodyPost_ret (v := .bool true) (by simp [results, Try.results21]) rfl ⟨rfl, HB.out⟩
end Go.Proofs.Ytmgphfdieekpdaa
