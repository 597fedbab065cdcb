/- The reference's Heard, walked. -/
import Derived.Test.YtmgphfdieekpdaaMB
namespace Go.Proofs.Ytmgphfdieekpdaa
open Go Go.RowKit
def rnow (any : Bool) (now n : Int) : Int := if any = true then mxI now n else n
theorem tiRe : TI 67 76 5 40 := by
  refine ⟨Try.underlying67, ?_, by decide⟩
  have h : (Try.prog.info? 76).map (fun i => (i.zero, i.size, i.bytes)) = some (some (.agg #[.int .u32 0, .int .i64 0, .int .i64 0, .int .i64 0, .int .i64 0]), 5, 40) := by kernel_rfl
  cases hi : Try.prog.info? 76 with
  | none => rw [hi] at h; cases h
  | some i =>
    rw [hi] at h
    simp at h
    exact ⟨i, _, rfl, h.1, h.2.1, h.2.2, rfl⟩
theorem Rk.takeS {N k n c P : Nat} {w : World} {ao : Option Addr} {rows : List (List Value)} (h : Rk N w k (.slice ao n c) rows) (hP : P ≤ n) : Rk N w k (.slice ao P c) (rows.take P) := by
  obtain ⟨ao', c', hv, hc, hcell⟩ := h
  injection hv with h1 h2 h3
  subst h1 h2 h3
  refine ⟨ao, c, by rw [List.length_take, Nat.min_eq_left hP], by rw [List.length_take]; omega, fun i hi => ?_⟩
  rw [List.length_take] at hi
  obtain ⟨ad, g1, g2, g3⟩ := hcell i (by omega)
  refine ⟨ad, g1, g2, fun j u hu => g3 j u ?_⟩
  rw [List.getD_eq_getElem?_getD, List.getElem?_take_of_lt (by omega)] at hu
  rw [List.getD_eq_getElem?_getD]
  exact hu
theorem or_one5 (w : World) (B : Nat) (x0 x1 x2 x3 x4 : Int) (hB : B ≤ w.heap.size) : OR (w.alloc (.cells #[.int .u32 x0, .int .i64 x1, .int .i64 x2, .int .i64 x3, .int .i64 x4] 76)) B 76 5 (.slice (some ⟨w.heap.size, 0, none⟩) 1 1) [[.int .u32 x0, .int .i64 x1, .int .i64 x2, .int .i64 x3, .int .i64 x4]] := by
  refine ⟨⟨by simp, .inr ⟨w.heap.size, 1, _, rfl, hB, heap_alloc_new w _, Nat.le_refl _, by unfold maxLen; omega, rfl, by simp⟩⟩, fun r hr => ?_⟩
  simp at hr
  rw [hr]
  rfl
theorem hid_code {P : Program} {Q : Exit → Act → World → Prop} {c : Code} {K : Act → World → Prop} (h : ∀ a w, Code.wp P c Q a w → K a w) : ∃ R, Hid (R = c) ∧ ∀ a w, Code.wp P R Q a w → K a w := ⟨c, rfl, h⟩
theorem find_yes {ss : List Sn} {a : Int} {s : Sn} (h : ss.Pairwise (fun x y => x.addr ≠ y.addr)) (hm : s ∈ ss) (ha : s.addr = a) : ss.find? (fun x => decide (x.addr = a)) = some s := by
  induction ss with
  | nil => cases hm
  | cons x t ih =>
    obtain ⟨h1, h2⟩ := List.pairwise_cons.1 h
    rcases List.mem_cons.1 hm with rfl | hm'
    · simp [ha]
    · have h3 := h1 s hm'
      rw [List.find?_cons_of_neg (by simp; intro e; exact h3 (e.trans ha.symm)), ih h2 hm']
set_option maxRecDepth 20000 in
set_option maxHeartbeats 2000000 in
theorem rheard_any (B g : Nat) (lv : Value) (av mn now a n f : Int) (any lim kod : Bool) (t : Int) (ss : List Sn) (w : World) (hM : Rm w B g lv av mn now any ss) (hB : B ≤ w.heap.size) (a0 : 0 ≤ av) (a1 : av ≤ 10) (hlen : ss.length ≤ 32) (m0 : 0 ≤ mn) (m1 : mn ≤ 1024) (hN1 : rnow any now n ≤ 9223372036854775807) (hok : ∀ x ∈ ss, Sok (coS av) (rnow any now n) x) (hadr : ss.Pairwise (fun x y => x.addr ≠ y.addr)) (hl : lim = decide (bits BinOp.and IntKind.i64 f 32 ≠ 0)) (hk : kod = decide (bits BinOp.and IntKind.i64 f 64 ≠ 0)) :
    Calls Try.prog 20 #[.pointer (some ⟨g, 0, none⟩), .int .u32 a, .int .i64 n, .int .i64 f] w fun e w' => ∃ lv', e = .returned (.int .i64 (hdV ss a (coS av) mn (rnow any now n) lim kod)) ∧ Rm w' B g lv' av mn (rnow any now n) true (hdL ss a (coS av) mn (rnow any now n) t lim kod) ∧ Fm w w' g lv ∧ (∀ k, lv'.ownBlock = some k → lv.ownBlock = some k ∨ w.heap.size ≤ k) := by
  obtain ⟨N, hN⟩ : ∃ N, N = rnow any now n := ⟨_, rfl⟩
  rw [← hN] at hN1 hok ⊢
  have HK : Hid ((∀ x ∈ ss, Sok (coS av) N x) ∧ ss.Pairwise (fun x y => x.addr ≠ y.addr) ∧ lim = decide (bits BinOp.and IntKind.i64 f 32 ≠ 0) ∧ kod = decide (bits BinOp.and IntKind.i64 f 64 ≠ 0)) := ⟨hok, hadr, hl, hk⟩
  clear hok hadr hl hk
  obtain ⟨V, hV⟩ : ∃ V, V = hdV ss a (coS av) mn N lim kod := ⟨_, rfl⟩
  obtain ⟨SS, hSS⟩ : ∃ S, S = hdL ss a (coS av) mn N t lim kod := ⟨_, rfl⟩
  rw [← hV, ← hSS]
  have c0 := hM.blk.cell 0
  have c1 := hM.blk.cell 1
  have c2 := hM.blk.cell 2
  have c3 := hM.blk.cell 3
  have c4 := hM.blk.cell 4
  simp at c0 c1 c2 c3 c4
  have hfr : ∀ j, w.frozen? ⟨g, j, none⟩ = false := fun j => hM.blk.frozen j
  have HM : Hid (Rm w B g lv av mn now any ss) := hM
  have HV : Hid (V = hdV ss a (coS av) mn N lim kod ∧ SS = hdL ss a (coS av) mn N t lim kod) := ⟨hV, hSS⟩
  have HN : Hid (N = rnow any now n) := hN
  clear hM hV hSS hN
  go_enter Try.func20, Try.ntmps20
  refine post_hid fun Q hQ => ?_
  refine seq_hid fun R hR => ?_
  go_wp2
  rw [hR.out]
  clear hR
  refine seq_hid fun R hR => ?_
  suffices H : ∀ (u18 u19 u20 u21 u22 u23 u24 u25 u26 u27 u28 u29 u30 u31 u32 u33 u34 u35 u36 u37 : Value) (W : World), Rm W B g lv av mn N true ss → Fm w W g lv → Code.wp Try.prog R Q { tmps := #[.pointer (some ⟨g, 0, none⟩), .int .u32 a, .int .i64 n, .int .i64 f, undef, undef, undef, undef, .int .i64 0, undef, undef, undef, undef, undef, undef, undef, undef, undef, u18, u19, u20, u21, u22, u23, u24, u25, u26, u27, u28, u29, u30, u31, u32, u33, u34, u35, u36, u37, undef, undef, undef, undef, undef, undef, undef, undef, undef, undef, undef, undef, undef, undef, undef, undef, undef, undef, undef, undef, undef, undef, undef, undef, undef, undef, undef, undef, undef, undef, undef, undef, undef, undef, undef, undef, undef, undef, undef, undef, undef, undef, undef, undef, undef, undef, undef, undef, undef, undef, undef, undef, undef, undef, undef, undef, undef, undef, undef, undef, undef, undef, undef, undef, undef, undef, undef, undef, undef, undef, undef, undef, undef, undef, undef, undef, undef, undef, undef, undef, undef, undef, undef, undef, undef, undef, undef, undef, undef, undef, undef, undef, undef, undef, undef, undef, undef, undef, undef, undef, undef, undef, undef, undef, undef, undef, undef, undef, undef, undef, undef, undef, undef], defers := [] } W by
    have HH : Hid _ := H
    clear H
    rcases any with _ | _
    · have hn : N = n := by rw [HN.out]; rfl
      clear hR hQ
      go_wp2
      refine HH _ _ _ _ _ _ _ _ _ _ _ _ _ _ _ _ _ _ _ _ _ ?_ ?_
      · rw [hn]; exact HM.out.setNow n
      · exact ((Fm.refl w g lv).cell _).cell _
    · by_cases hlt : now < n
      · have hn : N = n := by rw [HN.out]; unfold rnow mxI; simp [hlt]
        clear hR hQ
        go_wp2
        refine HH _ _ _ _ _ _ _ _ _ _ _ _ _ _ _ _ _ _ _ _ _ ?_ ?_
        · rw [hn]; exact HM.out.setNow n
        · exact ((Fm.refl w g lv).cell _).cell _
      · have hn : N = now := by rw [HN.out]; unfold rnow mxI; simp [hlt]
        clear hR hQ
        go_wp2
        refine HH _ _ _ _ _ _ _ _ _ _ _ _ _ _ _ _ _ _ _ _ _ ?_ ?_
        · rw [hn]; exact HM.out
        · exact Fm.refl w g lv
  clear c0 c1 c2 c3 c4 hfr
  intro u18 u19 u20 u21 u22 u23 u24 u25 u26 u27 u28 u29 u30 u31 u32 u33 u34 u35 u36 u37 W2 hR2 hF2
  have c0 := hR2.blk.cell 0
  have c1 := hR2.blk.cell 1
  have c3 := hR2.blk.cell 3
  simp at c0 c1 c3
  obtain ⟨C, hC⟩ : ∃ C, C = coS av := ⟨_, rfl⟩
  have hb := coS_bd av a0 a1
  rw [← hC] at hb HV HK
  have hC2 : (2 : Int) ^ av.toNat = C := hC.symm
  have hC3 : IntKind.i64.wrap C = C := by rw [IntKind.wrap_i64]; omega
  have HR2 : Hid (Rm W2 B g lv av mn N true ss ∧ Fm w W2 g lv) := ⟨hR2, hF2⟩
  clear hC hR2 hF2
  obtain ⟨lo, lc, hlv, hlc, -⟩ := HR2.out.1.row.rk.en
  obtain ⟨L, hL⟩ : ∃ L, L = ss.length := ⟨_, rfl⟩
  have HL : Hid (L = ss.length) := hL
  have l1 : (L : Int) ≤ 32 := by omega
  rw [← hL] at hlv hlc
  have HFd : Hid (∀ u, Below W2.heap.size W2 u → Calls Try.prog 35 #[.pointer (some ⟨g, 0, none⟩), .int .u32 a] u fun e w' => ∃ s b, e = .returned (.tuple #[.agg (enL s).toArray, .bool b]) ∧ ((b = true ∧ s ∈ ss ∧ s.addr = a) ∨ (b = false ∧ s = zS ∧ ∀ x ∈ ss, x.addr ≠ a)) ∧ Below u.heap.size u w') := fun u hu => by
    have h := HR2.out.1.below hu
    have hc := h.blk.cell 0
    simp at hc
    exact rfind_any u.heap.size g lv ss a u (Nat.le_refl _) h.row.rk hc (by omega)
  clear hL hlen
  rw [hR.out]
  clear hR
  go_wp2_with fail
  refine (HFd.out _ (by first | exact Below.refl _ _ | exact (Below.refl _ _).alloc (Nat.le_refl _) _)).mono ?_
  rintro e w3 ⟨s, b, rfl, hsb, hb3⟩
  have H3 : Hid (((b = true ∧ s ∈ ss ∧ s.addr = a) ∨ (b = false ∧ s = zS ∧ ∀ x ∈ ss, x.addr ≠ a)) ∧ Rm w3 B g lv av mn N true ss ∧ Fm w w3 g lv) := ⟨hsb, HR2.out.1.below hb3, HR2.out.2.trans (Fm.of_below hb3) (fun k e => .inl e)⟩
  clear hsb hb3 HFd HR2 c0 c1 c3 hC2 hC3
  have c0 := H3.out.2.1.blk.cell 0
  simp at c0
  have hgl : g < w3.heap.size := H3.out.2.1.blk.lt
  subst hlv
  obtain ⟨y0, y1, y2, y3, y4, y5⟩ := s
  unfold enL
  simp only
  obtain ⟨W4, hW4⟩ : ∃ W, W = w3.alloc (.cells #[.int .u32 y0, .int .i64 y1, .int .i64 y2, .int .i64 y3, .int .i64 y4] 76) := ⟨_, rfl⟩
  have HW4 : Hid (Bk w3.heap.size W4 #[.int .u32 y0, .int .i64 y1, .int .i64 y2, .int .i64 y3, .int .i64 y4] 76 ∧ Below w3.heap.size w3 W4 ∧ w3.heap.size < W4.heap.size) := by rw [hW4]; exact ⟨Bk.new w3 _ _, (Below.refl _ _).alloc (Nat.le_refl _) _, by simp⟩
  have HW4e : Hid (W4 = w3.alloc (.cells #[.int .u32 y0, .int .i64 y1, .int .i64 y2, .int .i64 y3, .int .i64 y4] 76)) := hW4
  clear hW4
  go_wp2_with fail
  go_loopw [12, 58] (fun ev iv wr => ∃ (k M : Nat) (ro : Option Addr) (rc : Nat), iv = .int .i64 (k : Int) ∧ ev = .slice ro M rc ∧ (k : Int) ≤ L ∧ (M : Int) ≤ k ∧ (M : Int) ≤ rc ∧ Hid (OR wr W4.heap.size 76 5 (.slice ro M rc) (((ss.take k).filter (fun x => decide (x.addr ≠ a))).map enL) ∧ M = ((ss.take k).filter (fun x => decide (x.addr ≠ a))).length ∧ Below W4.heap.size W4 wr)) (fun _ iv _ => (L - intOf iv).toNat)
  case atStart => exact ⟨0, 0, none, 0, rfl, rfl, by omega, by omega, by omega, OR.nil _ _ _ _, rfl, by rw [HW4e.out]; exact Below.refl _ _⟩
  case round =>
    obtain ⟨k, M, ro, rc, rfl, rfl, hk, hMk, hMc, HI⟩ := hrel
    by_cases hlt : (k : Int) < L
    · have hkx : k < ss.length := by have := HL.out; omega
      obtain ⟨ao', cap', hv', -, hcell⟩ := H3.out.2.1.row.rk.en
      injection hv' with v1 v2 v3
      subst v1
      obtain ⟨ad, g1, g2, g3⟩ := hcell k hkx
      have hix : ∀ w, Sem.run Try.prog (Instr.indexAt 67 (.slice lo L lc) (.int .i64 (k : Int))) w = .ok (.pointer (some (ad.add (k * 5)))) w := ix_re L lc k g1 hlt
      have HBw : Hid (Below w3.heap.size w3 wr) := HW4.out.2.1.trans (HI.out.2.2.mono (Nat.le_of_lt HW4.out.2.2))
      have HC : Hid (∀ j u, (enL ss[k])[j]? = some u → wr.cell? ((ad.add (k * 5)).add j) = some u) := fun j u hu => by
        rw [HBw.out.cell (p := (ad.add (k * 5)).add j) (by rw [add_block, add_block]; exact g2)]
        exact g3 j u hu
      obtain ⟨E, hE⟩ : ∃ E, E = ss[k] := ⟨_, rfl⟩
      obtain ⟨A, hA0⟩ : ∃ A, A = ad.add (k * 5) := ⟨_, rfl⟩
      rw [← hA0] at hix HC
      rw [← hE] at HC
      have HT : Hid ((ss.take (k + 1)).filter (fun x => decide (x.addr ≠ a)) = (ss.take k).filter (fun x => decide (x.addr ≠ a)) ++ (if E.addr = a then [] else [E])) := by
        show _ = _
        rw [List.take_succ_eq_append_getElem hkx, List.filter_append, ← hE]
        by_cases h : E.addr = a <;> simp [h]
      clear hA0 g1 g2 g3 hE hcell v2 v3
      obtain ⟨x0, x1, x2, x3, x4, x5⟩ := E
      unfold enL at HC
      simp only at HC
      by_cases hxa : x0 = a
      · have HT2 : Hid ((ss.take (k + 1)).filter (fun x => decide (x.addr ≠ a)) = (ss.take k).filter (fun x => decide (x.addr ≠ a))) := by
          have h := HT.out
          rw [if_pos hxa, List.append_nil] at h
          exact h
        clear HT
        go_wp2_with (refine step_ldat 76 _ (by rfl) (by rfl) A (by rfl) [.int .u32 x0, .int .i64 x1, .int .i64 x2, .int .i64 x3, .int .i64 x4] _ Try.underlying76 (by rfl) ren_info ?_ ?_; exact HC.out)
        refine ⟨⟨k + 1, M, ro, rc, by go_num, rfl, by omega, by omega, by omega, ?_⟩, by simp [intOf]; omega⟩
        show _ ∧ _ ∧ _
        rw [HT2.out]
        exact ⟨HI.out.1.alloc _, HI.out.2.1, HI.out.2.2.alloc HI.out.2.2.size _⟩
      · have HT2 : Hid ((ss.take (k + 1)).filter (fun x => decide (x.addr ≠ a)) = (ss.take k).filter (fun x => decide (x.addr ≠ a)) ++ [⟨x0, x1, x2, x3, x4, x5⟩]) := by
          have h := HT.out
          rw [if_neg hxa] at h
          exact h
        clear HT
        obtain ⟨U, hU⟩ : ∃ U, (wr.alloc (.cells #[.int .u32 x0, .int .i64 x1, .int .i64 x2, .int .i64 x3, .int .i64 x4] 76)).alloc (.cells #[.int .u32 x0, .int .i64 x1, .int .i64 x2, .int .i64 x3, .int .i64 x4] 76) = U := ⟨_, rfl⟩
        have HR5 : Hid (Rk (wr.heap.size + 1 + 1) ((wr.alloc (.cells #[.int .u32 x0, .int .i64 x1, .int .i64 x2, .int .i64 x3, .int .i64 x4] 76)).alloc (.cells #[.int .u32 x0, .int .i64 x1, .int .i64 x2, .int .i64 x3, .int .i64 x4] 76)) 5 (.slice (some ⟨wr.heap.size + 1, 0, none⟩) 1 1) [[.int .u32 x0, .int .i64 x1, .int .i64 x2, .int .i64 x3, .int .i64 x4]]) := by
          have h := rk_one5 (wr.alloc (.cells #[.int .u32 x0, .int .i64 x1, .int .i64 x2, .int .i64 x3, .int .i64 x4] 76)) (.int .u32 x0) (.int .i64 x1) (.int .i64 x2) (.int .i64 x3) (.int .i64 x4) 76
          rw [size_alloc1] at h
          exact h
        have HOR : Hid (OR ((wr.alloc (.cells #[.int .u32 x0, .int .i64 x1, .int .i64 x2, .int .i64 x3, .int .i64 x4] 76)).alloc (.cells #[.int .u32 x0, .int .i64 x1, .int .i64 x2, .int .i64 x3, .int .i64 x4] 76)) W4.heap.size 76 5 (.slice ro M rc) (((ss.take k).filter (fun x => decide (x.addr ≠ a))).map enL)) := (HI.out.1.alloc _).alloc _
        have HBU : Hid (Below W4.heap.size W4 ((wr.alloc (.cells #[.int .u32 x0, .int .i64 x1, .int .i64 x2, .int .i64 x3, .int .i64 x4] 76)).alloc (.cells #[.int .u32 x0, .int .i64 x1, .int .i64 x2, .int .i64 x3, .int .i64 x4] 76))) := (HI.out.2.2.alloc HI.out.2.2.size _).alloc (Nat.le_trans HI.out.2.2.size (by simp)) _
        rw [hU] at HR5 HOR HBU
        have HU : Hid ((wr.alloc (.cells #[.int .u32 x0, .int .i64 x1, .int .i64 x2, .int .i64 x3, .int .i64 x4] 76)).alloc (.cells #[.int .u32 x0, .int .i64 x1, .int .i64 x2, .int .i64 x3, .int .i64 x4] 76) = U) := hU
        obtain ⟨rows, hrows⟩ : ∃ rows, rows = ((ss.take k).filter (fun x => decide (x.addr ≠ a))).map enL := ⟨_, rfl⟩
        rw [← hrows] at HOR
        have HLN : Hid (rows.length + 1 ≤ 34 ∧ rows = ((ss.take k).filter (fun x => decide (x.addr ≠ a))).map enL) := ⟨by rw [hrows, List.length_map, ← HI.out.2.1]; omega, hrows⟩
        clear hU hrows
        go_wp2_with (first | (refine step_ldat 76 _ (by rfl) (by rfl) A (by rfl) [.int .u32 x0, .int .i64 x1, .int .i64 x2, .int .i64 x3, .int .i64 x4] _ Try.underlying76 (by rfl) ren_info ?_ ?_; exact HC.out) | (rw [HU.out]; refine wpList_appk tiRe (by rfl) _ _ (by rfl) W4.heap.size (wr.heap.size + 1 + 1) (.slice ro M rc) (.slice (some ⟨wr.heap.size + 1, 0, none⟩) 1 1) rows [[.int .u32 x0, .int .i64 x1, .int .i64 x2, .int .i64 x3, .int .i64 x4]] (by rfl) (by rfl) HOR.out HR5.out (ra_oneS _) (by intro r hr; rw [List.mem_singleton] at hr; rw [hr]; rfl) (by intro r hr u hu; rw [List.mem_singleton] at hr; rw [hr] at hu; exact one5 _ _ _ _ _ u hu) (Nat.le_trans HLN.out.1 (by unfold maxLen; omega)) (Nat.le_trans (Nat.mul_le_mul_right 40 HLN.out.1) (by omega)) HBU.out.size ?_))
        intro v5 w5 ho5 hg5 hv5
        have hB5 : Below W4.heap.size W4 w5 := HBU.out.grown hg5 HBU.out.size (fun q hq => (HOR.out.row.lt q hq).1)
        have ho6 : OR w5 W4.heap.size 76 5 v5 (((ss.take (k + 1)).filter (fun x => decide (x.addr ≠ a))).map enL) := by
          rw [HT2.out, List.map_append, ← HLN.out.2]
          exact ho5
        obtain ⟨no6, nc6, hv6, hc6, -⟩ := ho6.rk
        rw [List.length_map] at hv6 hc6
        obtain ⟨N6, hN6⟩ : ∃ N6, N6 = ((ss.take (k + 1)).filter (fun x => decide (x.addr ≠ a))).length := ⟨_, rfl⟩
        rw [← hN6] at hv6 hc6
        have hNN : N6 = M + 1 := by
          have h1 := HI.out.2.1
          rw [hN6, HT2.out, List.length_append, ← h1]
          rfl
        subst hv6
        have H6 : Hid (OR w5 W4.heap.size 76 5 (.slice no6 N6 nc6) (((ss.take (k + 1)).filter (fun x => decide (x.addr ≠ a))).map enL) ∧ N6 = ((ss.take (k + 1)).filter (fun x => decide (x.addr ≠ a))).length ∧ Below W4.heap.size W4 w5) := ⟨ho6, hN6, hB5⟩
        clear ho5 hg5 hv5 hB5 ho6 hN6 HT2 HR5 HOR HBU HLN HI HU hix HC
        go_wp2_with fail
        exact ⟨⟨k + 1, N6, no6, nc6, by go_num, rfl, by omega, by omega, by omega, H6⟩, by simp [intOf]; omega⟩
    · have HO : Hid (OR wr W4.heap.size 76 5 (.slice ro M rc) ((ss.filter (fun x => decide (x.addr ≠ a))).map enL) ∧ M = (ss.filter (fun x => decide (x.addr ≠ a))).length ∧ Below w3.heap.size w3 wr) := by
        have hke : k = ss.length := by have := HL.out; omega
        have h := HI.out
        rw [hke, List.take_length] at h
        exact ⟨h.1, h.2.1, HW4.out.2.1.trans (h.2.2.mono (Nat.le_of_lt HW4.out.2.2))⟩
      have HE4 : Hid (Bk w3.heap.size wr #[.int .u32 y0, .int .i64 y1, .int .i64 y2, .int .i64 y3, .int .i64 y4] 76) := HW4.out.1.kept (HI.out.2.2.block _ HW4.out.2.2)
      have hw4 : w3.heap.size < W4.heap.size := HW4.out.2.2
      clear HI HW4 HW4e
      rcases b with _ | _
      · have hno : ∀ x ∈ ss, x.addr ≠ a := by
          rcases H3.out.1 with ⟨h, -⟩ | ⟨-, -, h⟩
          · cases h
          · exact h
        obtain ⟨P, hP⟩ : ∃ P : Nat, P = min 31 M := ⟨_, rfl⟩
        have hPI : (if (31 : Int) < M then 31 else (M : Int)) = P := by rw [hP]; split <;> omega
        have hmin : ∀ u, (Builtin.min_ #[3, 3] 3 #[.int .i64 (M : Int), .int .i64 31]).run Try.prog u = .ok (.int .i64 (P : Int)) u := fun u => by rw [← hPI]; exact run_mn _ _ u
        have p2 : (P : Int) ≤ rc := by omega
        have p3 : (0 : Int) ≤ P := by omega
        have HX : Hid (OR (wr.alloc (.cells #[.int .u32 a, .int .i64 N, .int .i64 N, .int .i64 1, .int .i64 C] 76)) wr.heap.size 76 5 (.slice (some ⟨wr.heap.size, 0, none⟩) 1 1) [[.int .u32 a, .int .i64 N, .int .i64 N, .int .i64 1, .int .i64 C]]) := or_one5 wr _ a N N 1 C (Nat.le_refl _)
        obtain ⟨rows, hrows⟩ : ∃ rows, rows = ((ss.filter (fun x => decide (x.addr ≠ a))).map enL).take P := ⟨_, rfl⟩
        have HY : Hid (Rk wr.heap.size (wr.alloc (.cells #[.int .u32 a, .int .i64 N, .int .i64 N, .int .i64 1, .int .i64 C] 76)) 5 (.slice ro P rc) rows ∧ Ra (.slice ro P rc) ∧ (∀ r ∈ rows, r.length = 5) ∧ (∀ r ∈ rows, ∀ u ∈ r, u.oneCell' = true) ∧ 1 + rows.length ≤ 34) := by
          have hlr : rows.length ≤ P := by rw [hrows, List.length_take]; omega
          refine ⟨?_, ?_, ?_, ?_, by omega⟩
          · rw [hrows]
            exact (HO.out.1.rk.takeS (by omega)).below ((Below.refl _ _).alloc (Nat.le_refl _) _) (Nat.le_refl _)
          · intro n' c' hh
            injection hh with h1 h2 h3
            have := HO.out.1.ra M c' (by rw [h1, h3])
            exact this
          · intro r hr
            rw [hrows] at hr
            obtain ⟨x, _, rfl⟩ := List.mem_map.1 (List.mem_of_mem_take hr)
            rfl
          · intro r hr u hu
            rw [hrows] at hr
            obtain ⟨x, _, rfl⟩ := List.mem_map.1 (List.mem_of_mem_take hr)
            exact one5 _ _ _ _ _ u hu
        have HZ : Hid (V = 0 ∧ SS.map enL = [[.int .u32 a, .int .i64 N, .int .i64 N, .int .i64 1, .int .i64 C]] ++ rows) := by
          have hv := HV.out
          unfold hdL hdV at hv
          rw [find_no hno] at hv
          refine ⟨hv.1, ?_⟩
          rw [hv.2, hrows, ← List.map_take]
          have e1 : (ss.filter (fun x => decide (x.addr ≠ a))).take P = (ss.filter (fun x => decide (x.addr ≠ a))).take 31 := by
            rw [hP]
            rcases Nat.le_total 31 M with h | h
            · rw [Nat.min_eq_left h]
            · rw [Nat.min_eq_right h, List.take_of_length_le (by have := HO.out.2.1; omega), List.take_of_length_le (by have := HO.out.2.1; omega)]
          rw [e1]
          rfl
        clear hno hP hPI hrows HV
        go_wp2_with (refine wpList_appk tiRe (by rfl) _ _ (by rfl) wr.heap.size wr.heap.size (.slice (some ⟨wr.heap.size, 0, none⟩) 1 1) (.slice ro P rc) [[.int .u32 a, .int .i64 N, .int .i64 N, .int .i64 1, .int .i64 C]] rows (by rfl) (by rfl) HX.out HY.out.1 HY.out.2.1 HY.out.2.2.1 HY.out.2.2.2.1 (Nat.le_trans HY.out.2.2.2.2 (by unfold maxLen; omega)) (Nat.le_trans (Nat.mul_le_mul_right 40 HY.out.2.2.2.2) (by omega)) (by simp) ?_)
        intro v5 w5 ho5 hg5 hv5
        have hglw : g < wr.heap.size := Nat.lt_of_lt_of_le hgl HO.out.2.2.size
        have hb5 : Below wr.heap.size wr w5 := ((Below.refl _ _).alloc (Nat.le_refl _) _).grown hg5 (by simp) (fun q hq => by simp [Value.ownBlock] at hq; omega)
        have hR5 : Rm w5 B g (.slice lo L lc) av mn N true ss := (H3.out.2.1.below HO.out.2.2).below hb5
        have hcg := hR5.blk.cell 0
        simp at hcg
        have hfg : w5.frozen? ⟨g, 0, none⟩ = false := hR5.blk.frozen 0
        have hown : ∀ q, v5.ownBlock = some q → wr.heap.size ≤ q := fun q hq => (ho5.row.lt q hq).1
        have HD : Hid (Rm (w5.setCell ⟨g, 0, none⟩ v5) B g v5 av mn N true SS ∧ Fm w (w5.setCell ⟨g, 0, none⟩ v5) g (.slice lo L lc) ∧ (∀ k, v5.ownBlock = some k → (Value.slice lo L lc).ownBlock = some k ∨ w.heap.size ≤ k)) := by
          have hsz : w.heap.size ≤ wr.heap.size := Nat.le_trans H3.out.2.2.size HO.out.2.2.size
          refine ⟨⟨by have := hR5.blk.set (j := 0) v5; simpa using this, ?_, H3.out.2.1.low⟩, ?_, fun q hq => .inr (Nat.le_trans hsz (hown q hq))⟩
          · rw [HZ.out.2]
            exact (ho5.mod (own_set w5 g 0 v5) (fun e => by have := hown g e; omega)).mono (Nat.le_trans hB hsz)
          · exact ((H3.out.2.2.trans (Fm.of_below HO.out.2.2) (fun k e => .inl e)).trans (Fm.of_below hb5) (fun k e => .inl e)).cell v5
        obtain ⟨vo, vc, hv6, -, -⟩ := ho5.rk
        subst hv6
        clear ho5 hg5 hv5 hb5 hR5 hown HX HY
        go_wp2_with fail
        rw [hQ.out]
        exact bodyPost_ret (v := .int .i64 0) (by simp [results, Try.results20]) rfl ⟨_, by rw [HZ.out.1], HD.out.1, HD.out.2.1, HD.out.2.2⟩
      · obtain ⟨hin, rfl⟩ : (⟨y0, y1, y2, y3, y4, y5⟩ : Sn) ∈ ss ∧ y0 = a := by
          rcases H3.out.1 with ⟨-, h1, h2⟩ | ⟨h, -⟩
          · exact ⟨h1, h2⟩
          · cases h
        obtain ⟨s0, s1, j0, j1, k0, k1⟩ := HK.out.1 _ hin
        simp only at s0 s1 j0 j1 k0 k1
        obtain ⟨A, hA⟩ : ∃ A, bits BinOp.and IntKind.i64 f 32 = A := ⟨_, rfl⟩
        obtain ⟨D, hD⟩ : ∃ D, bits BinOp.and IntKind.i64 f 64 = D := ⟨_, rfl⟩
        obtain ⟨G, hG⟩ : ∃ G, min (N - y2) 1099511627776 = G := ⟨_, rfl⟩
        obtain ⟨S, hS⟩ : ∃ S, S = y4 - min (N - y2) y4 := ⟨_, rfl⟩
        have hSm : (if 0 < y4 - G then y4 - G else 0) = S := by rw [hS, ← hG]; split <;> omega
        have g0 : 0 ≤ G := by omega
        have g1 : G ≤ 1099511627776 := by omega
        have q0 : 0 ≤ S := by omega
        have q1 : S ≤ y4 := by omega
        obtain ⟨K, hK⟩ : ∃ K, K = (if V = 0 then min (S + C) (8 * C) else S) := ⟨_, rfl⟩
        obtain ⟨C', hC'⟩ : ∃ C', C' = (if y3 < 2147483647 then y3 + 1 else y3) := ⟨_, rfl⟩
        obtain ⟨rows, hrows⟩ : ∃ rows, rows = (ss.filter (fun x => decide (x.addr ≠ y0))).map enL := ⟨_, rfl⟩
        have hv := HV.out
        unfold hdL hdV at hv
        rw [find_yes HK.out.2.1 hin rfl] at hv
        unfold haV haS at hv
        simp only at hv
        rw [← hS] at hv
        have hv1 := hv.1
        rw [← hv1, ← hK, ← hC'] at hv
        have HZ : Hid (SS.map enL = [[.int .u32 y0, .int .i64 y1, .int .i64 N, .int .i64 C', .int .i64 K]] ++ rows) := by
          show _ = _
          rw [hv.2, hrows]
          rfl
        have hV : V = jdG C mn S G lim kod := by
          rw [hv1]
          unfold jdG
          have e1 : (N - y2 < mn) ↔ (G < mn) := by omega
          simp only [e1]
        have hcs : (A = 0 ∧ V = 0 ∧ K = min (S + C) (8 * C)) ∨ (A ≠ 0 ∧ G < mn ∧ V = 1 ∧ K = S) ∨ (A ≠ 0 ∧ ¬ G < mn ∧ 8 * C < S + C ∧ D ≠ 0 ∧ V = 2 ∧ K = S) ∨ (A ≠ 0 ∧ ¬ G < mn ∧ 8 * C < S + C ∧ D = 0 ∧ V = 1 ∧ K = S) ∨ (A ≠ 0 ∧ ¬ G < mn ∧ S + C ≤ 8 * C ∧ V = 0 ∧ K = S + C) := by
          have hl := HK.out.2.2.1
          have hk := HK.out.2.2.2
          rw [hA] at hl
          rw [hD] at hk
          unfold jdG at hV
          by_cases hA0 : A = 0
          · subst hA0
            simp at hl
            subst hl
            simp at hV
            subst hV
            simp at hK
            exact .inl ⟨rfl, rfl, hK⟩
          · have hl2 : lim = true := by rw [hl]; simp [hA0]
            rw [hl2, if_neg (by decide)] at hV
            by_cases h2 : G < mn
            · rw [if_pos h2] at hV
              rw [hV, if_neg (by decide)] at hK
              exact .inr (.inl ⟨hA0, h2, hV, hK⟩)
            · rw [if_neg h2] at hV
              by_cases h3 : S + C ≤ 8 * C
              · rw [if_pos h3] at hV
                rw [hV, if_pos rfl] at hK
                exact .inr (.inr (.inr (.inr ⟨hA0, h2, h3, hV, by omega⟩)))
              · rw [if_neg h3] at hV
                by_cases hD0 : D = 0
                · have hk2 : kod = false := by rw [hk]; simp [hD0]
                  rw [hk2, if_neg (by decide)] at hV
                  rw [hV, if_neg (by decide)] at hK
                  exact .inr (.inr (.inr (.inl ⟨hA0, h2, by omega, hD0, hV, hK⟩)))
                · have hk2 : kod = true := by rw [hk]; simp [hD0]
                  rw [hk2, if_pos rfl] at hV
                  rw [hV, if_neg (by decide)] at hK
                  exact .inr (.inr (.inl ⟨hA0, h2, by omega, hD0, hV, hK⟩))
        have hR3 := H3.out.2.1.below HO.out.2.2
        have c2 := hR3.blk.cell 2
        simp at c2
        have hE0 := HE4.out.cell 0
        have hE1 := HE4.out.cell 1
        have hE2 := HE4.out.cell 2
        have hE3 := HE4.out.cell 3
        have hE4 := HE4.out.cell 4
        simp at hE0 hE1 hE2 hE3 hE4
        have hEf : ∀ j, wr.frozen? ⟨w3.heap.size, j, none⟩ = false := fun j => HE4.out.frozen j
        have hge : w3.heap.size ≠ g := by omega
        have hmax : ∀ u, (Builtin.max_ #[3, 3] 3 #[.int .i64 0, .int .i64 (y4 - G)]).run Try.prog u = .ok (.int .i64 S) u := fun u => by rw [← hSm]; exact run_mx _ _ u
        have hmin : ∀ u, (Builtin.min_ #[3, 3] 3 #[.int .i64 (S + C), .int .i64 (8 * C)]).run Try.prog u = .ok (.int .i64 (min (S + C) (8 * C))) u := fun u => by rw [show min (S + C) (8 * C) = (if 8 * C < S + C then 8 * C else S + C) by split <;> omega]; exact run_mn _ _ u
        have hlr : rows.length + 1 ≤ 34 := by rw [hrows, List.length_map, ← HO.out.2.1]; omega
        have hr5 : (∀ r ∈ rows, r.length = 5) ∧ (∀ r ∈ rows, ∀ u ∈ r, u.oneCell' = true) := by
          constructor
          · intro r hr
            rw [hrows] at hr
            obtain ⟨x, _, rfl⟩ := List.mem_map.1 hr
            rfl
          · intro r hr u hu
            rw [hrows] at hr
            obtain ⟨x, _, rfl⟩ := List.mem_map.1 hr
            exact one5 _ _ _ _ _ u hu
        have hOr : OR wr W4.heap.size 76 5 (.slice ro M rc) rows := by rw [hrows]; exact HO.out.1
        have hne : (Value.slice ro M rc).ownBlock ≠ some w3.heap.size := fun e => by have := (hOr.row.lt _ e).1; omega
        have hso : ∀ (u : World) (j : Nat) (x : Value), OR u W4.heap.size 76 5 (.slice ro M rc) rows → OR (u.setCell ⟨w3.heap.size, j, none⟩ x) W4.heap.size 76 5 (.slice ro M rc) rows := fun u j x h => h.mod (own_set u w3.heap.size j x) hne
        have HW : Hid (∃ W, Hid ((if y3 < 2147483647 then ((wr.setCell ⟨w3.heap.size, 2, none⟩ (.int .i64 N)).setCell ⟨w3.heap.size, 3, none⟩ (.int .i64 (y3 + 1))).setCell ⟨w3.heap.size, 4, none⟩ (.int .i64 K) else (wr.setCell ⟨w3.heap.size, 2, none⟩ (.int .i64 N)).setCell ⟨w3.heap.size, 4, none⟩ (.int .i64 K)) = W) ∧ Bk w3.heap.size W #[.int .u32 y0, .int .i64 y1, .int .i64 N, .int .i64 C', .int .i64 K] 76 ∧ OR W W4.heap.size 76 5 (.slice ro M rc) rows ∧ Below w3.heap.size wr W) := by
          by_cases hy3 : y3 < 2147483647
          · rw [if_pos hy3]
            rw [if_pos hy3] at hC'
            refine ⟨_, rfl, ?_, hso _ _ _ (hso _ _ _ (hso _ _ _ hOr)), (by repeat' (first | with_reducible exact Below.refl _ _ | with_reducible refine Below.setCell ?_ (by first | (simp; done) | (simp; omega) | omega) _ | with_reducible refine below_drewN ?_ _ | with_reducible refine Below.drew ?_ | with_reducible refine Below.alloc ?_ (by first | (simp; done) | (simp; omega) | omega) _))⟩
            have h := ((HE4.out.set (j := 2) (.int .i64 N)).set (j := 3) (.int .i64 (y3 + 1))).set (j := 4) (.int .i64 K)
            rw [hC']
            simpa using h
          · rw [if_neg hy3]
            rw [if_neg hy3] at hC'
            refine ⟨_, rfl, ?_, hso _ _ _ (hso _ _ _ hOr), (by repeat' (first | with_reducible exact Below.refl _ _ | with_reducible refine Below.setCell ?_ (by first | (simp; done) | (simp; omega) | omega) _ | with_reducible refine below_drewN ?_ _ | with_reducible refine Below.drew ?_ | with_reducible refine Below.alloc ?_ (by first | (simp; done) | (simp; omega) | omega) _))⟩
            have h := (HE4.out.set (j := 2) (.int .i64 N)).set (j := 4) (.int .i64 K)
            rw [hC']
            simpa using h
        obtain ⟨W, HWe, hWb, hWo, hWl⟩ := HW.out
        have HWb : Hid (∀ j u, ([.int .u32 y0, .int .i64 y1, .int .i64 N, .int .i64 C', .int .i64 K] : List Value)[j]? = some u → W.cell? ((⟨w3.heap.size, 0, none⟩ : Addr).add j) = some u) := fun j u hu => by
          have h := hWb.cell j
          rw [show ((⟨w3.heap.size, 0, none⟩ : Addr).add j) = ⟨w3.heap.size, j, none⟩ by rcases j with _ | j <;> simp [Addr.add], h, ← hu]
          simp
        have f0 := hWb.cell 0
        have f1 := hWb.cell 1
        have f2 := hWb.cell 2
        have f3 := hWb.cell 3
        have f4 := hWb.cell 4
        simp at f0 f1 f2 f3 f4
        have hcg0 : (W.alloc (.cells #[.int .u32 y0, .int .i64 y1, .int .i64 N, .int .i64 C', .int .i64 K] 76)).heap.size = W.heap.size + 1 := by simp
        have HX : Hid (OR (W.alloc (.cells #[.int .u32 y0, .int .i64 y1, .int .i64 N, .int .i64 C', .int .i64 K] 76)) W.heap.size 76 5 (.slice (some ⟨W.heap.size, 0, none⟩) 1 1) [[.int .u32 y0, .int .i64 y1, .int .i64 N, .int .i64 C', .int .i64 K]]) := or_one5 W _ y0 y1 N C' K (Nat.le_refl _)
        have HY : Hid (Rk W.heap.size (W.alloc (.cells #[.int .u32 y0, .int .i64 y1, .int .i64 N, .int .i64 C', .int .i64 K] 76)) 5 (.slice ro M rc) rows ∧ Ra (.slice ro M rc) ∧ (∀ r ∈ rows, r.length = 5) ∧ (∀ r ∈ rows, ∀ u ∈ r, u.oneCell' = true) ∧ 1 + rows.length ≤ 34) := ⟨hWo.rk.below ((Below.refl _ _).alloc (Nat.le_refl _) _) (Nat.le_refl _), hWo.ra, hr5.1, hr5.2, by omega⟩
        have HF : Hid (Rm W B g (.slice lo L lc) av mn N true ss ∧ Fm w W g (.slice lo L lc) ∧ g < W.heap.size ∧ w.heap.size ≤ W.heap.size) := by
          have hbW : Below w3.heap.size w3 W := HO.out.2.2.trans hWl
          have hf : Fm w W g (.slice lo L lc) := H3.out.2.2.trans (Fm.of_below hbW) (fun k e => .inl e)
          exact ⟨H3.out.2.1.below hbW, hf, Nat.lt_of_lt_of_le hgl hbW.size, hf.size⟩
        clear hWb hWo hWl HW hso hne hOr hr5 hlr hw4 hR3 hv hv1 hV hK HV hS HK hin hSm hrows c0 HM HN a1 a0 hlc hcg0 HO HE4 H3
        have hfin : ∀ v5 w5, OR w5 W.heap.size 76 5 v5 ([[.int .u32 y0, .int .i64 y1, .int .i64 N, .int .i64 C', .int .i64 K]] ++ rows) → Below W.heap.size W w5 → w5.cell? ⟨g, 0, none⟩ = some (.slice lo L lc) ∧ w5.frozen? ⟨g, 0, none⟩ = false ∧ ∃ vo vc, v5 = .slice vo (rows.length + 1) vc ∧ Hid (Rm (w5.setCell ⟨g, 0, none⟩ v5) B g v5 av mn N true SS ∧ Fm w (w5.setCell ⟨g, 0, none⟩ v5) g (.slice lo L lc) ∧ (∀ k, v5.ownBlock = some k → (Value.slice lo L lc).ownBlock = some k ∨ w.heap.size ≤ k)) := fun v5 w5 ho5 hb5 => by
          have hR5 : Rm w5 B g (.slice lo L lc) av mn N true ss := HF.out.1.below hb5
          have hcg := hR5.blk.cell 0
          simp at hcg
          have hown : ∀ q, v5.ownBlock = some q → W.heap.size ≤ q := fun q hq => (ho5.row.lt q hq).1
          obtain ⟨vo, vc, hv6, -, -⟩ := ho5.rk
          refine ⟨hcg, hR5.blk.frozen 0, vo, vc, by rw [hv6]; simp, ⟨by have := hR5.blk.set (j := 0) v5; simpa using this, ?_, HF.out.1.low⟩, ?_, fun q hq => .inr (Nat.le_trans HF.out.2.2.2 (hown q hq))⟩
          · rw [HZ.out]
            exact (ho5.mod (own_set w5 g 0 v5) (fun e => by have := hown g e; have := HF.out.2.2.1; omega)).mono (Nat.le_trans hB HF.out.2.2.2)
          · exact (HF.out.2.1.trans (Fm.of_below hb5) (fun k e => .inl e)).cell v5
        have HFin : Hid _ := hfin
        clear hfin HF HZ hB hgl
        rename_i K0 hK0
        obtain ⟨R0, hR0, hK1⟩ := hid_code hK0
        clear hK0
        go_wp2_with fail
        rw [hR0.out]
        clear hR0
        refine seq_hid fun R hR => ?_
        go_wp2_with fail
        rw [hR.out]
        clear hR
        refine seq_hid fun R hR => ?_
        go_wp2_with fail
        refine (rgap_any y2 N _ j0 j1 hN1).mono ?_
        rintro e w6 ⟨rfl, rfl⟩
        rw [hG]
        clear hG
        go_wp2_with fail
        rw [hR.out]
        clear hR
        refine seq_hid fun R hR => ?_
        go_wp2_with fail
        rw [hR.out]
        clear hR hmax
        refine seq_hid fun R hR => ?_
        go_wp2_with fail
        rw [hR.out]
        clear hR
        refine seq_hid fun R hR => ?_
        by_cases hy3 : y3 < 2147483647
        all_goals
          first | (rw [if_pos hy3] at HWe hC') | (rw [if_neg hy3] at HWe hC')
          go_wp2_with fail
          rw [hR.out]
          clear hR
          refine seq_hid fun R hR => ?_
          go_wp2_with fail
          rw [hR.out]
          clear hR
          refine seq_hid fun R hR => ?_
          rcases hcs with ⟨h1, rfl, rfl⟩ | ⟨h1, h2, rfl, rfl⟩ | ⟨h1, h2, h3, h4, rfl, rfl⟩ | ⟨h1, h2, h3, h4, rfl, rfl⟩ | ⟨h1, h2, h3, rfl, rfl⟩
          all_goals
            first | subst h1 | (have h1' : (A == 0) = false := by simpa using h1)
            try (first | subst h4 | (have h4' : (D == 0) = false := by simpa using h4))
            go_wp2_with fail
            rw [HWe.out, hR.out]
            clear hR HWe hE0 hE1 hE2 hE3 hE4 hEf c2 hmin hy3 hC'
        all_goals
          refine seq_hid fun R hR => ?_
          go_wp2_with (first | (refine step_ldat 76 _ (by rfl) (by rfl) ⟨w3.heap.size, 0, none⟩ (by rfl) _ _ Try.underlying76 (by rfl) ren_info ?_ ?_; exact HWb.out) | (refine wpList_appk tiRe (by rfl) _ _ (by rfl) W.heap.size W.heap.size (.slice (some ⟨W.heap.size, 0, none⟩) 1 1) (.slice ro M rc) _ rows (by rfl) (by rfl) HX.out HY.out.1 HY.out.2.1 HY.out.2.2.1 HY.out.2.2.2.1 (Nat.le_trans HY.out.2.2.2.2 (by unfold maxLen; omega)) (Nat.le_trans (Nat.mul_le_mul_right 40 HY.out.2.2.2.2) (by omega)) (by simp) ?_))
          intro v5 w5 ho5 hg5 hv5
          obtain ⟨hcg, hfg, vo, vc, rfl, HD⟩ := HFin.out v5 w5 ho5 (((Below.refl _ _).alloc (Nat.le_refl _) _).grown hg5 (by simp) (fun q hq => by simp [Value.ownBlock] at hq; omega))
          clear ho5 hg5 hv5 HX HY HFin
          go_wp2_with fail
          rw [hR.out]
          clear hR
          go_wp2_with fail
          rw [hQ.out]
          exact bodyPost_ret (by simp [results, Try.results20]) rfl ⟨_, rfl, HD.out.1, HD.out.2.1, HD.out.2.2⟩
end Go.Proofs.Ytmgphfdieekpdaa
