/- ClusterShifted. -/
import Derived.Test.YtnjfmhabajcpoaaClZa
import Derived.Test.YtnjfmhabajcpoaaClPa
namespace Go.Proofs.Ytnjfmhabajcpoaa
open Go Go.RowKit Go.Sort
set_option linter.unusedVariables false
theorem run_bs0C (u : World) : (Instr.buildSlice 22 0 #[]).run Try.prog u = .ok (.slice (some ⟨u.heap.size, 0, none⟩) 0 0) (u.alloc (.cells #[] 25)) := run_bs0 u
theorem step_ap3 {t e e2 : TypeId} {k k2 by' : Nat} (T : TI t e k by') {w : World} {ops : Array Oper} {rest : List Oper} {o : Oper} {a : Act} {Q : Exit → Act → World → Prop} (hgd : o.guard = none) (s x : Operand)
    (ho : o.op = .call { callee := .builtin .append, args := #[s, x], argTypes := #[t, t] })
    (B g : Nat) (v v2 : Value) (r : List Value) (hs : a.eval s = v) (hx : a.eval x = .slice (some ⟨g, 0, none⟩) 1 1) (hlen : r.length = k) (h1 : ∀ u ∈ r, u.oneCell' = true) (w0 : World) (rows rows2 : List (List Value)) (hl : rows.length + 1 ≤ maxLen) (hby : (rows.length + 1) * by' ≤ 140737488355328) (hown : OR w0 B e k v rows) (hown2 : OR w0 B e2 k2 v2 rows2) (hd : Dj v v2) (hn : Nw w0 w g r.toArray e) (hbase : B ≤ w0.heap.size) (q : Nat) (hq : q < w0.heap.size) (hvq : v.ownBlock ≠ some q)
    (h : ∀ v' W, Hid (OR W B e k v' (rows ++ [r]) ∧ OR W B e2 k2 v2 rows2 ∧ Dj v' v2 ∧ Below B w0 W ∧ W.heap[q]? = w0.heap[q]? ∧ v'.ownBlock ≠ some q ∧ w0.heap.size ≤ W.heap.size) → wpList Try.prog ops Q rest (a.put o.dst v') W) : wpList Try.prog ops Q (o :: rest) a w := by
  have hs1 := hn.be.size
  refine wpList_appk T hgd s x ho B w.heap.size v _ rows [r] hs hx (hown.below hn.be (Nat.le_refl _)) (hn.rk hlen) (fun n c hh => by injection hh with hh; cases hh) (fun y hy => by simp at hy; rw [hy]; exact hlen) (fun y hy u hu => by simp at hy; subst hy; exact h1 u hu) hl hby (by omega) fun v' W h2 h3 h4 => ?_
  have o2 := hown2.below hn.be (Nat.le_refl _)
  refine h v' W ⟨h2, ⟨o2.row.kept h3 hd, o2.len⟩, ?_, (hn.be.mono hbase).trans (below_own h3 (by omega) hown.own), ?_, ?_, Nat.le_trans hs1 h3.size⟩
  · rcases h4 with h4 | h4
    · unfold Dj; rw [h4]; exact hd
    · cases hv : v2.ownBlock with
      | none => exact .inl hv
      | some b =>
        refine .inr ?_
        rw [hv, h4]
        have := (o2.ownlt b hv).2
        intro e
        injection e with e
        omega
  · rw [h3.block q (by omega) (Ne.symm hvq), hn.be.block q hq]
  · rcases h4 with h4 | h4
    · rw [h4]; exact hvq
    · rw [h4]; intro e; injection e with e; omega
theorem shf_ok {b : Int} {c : Cn} (hb : -2147483648 ≤ b ∧ b < 2147483648) (h : okC c) : okC (shf b c) := by
  have := tm_bd c.o
  exact ⟨h.id, ⟨by unfold shf; simp only; omega, by unfold shf; simp only; omega⟩, h.d, h.j, h.s⟩
theorem map_ok {b : Int} {l : List Cn} (hb : -2147483648 ≤ b ∧ b < 2147483648) (h : ∀ c ∈ l, okC c) : ∀ c ∈ l.map (shf b), okC c := by
  intro c hc
  obtain ⟨x, hx, rfl⟩ := List.mem_map.1 hc
  exact shf_ok hb (h x hx)
set_option maxRecDepth 20000 in
set_option maxHeartbeats 2000000 in
theorem ClusterShifted_row (v : Value) (n : Int) (l : List Cn) (W : World) (h : Rk W.heap.size W 7 v (l.map cnL)) (ok : ∀ c ∈ l, okC c) (hl : l.length ≤ maxLen) (hn : -2147483648 ≤ n ∧ n ≤ 2147483647) : Calls Try.prog 3 #[v, .int .i32 n] W fun e w' => e = .returned (.bool true) ∧ Below W.heap.size W w' := by
  obtain ⟨hn1, hn2⟩ := hn
  obtain ⟨ao, cap, hv, hcap, hr⟩ := cands_read h
  obtain ⟨m, hm⟩ : ∃ m, l.length = m := ⟨_, rfl⟩
  rw [hm] at hv
  subst hv
  have hm0 : (0 : Int) ≤ m := by omega
  have hmx : (m : Int) ≤ 9223372036854775807 := by unfold maxLen at hl; omega
  by_cases h0 : (m : Int) = 0
  · have h0b : ((m : Int) == 0) = true := by simpa using h0
    clear h hr hm hl ok hcap
    go_enter Try.func3, Try.ntmps3
    go_wp2_with fail
    all_goals
      go_ret
      exact ⟨rfl, Below.refl _ _⟩
  have h0b : ((m : Int) == 0) = false := by simpa using h0
  by_cases h16 : (16 : Int) < m
  · clear h hr hm hl ok hcap
    go_enter Try.func3, Try.ntmps3
    go_wp2_with fail
    all_goals
      go_ret
      exact ⟨rfl, Below.refl _ _⟩
  have HR : Hid (∀ w', Below W.heap.size W w' → ∀ (i : Nat) c, l[i]? = some c → ∃ ad, ao = some ad ∧ ∀ j u, (cnL c)[j]? = some u → w'.cell? ((ad.add (i * 7)).add j) = some u) := fun w' hb i c hc => by
    obtain ⟨ad, h1, h3, h2⟩ := hr w' (below_cells hb (Nat.le_refl _)) i c hc
    exact ⟨ad, h1, h2⟩
  have HN : Hid (l.length = m ∧ m ≤ 16 ∧ l ≠ [] ∧ ∀ c ∈ l, okC c) := ⟨hm, by omega, fun e => h0 (by rw [← hm, e]; rfl), ok⟩
  have HF := shifted n l (by omega) (by omega) HN.out.2.2.1
  obtain ⟨O1, hO1⟩ : ∃ O, cmO (l.map (shf 0)) = O := ⟨_, rfl⟩
  obtain ⟨J1, hJ1⟩ : ∃ J, cmJ (l.map (shf 0)) = J := ⟨_, rfl⟩
  obtain ⟨O2, hO2⟩ : ∃ O, cmO (l.map (shf n)) = O := ⟨_, rfl⟩
  rw [hO1, hO2, hJ1] at HF
  obtain ⟨hF1, hF2⟩ := HF
  have HC : Hid (∀ u w, OR w W.heap.size 25 7 u ((l.map (shf 0)).map cnL) → Calls Try.prog 9 #[u] w fun e w' => e = .returned (.tuple #[.int .i64 O1, .int .i64 J1]) ∧ Below w.heap.size w w') := fun u w ho => by
    rw [← hO1, ← hJ1]
    exact combine_any u _ w w.heap.size ho.rk (Nat.le_refl _) (by rw [List.length_map]; omega) (map_ok (by decide) ok)
  have HC2 : Hid (∀ u w, OR w W.heap.size 25 7 u ((l.map (shf n)).map cnL) → Calls Try.prog 9 #[u] w fun e w' => e = .returned (.tuple #[.int .i64 O2, .int .i64 J1]) ∧ Below w.heap.size w w') := fun u w ho => by
    rw [← hO2, hF2]
    exact combine_any u _ w w.heap.size ho.rk (Nat.le_refl _) (by rw [List.length_map]; omega) (map_ok (by omega) ok)
  have hO : wrap64 (O2 - O1) = n := by rw [hF1]; unfold wrap64; omega
  have hOw : IntKind.i64.wrap (O2 - O1) = n := by rw [hF1, IntKind.wrap_i64]; omega
  have hnw : IntKind.i64.wrap n = n := by rw [IntKind.wrap_i64]; omega
  have hm2 : (m : Int) ≤ 16 := by omega
  clear h hr hm hl ok hcap hO1 hO2 hJ1 hF2 hmx
  go_enter Try.func3, Try.ntmps3
  refine post_hid fun Q hQ => ?_
  go_wp2_with fail
  go_loopw [5, 6, 7, 8] (fun v5 v6 i _ wr => ∃ (k : Nat), i = .int .i64 k ∧ (k : Int) ≤ m ∧ Hid (OR wr W.heap.size 25 7 v5 (((l.take k).map (shf 0)).map cnL) ∧ OR wr W.heap.size 25 7 v6 (((l.take k).map (shf n)).map cnL) ∧ Dj v5 v6 ∧ Below W.heap.size W wr)) (fun _ _ i _ _ => m - (intOf i).toNat)
  case atStart =>
    refine ⟨0, rfl, by omega, ⟨(OR.fresh W W.heap.size _ _ (Nat.le_refl _)).alloc _, ?_, .inr ?_, ((Below.refl _ _).alloc (Nat.le_refl _) _).alloc (by simp) _⟩⟩
    · have := OR.fresh (W.alloc (.cells #[] 25)) W.heap.size 25 7 (by simp)
      simpa using this
    · simp [Value.ownBlock]
  case round =>
    obtain ⟨k, rfl, hk, HB⟩ := hrel
    obtain ⟨v5, hv5⟩ : ∃ v5, v5 = u5 := ⟨_, rfl⟩
    obtain ⟨v6, hv6⟩ : ∃ v6, v6 = u6 := ⟨_, rfl⟩
    subst hv5 hv6
    by_cases hlt : (k : Int) < m
    · obtain ⟨c, hc⟩ : ∃ c, l[k]? = some c := ⟨_, List.getElem?_eq_getElem (by have := HN.out; omega)⟩
      obtain ⟨ad, g1, g3⟩ := HR.out wr HB.out.2.2.2 k c hc
      have hix := ix_C m cap k g1 hlt
      have HS : Hid (∀ j u, (cnL c)[j]? = some u → wr.cell? ((ad.add (k * 7)).add j) = some u) := g3
      have HK : Hid (l[k]? = some c) := hc
      have HLn : Hid ((((l.take k).map (shf 0)).map cnL).length ≤ 16 ∧ (((l.take k).map (shf n)).map cnL).length ≤ 16) := by
        have h1 := HN.out
        have h2 := List.length_take_le k l
        simp only [List.length_map, List.length_take]
        exact ⟨by omega, by omega⟩
      obtain ⟨X, hX⟩ : ∃ X, c.o.tmod 1125899906842624 = X := ⟨_, rfl⟩
      have hXb := tm_bd c.o
      rw [hX] at hXb
      obtain ⟨hX1, hX2⟩ := hXb
      obtain ⟨Y, hY⟩ : ∃ Y, X + n = Y := ⟨_, rfl⟩
      have hYw : IntKind.i64.wrap Y = Y := by rw [IntKind.wrap_i64]; omega
      have HE1 : Hid ((cnL c).set 1 (.int .i64 X) = cnL (shf 0 c)) := by
        have e : c.o.tmod 1125899906842624 + 0 = X := by omega
        show (cnL c).set 1 (.int .i64 X) = cnL (shf 0 c)
        simp [shf, cnL, e]
      have HE2 : Hid ((cnL (shf 0 c)).set 1 (.int .i64 Y) = cnL (shf n c)) := by
        have e : c.o.tmod 1125899906842624 + n = Y := by omega
        show (cnL (shf 0 c)).set 1 (.int .i64 Y) = cnL (shf n c)
        simp [shf, cnL, e]
      have HE3 : Hid ((shf 0 c).o = X) := by show c.o.tmod 1125899906842624 + 0 = X; omega
      clear g1 g3 hc
      go_upto_region 9 with (first
        | (refine step_ldat 25 _ rfl rfl (ad.add (k * 7)) (by rfl) (cnL c) _ Try.underlying25 rfl (by kernel_rfl) HS.out ?_)
        | (refine step_alL (by rfl) 25 rfl (cnL zCn).toArray (fun u => by kernel_rfl) ?_; intro w3 g H3)
        | (refine step_stL (by rfl) _ _ rfl g (cnL c).toArray (by rfl) (by rfl) (cnL zCn).toArray (by kernel_rfl) (by kernel_rfl) (by kernel_rfl) H3.out.bk ?_; intro w4 H4))
      have H5 : Hid (Below wr.heap.size wr w4 ∧ wr.heap.size ≤ g ∧ Bk g w4 (cnL c).toArray 25) :=
        ⟨H4.out.below H3.out.be H3.out.be.size (Nat.le_of_eq H3.out.at'.symm), Nat.le_of_eq H3.out.at'.symm, H4.out.bk⟩
      have q1 : w4.cell? ⟨g, 1, none⟩ = some (.int .i64 c.o) := H5.out.2.2.cell 1
      clear H3 H4 HS hix
      go_upto_region 10 with (refine step_st1 (T := 25) (by rfl) _ _ rfl g 1 (.int .i64 X) (by rfl) (by rfl) rfl (by kernel_rfl) rfl (cnL c) (Nat.lt_of_lt_of_eq (by decide) (cnL_len _).symm) H5.out.2.2 ?_; intro w5 H6)
      have H7 : Hid (OR w5 W.heap.size 25 7 v5 (((l.take k).map (shf 0)).map cnL) ∧ OR w5 W.heap.size 25 7 v6 (((l.take k).map (shf n)).map cnL) ∧ Below W.heap.size W w5 ∧ Bk g w5 (cnL (shf 0 c)).toArray 25 ∧ v5.ownBlock ≠ some g ∧ v6.ownBlock ≠ some g ∧ W.heap.size ≤ g ∧ g < w5.heap.size) := by
        have hb := H6.out.below H5.out.1 H5.out.1.size H5.out.2.1
        have h2 := HB.out.2.2.2.size
        have h3 := H5.out.2.1
        have h6 := H6.out.bk
        rw [HE1.out] at h6
        exact ⟨HB.out.1.below hb (Nat.le_refl _), HB.out.2.1.below hb (Nat.le_refl _), below_thru HB.out.2.2.2 hb, h6, fun e => by have := (HB.out.1.ownlt g e).2; omega, fun e => by have := (HB.out.2.1.ownlt g e).2; omega, by omega, h6.lt⟩
      have HSc : Hid (∀ j u, (cnL (shf 0 c))[j]? = some u → w5.cell? ((⟨g, 0, none⟩ : Addr).add j) = some u) := cells_of (l := cnL (shf 0 c)) H7.out.2.2.2.1
      have HDj := HB.out.2.2.1
      clear H5 H6 q1
      go_upto_region 11 with (first
        | (refine step_ldat 25 _ rfl rfl ⟨g, 0, none⟩ (by rfl) (cnL (shf 0 c)) _ Try.underlying25 rfl (by kernel_rfl) HSc.out ?_)
        | (refine step_bsL (by rfl) 22 25 _ rfl (.agg (cnL (shf 0 c)).toArray) (cnL (shf 0 c)) (by rfl) (run_bsC (shf 0 c)) ?_; intro w6 g6 H8)
        | (at_builtin; refine step_ap3 tiC rfl _ _ rfl W.heap.size g6 v5 v6 (cnL (shf 0 c)) (by rfl) (by rfl) rfl (cnL_one _) w5 _ _ ?_ ?_ H7.out.1 H7.out.2.1 HDj H8.out H7.out.2.2.1.size g H7.out.2.2.2.2.2.2.2 H7.out.2.2.2.2.1 ?_; (have := HLn.out.1; simp only [maxLen]; omega); (have := HLn.out.1; omega); intro v7 w7 H9))
      have HG : Hid (Bk g w7 (cnL (shf 0 c)).toArray 25) := H7.out.2.2.2.1.kept H9.out.2.2.2.2.1
      have q2 : w7.cell? ⟨g, 1, none⟩ = some (.int .i64 X) := by rw [← HE3.out]; exact HG.out.cell 1
      clear HSc H8
      go_upto_region 12 with (refine step_st1 (T := 25) (by rfl) _ _ rfl g 1 (.int .i64 Y) (by rfl) (by rfl) rfl (by kernel_rfl) rfl (cnL (shf 0 c)) (Nat.lt_of_lt_of_eq (by decide) (cnL_len _).symm) HG.out ?_; intro w8 H10)
      have H11 : Hid (OR w8 W.heap.size 25 7 v7 ((((l.take k).map (shf 0)).map cnL) ++ [cnL (shf 0 c)]) ∧ OR w8 W.heap.size 25 7 v6 (((l.take k).map (shf n)).map cnL) ∧ Below W.heap.size W w8 ∧ Bk g w8 (cnL (shf n c)).toArray 25) := by
        have h6 := H10.out.bk
        rw [HE2.out] at h6
        have hbl : ∀ b, b ≠ g → b < w7.heap.size → w8.heap[b]? = w7.heap[b]? := fun b hb hb2 => H10.out.gr.block b hb2 (fun e => hb (Option.some.inj e))
        have hb1 := H7.out.2.2.1.trans H9.out.2.2.2.1
        refine ⟨H9.out.1.keep fun b hb => hbl b (fun e => H9.out.2.2.2.2.2.1 (by rw [hb, e])) (H9.out.1.ownlt b hb).2, H9.out.2.1.keep fun b hb => hbl b (fun e => H7.out.2.2.2.2.2.1 (by rw [hb, e])) (H9.out.2.1.ownlt b hb).2, H10.out.below hb1 hb1.size H7.out.2.2.2.2.2.2.1, h6⟩
      have HSd : Hid (∀ j u, (cnL (shf n c))[j]? = some u → w8.cell? ((⟨g, 0, none⟩ : Addr).add j) = some u) := cells_of (l := cnL (shf n c)) H11.out.2.2.2
      have HDj2 := H9.out.2.2.1
      clear H10 HG
      go_wp2_with (first
        | (refine step_ldat 25 _ rfl rfl ⟨g, 0, none⟩ (by rfl) (cnL (shf n c)) _ Try.underlying25 rfl (by kernel_rfl) HSd.out ?_)
        | (refine step_bsL (by rfl) 22 25 _ rfl (.agg (cnL (shf n c)).toArray) (cnL (shf n c)) (by rfl) (run_bsC (shf n c)) ?_; intro w9 g9 H12)
        | (at_builtin; refine step_ap2 tiC rfl _ _ rfl W.heap.size g9 v6 v7 (cnL (shf n c)) (by rfl) (by rfl) rfl (cnL_one _) w8 _ _ ?_ ?_ H11.out.2.1 H11.out.1 HDj2.symm H12.out H11.out.2.2.1.size ?_; (have := HLn.out.2; simp only [maxLen]; omega); (have := HLn.out.2; omega); intro v10 w10 H13))
      go_roundw
      case rel =>
        have e : ∀ b : Int, ((l.take (k + 1)).map (shf b)).map cnL = ((l.take k).map (shf b)).map cnL ++ [cnL (shf b c)] := fun b => by
          rw [take_snoc HK.out, List.map_append, List.map_append]; rfl
        refine ⟨k + 1, by go_num, by omega, ?_, ?_, H13.out.2.2.1.symm, H11.out.2.2.1.trans H13.out.2.2.2⟩
        · rw [e]; exact H13.out.2.1
        · rw [e]; exact H13.out.1
      case measure => simp [intOf]; omega
    · have hkn : k = m := by omega
      subst hkn
      have HZ : Hid (l.take k = l) := List.take_of_length_le (by rw [HN.out.1]; exact Nat.le_refl _)
      have HX : Hid (OR wr W.heap.size 25 7 v5 ((l.map (shf 0)).map cnL) ∧ OR wr W.heap.size 25 7 v6 ((l.map (shf n)).map cnL) ∧ Below W.heap.size W wr) := by
        have h1 := HB.out
        rw [HZ.out] at h1
        exact ⟨h1.1, h1.2.1, h1.2.2.2⟩
      clear HB
      go_upto_region 14 with (go_at_call 9; refine (HC.out _ wr HX.out.1).mono ?_; rintro e w2 ⟨rfl, h2⟩)
      have HY : Hid (OR w2 W.heap.size 25 7 v6 ((l.map (shf n)).map cnL) ∧ Below W.heap.size W w2) := ⟨HX.out.2.1.below h2 (Nat.le_refl _), below_thru HX.out.2.2 h2⟩
      clear h2 HX HC
      go_upto_region 15 with (go_at_call 9; refine (HC2.out _ w2 HY.out.1).mono ?_; rintro e w3 ⟨rfl, h3⟩)
      go_wp2_with fail
      rw [hQ.out]
      go_ret
      refine ⟨?_, below_thru HY.out.2 h3⟩
      rfl
end Go.Proofs.Ytnjfmhabajcpoaa
