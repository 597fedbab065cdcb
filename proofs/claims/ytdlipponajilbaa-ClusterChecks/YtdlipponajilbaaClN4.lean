/- ClusterChecks. -/
import Derived.Test.YtdlipponajilbaaClC0
import Derived.Test.YtdlipponajilbaaClC1
import Derived.Test.YtdlipponajilbaaAs
namespace Go.Proofs.Ytdlipponajilbaa
open Go Go.RowKit Go.Sort
set_option linter.unusedVariables false
set_option linter.unusedVariables false
set_option maxRecDepth 20000 in
theorem eq_rs (r : Rs4) (u : World) : (binOp .eql 35 (.agg (rsL r).toArray) (.agg (rsL r).toArray)).run Try.prog u = .ok (.bool true) u := by
  obtain ⟨a, b, c, d, e⟩ := r
  unfold rsL
  go_simp
/-- rows that the call has made: where they lie -/
theorem or_some {w : World} {B : Nat} {e : TypeId} {k : Nat} {ao : Option Addr} {n cap : Nat} {rows : List (List Value)} (h : OR w B e k (.slice ao n cap) rows) (h0 : 0 < n) : ∃ g, ao = some ⟨g, 0, none⟩ ∧ B ≤ g ∧ g < w.heap.size := by
  rcases h.row.2 with ⟨e0, e1⟩ | ⟨g, cap', cur, e0, hb, hg, _⟩
  · injection e0 with _ e2 _
    omega
  · injection e0 with e1 _ _
    refine ⟨g, e1, hb, ?_⟩
    rcases Nat.lt_or_ge g w.heap.size with h' | h'
    · exact h'
    · rw [Array.getElem?_eq_none h'] at hg; cases hg
set_option maxRecDepth 20000 in
set_option maxHeartbeats 1000000 in
theorem few_ra (v : Value) (l : List Cn) (w : World) (N : Nat) (h : Rk N w 7 v (l.map cnL)) (hl : l.length ≤ maxLen) (hra : Ra v) : Calls Try.prog 5 #[v] w fun e w' => ∃ u, e = .returned u ∧ Hid (Rk N w 7 u ((l.take 300).map cnL) ∧ Ra u) ∧ w' = w := by
  obtain ⟨ao, cap, hv, hcap⟩ := rk_form h
  obtain ⟨n, hn⟩ : ∃ n, l.length = n := ⟨_, rfl⟩
  rw [hn] at hv hl hcap
  subst hv
  obtain ⟨m, hm⟩ : ∃ m : Nat, m = min n 300 := ⟨_, rfl⟩
  have hmin : min (n : Int) 300 = (m : Int) := by omega
  have hT0 : l.take m = l.take 300 := by rw [hm, ← hn]; exact take_300 l
  cases ao with
  | none =>
    have hc0 := hra _ _ rfl
    subst hc0
    have hn0 : n = 0 := by omega
    subst hn0
    have hm0 : m = 0 := by omega
    subst hm0
    have HK : Hid (Rk N w 7 (.slice none 0 0) ((l.take 300).map cnL) ∧ Ra (.slice none 0 0)) := ⟨by rw [List.length_eq_zero_iff.1 hn] at h ⊢; exact h, fun a b e => by injection e with _ _ e; exact e.symm⟩
    clear h hl hcap hn hm hra hT0
    go_enter Try.func5, Try.ntmps5
    refine post_hid fun Q hQ => ?_
    go_wp2_with fail
    rw [hQ.out]
    go_ret
    exact ⟨_, rfl, HK.out, rfl⟩
  | some ad =>
    obtain ⟨ao1, cap1, hrun, hk1, hne, _⟩ := csl_take h m (by omega)
    rw [hT0] at hk1
    have HK : Hid (Rk N w 7 (.slice ao1 m cap1) ((l.take 300).map cnL) ∧ Ra (.slice ao1 m cap1)) := ⟨hk1, fun a b e => by injection e with e _ _; exact absurd e (hne (by simp))⟩
    clear h hl hcap hn hm hk1 hT0 hne hra
    go_enter Try.func5, Try.ntmps5
    refine post_hid fun Q hQ => ?_
    go_wp2_with fail
    rw [hQ.out]
    go_ret
    exact ⟨_, rfl, HK.out, rfl⟩
theorem step_ldatW {ops : Array Oper} {rest : List Oper} {op : Oper} {a : Act} {w : World} {Q : Exit → Act → World → Prop} (hw : Region.wanted op (yielded ops a.tmps) = true) (ty : TypeId) (x : Operand) (ho : op.op = .load ty x)
    (ad : Addr) (hx : a.eval x = .pointer (some ad)) (cs : List Value) (d : TypeDesc) (hu : Try.prog.underlying ty = some d) (hd : d.isRow = true) (hi : (Try.prog.info? ty).map (·.size) = some cs.length)
    (hc : ∀ j u, cs[j]? = some u → w.cell? (ad.add j) = some u)
    (h : wpList Try.prog ops Q rest (a.put op.dst (.agg cs.toArray)) w) : wpList Try.prog ops Q (op :: rest) a w :=
  wpList_step fun K hK => by
    rw [if_pos hw]
    unfold Oper.wp execOp
    simp only [ho, hx, Instr.loadAt, Instr.sureAddr, Sem.run_bind, Sem.run_pure, Result.andThen_ok, run_loadVar_at w ad ty cs d hc hu hd hi]
    exact hK _ _ h
set_option maxRecDepth 20000 in
theorem neq_rs (r : Rs4) (u : World) : (binOp .neq 35 (.agg (rsL r).toArray) (.agg (rsL r).toArray)).run Try.prog u = .ok (.bool false) u := by
  obtain ⟨a, b, c, d, e⟩ := r
  unfold rsL
  go_simp
def zE : Cn := { zCn with id := -77 }
set_option maxRecDepth 20000 in
set_option maxHeartbeats 8000000 in
theorem ClusterChecks_row (v : Value) (was : Int) (l : List Cn) (W : World) (h : Rk W.heap.size W 7 v (l.map cnL)) (ok : ∀ c ∈ l, okC c) (hl : l.length ≤ maxLen) (hra : Ra v) (hwas : -9223372036854775808 ≤ was ∧ was ≤ 9223372036854775807) :
    Calls Try.prog 3 #[v, .int .i64 was] W fun e w' => e = .returned (.bool true) ∧ Below W.heap.size W w' := by
  have HF : Hid (∀ u, Below W.heap.size W u → Calls Try.prog 5 #[v] u fun e w' => ∃ x, e = .returned x ∧ Hid (Rk W.heap.size u 7 x ((l.take 300).map cnL) ∧ Ra x) ∧ w' = u) := fun u hb => few_ra v l u W.heap.size (h.below hb (Nat.le_refl _)) hl hra
  have HOK : Hid (∀ c ∈ l.take 300, okC c) := fun c hc => ok c (List.mem_of_mem_take hc)
  obtain ⟨L, hL⟩ : ∃ L, l.take 300 = L := ⟨_, rfl⟩
  have hLl : L.length ≤ 300 := by rw [← hL, List.length_take]; omega
  rw [hL] at HF HOK
  clear h ok hl hL hra hwas
  go_enter Try.func3, Try.ntmps3
  refine post_hid fun Q hQ => ?_
  go_upto_region 3 with (go_at_call 4; refine (shown_any W).mono ?_; rintro e w1 ⟨rfl, hb1⟩)
  have HB1 : Hid (Below W.heap.size W w1) := hb1
  have HFc := HF.out w1 hb1
  clear hb1 HF
  obtain ⟨n, hn⟩ : ∃ n, L.length = n := ⟨_, rfl⟩
  have HN : Hid (L.length = n ∧ (n : Int) ≤ 300) := ⟨hn, by omega⟩
  have hn3 : (n : Int) ≤ 300 := HN.out.2
  clear hLl hn
  go_upto_region 4 with (go_at_call 5; refine HFc.mono ?_; rintro e w2 ⟨x, rfl, HU, e2⟩; have e2' := e2.symm; clear e2; subst e2'; obtain ⟨ax, cx, hx, hxc⟩ := rk_form HU.out.1; rw [HN.out.1] at hx; subst hx)
  go_upto_region 5 with (first
    | (at_builtin; refine wpList_appk tiC rfl _ _ rfl w1.heap.size W.heap.size (.slice none 0 0) (.slice ax n cx) [] (L.map cnL) (by rfl) (by rfl) (OR.nil _ _ _ _) HU.out.1 HU.out.2 (fun y hy => by obtain ⟨c, _, rfl⟩ := List.mem_map.1 hy; rfl) (fun y hy u hu => by obtain ⟨c, _, rfl⟩ := List.mem_map.1 hy; exact cnL_one c u hu) (by have := HN.out; simp only [List.length_map, List.length_nil, maxLen]; omega) (by have := HN.out; simp only [List.length_map, List.length_nil]; omega) (Nat.le_refl _) ?_; intro v2 w3 o1 o2 _; have O1 : Hid (OR w3 w1.heap.size 27 7 v2 (L.map cnL) ∧ Below w1.heap.size w1 w3) := (⟨o1, below_own o2 (Nat.le_refl _) (fun b hb => by cases hb)⟩); clear o1 o2)
    | (refine step_bsL (by rfl) 22 27 _ rfl (.agg (cnL zE).toArray) (cnL zE) (by rfl) (run_bsC zE) ?_; intro w4 g4 H4)
    | (at_builtin; refine step_apL tiC rfl _ _ rfl w1.heap.size g4 v2 (cnL zE) (by rfl) (by rfl) rfl (cnL_one zE) w3 _ ?_ ?_ O1.out.1 H4.out O1.out.2.size ?_; (have := HN.out; rw [List.length_map]; simp only [maxLen]; omega); (have := HN.out; rw [List.length_map]; omega); intro v5 w5 Ha))
  have HO : Hid (OR w5 w1.heap.size 27 7 v5 ((L ++ [zE]).map cnL) ∧ Below w1.heap.size w1 w5) := ⟨by rw [List.map_append]; exact Ha.out.1, O1.out.2.trans Ha.out.2⟩
  obtain ⟨ao, co, hv5⟩ := or_len HO.out.1
  obtain ⟨n1, hn1⟩ : ∃ n1 : Nat, n1 = n + 1 := ⟨_, rfl⟩
  rw [List.length_map, List.length_append, HN.out.1, List.length_singleton, ← hn1] at hv5
  subst hv5
  obtain ⟨aS, cS, hsl, hkS⟩ := csl_take HO.out.1.rk n (by rw [List.length_append]; have := HN.out.1; omega)
  rw [List.take_append_of_le_length (by rw [HN.out.1]; exact Nat.le_refl _), List.take_of_length_le (by rw [HN.out.1]; exact Nat.le_refl _)] at hkS
  have HW5 : Hid (Below W.heap.size W w5) := below_thru HB1.out HO.out.2
  have HS : Hid (∀ u, Below w5.heap.size w5 u → Rk u.heap.size u 7 (.slice aS n cS) (L.map cnL) ∧ Rk u.heap.size u 7 (.slice ax n cx) (L.map cnL)) := fun u hu => ⟨(hkS.1.below hu (Nat.le_refl _)).mono hu.size, (HU.out.1.below (below_thru HO.out.2 hu) HB1.out.size).mono (Nat.le_trans HB1.out.size (Nat.le_trans HO.out.2.size hu.size))⟩
  have hL : L.length ≤ 1000 := by have := HN.out; omega
  obtain ⟨O, hO⟩ : ∃ O, cmO L = O := ⟨_, rfl⟩
  obtain ⟨J, hJ⟩ : ∃ J, cmJ L = J := ⟨_, rfl⟩
  obtain ⟨CC, hCC⟩ : ∃ C, bsC L was = C := ⟨_, rfl⟩
  obtain ⟨IO, hIO⟩ : ∃ C, bsO L = C := ⟨_, rfl⟩
  obtain ⟨Z, hZ⟩ : ∃ C, (if idxP (isId was) L < 0 then 0 else sj L (idxP (isId was) L).toNat) = C := ⟨_, rfl⟩
  obtain ⟨M, hM⟩ : ∃ M, mit L was = M := ⟨_, rfl⟩
  have K1 : Hid (∀ u, Below w5.heap.size w5 u → Calls Try.prog 6 #[.slice aS n cS] u fun e w' => ∃ y, e = .returned y ∧ Hid (OR w' u.heap.size 27 7 y ((clu L).map cnL)) ∧ Hid (Below u.heap.size u w')) := fun u hu => cluster_any _ L u _ (HS.out u hu).1 (Nat.le_refl _) hL HOK.out
  have K2 : Hid (∀ u, Below w5.heap.size w5 u → Calls Try.prog 7 #[.slice aS n cS] u fun e w' => e = .returned (.tuple #[.int .i64 O, .int .i64 J]) ∧ Below u.heap.size u w') := fun u hu => by rw [← hO, ← hJ]; exact combine_any _ L u _ (HS.out u hu).1 (Nat.le_refl _) hL HOK.out
  have K3 : Hid (∀ u, Below w5.heap.size w5 u → Calls Try.prog 8 #[.slice ax n cx] u fun e w' => e = .returned (.tuple #[.int .i64 O, .int .i64 J]) ∧ Below u.heap.size u w') := fun u hu => by rw [← hO, ← hJ]; exact rcombine_any _ L u _ (HS.out u hu).2 (Nat.le_refl _) hL HOK.out
  have K4 : Hid (∀ u, Below w5.heap.size w5 u → Calls Try.prog 9 #[.slice aS n cS, .int .i64 was] u fun e w' => e = .returned (.tuple #[.agg (cnL CC).toArray, .bool IO]) ∧ Below u.heap.size u w') := fun u hu => by rw [← hCC, ← hIO]; exact best_any _ L was u _ (HS.out u hu).1 (Nat.le_refl _) hL
  have K5 : Hid (∀ u, Below w5.heap.size w5 u → Calls Try.prog 10 #[.slice ax n cx, .int .i64 was] u fun e w' => e = .returned (.tuple #[.agg (cnL CC).toArray, .bool IO]) ∧ Below u.heap.size u w') := fun u hu => by rw [← hCC, ← hIO]; exact rbest_any _ L was u _ (HS.out u hu).2 (Nat.le_refl _) hL
  have K6 : Hid (∀ u, Below w5.heap.size w5 u → Calls Try.prog 12 #[.slice ax n cx] u fun e w' => ∃ y, e = .returned y ∧ Hid (OR w' u.heap.size 27 7 y ((clu L).map cnL)) ∧ Hid (Below u.heap.size u w')) := fun u hu => rcluster_any _ L u _ (HS.out u hu).2 (Nat.le_refl _) hL HOK.out
  have K8 : Hid (∀ u, Below w5.heap.size w5 u → Calls Try.prog 13 #[.slice aS n cS, .int .i64 was] u fun e w' => e = .returned (.int .i64 Z) ∧ Below u.heap.size u w') := fun u hu => by rw [← hZ]; exact select_any _ L was u _ (HS.out u hu).1 (Nat.le_refl _) hL HOK.out
  have K9 : Hid (∀ u, Below w5.heap.size w5 u → Calls Try.prog 14 #[.slice ax n cx, .int .i64 was] u fun e w' => e = .returned (.int .i64 Z) ∧ Below u.heap.size u w') := fun u hu => by rw [← hZ]; exact rselect_any _ L was u _ (HS.out u hu).2 (Nat.le_refl _) hL HOK.out
  have K10 : Hid (∀ u, Below w5.heap.size w5 u → Calls Try.prog 15 #[.slice aS n cS, .int .i64 was] u fun e w' => e = .returned (.agg (rsL M).toArray) ∧ Below u.heap.size u w') := fun u hu => by rw [← hM]; exact mitigate_any _ L was u _ (HS.out u hu).1 (Nat.le_refl _) hL HOK.out
  have K11 : Hid (∀ u, Below w5.heap.size w5 u → Calls Try.prog 16 #[.slice ax n cx, .int .i64 was] u fun e w' => e = .returned (.agg (rsL M).toArray) ∧ Below u.heap.size u w') := fun u hu => by rw [← hM]; exact rmitigate_any _ L was u _ (HS.out u hu).2 (Nat.le_refl _) hL HOK.out
  have HCl : Hid ((clu L).length ≤ 10) := (clu_small L HOK.out).1
  have KS : Hid (∀ u a b, Rk u.heap.size u 7 a ((clu L).map cnL) → Rk u.heap.size u 7 b ((clu L).map cnL) → Calls Try.prog 11 #[a, b] u fun e w' => e = .returned (.bool true) ∧ Below u.heap.size u w') := fun u a b h1 h2 => same_any a b (clu L) u _ _ h1 h2 (by have := HCl.out; omega)
  have KT : Hid (∀ u, Below w5.heap.size w5 u → Calls Try.prog 11 #[.slice aS n cS, .slice ax n cx] u fun e w' => e = .returned (.bool true) ∧ Below u.heap.size u w') := fun u hu => same_any _ _ L u _ _ (HS.out u hu).1 (HS.out u hu).2 (by omega)
  have HEnd : Hid (n1 = n + 1) := hn1
  clear hO hJ hCC hIO hZ hM hL hkS hn1 HU HFc Ha H4 O1 hxc
  have b5 : Below w5.heap.size w5 w5 := Below.refl _ _
  go_upto_region 10 with (first
    | (go_at_call 6; refine (K1.out _ b5).mono ?_; rintro e w6 ⟨a6, rfl, h6, b6'⟩; have b6 : Below w5.heap.size w5 w6 := b6'.out; clear b6')
    | (go_at_call 7; refine (K2.out _ b6).mono ?_; rintro e w7 ⟨rfl, b7'⟩; have b7 : Below w5.heap.size w5 w7 := below_thru b6 b7'; have H7 : Hid (OR w7 w5.heap.size 27 7 a6 ((clu L).map cnL)) := h6.out.below b7' (Nat.le_refl _); clear b7' h6)
    | (go_at_call 8; refine (K3.out _ b7).mono ?_; rintro e w8 ⟨rfl, b8'⟩; have b8 : Below w5.heap.size w5 w8 := below_thru b7 b8'; have H8 : Hid (OR w8 w5.heap.size 27 7 a6 ((clu L).map cnL)) := H7.out.below b8' (Nat.le_refl _); clear b8' H7)
    | (go_at_call 9; refine (K4.out _ b8).mono ?_; rintro e w9 ⟨rfl, b9'⟩; have b9 : Below w5.heap.size w5 w9 := below_thru b8 b9'; have H9 : Hid (OR w9 w5.heap.size 27 7 a6 ((clu L).map cnL)) := H8.out.below b9' (Nat.le_refl _); clear b9' H8)
    | (go_at_call 10; refine (K5.out _ bb).mono ?_; rintro e wc ⟨rfl, bc'⟩; have bc : Below w5.heap.size w5 wc := below_thru bb bc'; have Hc : Hid (OR wc w5.heap.size 27 7 a6 ((clu L).map cnL) ∧ Bk g1 wc (cnL CC).toArray 27) := ⟨Hb.out.1.below bc' (Nat.le_refl _), Hb.out.2.kept (bc'.block _ Hb.out.2.lt)⟩; clear bc' Hb)
    | (refine step_alL (by rfl) 27 rfl (cnL zCn).toArray (fun u => by kernel_rfl) ?_; first
      | (have _t := Hc; intro wd g2 Hd)
      | (intro wa g1 Hal))
    | (refine step_stL (by rfl) _ _ rfl g1 (cnL CC).toArray (by rfl) (by rfl) (cnL zCn).toArray (by kernel_rfl) (by kernel_rfl) (by kernel_rfl) Hal.out.bk ?_; intro wb Hst; have bq := Hst.out.below Hal.out.be Hal.out.be.size (Nat.le_of_eq Hal.out.at'.symm); have bb : Below w5.heap.size w5 wb := below_thru b9 bq; have Hb : Hid (OR wb w5.heap.size 27 7 a6 ((clu L).map cnL) ∧ Bk g1 wb (cnL CC).toArray 27) := ⟨H9.out.below bq (Nat.le_refl _), Hst.out.bk⟩; clear bq Hst Hal)
    | (refine step_stL (by rfl) _ _ rfl g2 (cnL CC).toArray (by rfl) (by rfl) (cnL zCn).toArray (by kernel_rfl) (by kernel_rfl) (by kernel_rfl) Hd.out.bk ?_; intro we Hse; have bq := Hse.out.below Hd.out.be Hd.out.be.size (Nat.le_of_eq Hd.out.at'.symm); have be : Below w5.heap.size w5 we := below_thru bc bq; have He : Hid (OR we w5.heap.size 27 7 a6 ((clu L).map cnL) ∧ Bk g1 we (cnL CC).toArray 27 ∧ Bk g2 we (cnL CC).toArray 27) := ⟨Hc.out.1.below bq (Nat.le_refl _), Hc.out.2.kept (bq.block _ Hc.out.2.lt), Hse.out.bk⟩; clear bq Hse Hd Hc))
  obtain ⟨m, hm⟩ : ∃ m, (clu L).length = m := ⟨_, rfl⟩
  have HM : Hid ((clu L).length = m) := hm
  obtain ⟨aA, cA, ha6⟩ := or_len He.out.1
  rw [List.length_map, hm] at ha6
  subst ha6
  have hm10 : (m : Int) ≤ 10 := by have := HCl.out; omega
  have hne := neq_cn CC
  have hrs := neq_rs M
  have hio : (IO != IO) = false := by cases IO <;> rfl
  obtain ⟨ad, had, hqe⟩ : ∃ ad, ao = some ad ∧ ∀ u, Below w5.heap.size w5 u → u.cell? (ad.add (n * 7)) = some (.int .i64 (-77)) := by
    obtain ⟨ao3, cap3, hv3, _, hr3⟩ := cands_read HO.out.1.rk
    injection hv3 with v1 v2 v3
    subst v1
    have hz : (L ++ [zE])[n]? = some zE := by rw [List.getElem?_append_right (by rw [HN.out.1]; exact Nat.le_refl _), HN.out.1, Nat.sub_self]; rfl
    obtain ⟨ad, h1, _, _⟩ := hr3 w5 (fun _ _ => rfl) n zE hz
    refine ⟨ad, h1, fun u hu => ?_⟩
    obtain ⟨ad2, k1, _, k3⟩ := hr3 u (below_cells hu (Nat.le_refl _)) n zE hz
    have := k3 0 (.int .i64 (-77)) rfl
    rw [← Option.some.inj (h1.symm.trans k1), add_zero'] at this
    exact this
  have hixn : ∀ u, Sem.run Try.prog (Instr.indexAt 22 (.slice ao n1 co) (.int .i64 (n : Int))) u = .ok (.pointer (some (ad.add (n * 7)))) u := ix_C n1 co n had (by have := HEnd.out; omega)
  have HQE : Hid (∀ u, Below w5.heap.size w5 u → u.cell? (ad.add (n * 7)) = some (.int .i64 (-77))) := hqe
  clear hm had hqe b5 b6 b7 b8 b9 bb bc _t HO
  go_upto_region 12 with (first
    | (go_at_call 12; refine (K6.out _ be).mono ?_; rintro e wf ⟨y7, rfl, h7, bf'⟩; have bf : Below w5.heap.size w5 wf := below_thru be bf'.out; have Hf : Hid (OR wf w5.heap.size 27 7 (.slice aA m cA) ((clu L).map cnL) ∧ Rk wf.heap.size wf 7 y7 ((clu L).map cnL) ∧ Bk g1 wf (cnL CC).toArray 27 ∧ Bk g2 wf (cnL CC).toArray 27) := ⟨He.out.1.below bf'.out (Nat.le_refl _), h7.out.rk, He.out.2.1.kept (bf'.out.block _ He.out.2.1.lt), He.out.2.2.kept (bf'.out.block _ He.out.2.2.lt)⟩; clear bf' h7 He)
    | (go_at_call 11; refine (KS.out _ (.slice aA m cA) y7 Hf.out.1.rk Hf.out.2.1).mono ?_; rintro e wg ⟨rfl, bg'⟩; have bg : Below w5.heap.size w5 wg := below_thru bf bg'; have S1 : Hid (∀ j x, (cnL CC)[j]? = some x → wg.cell? ((⟨g1, 0, none⟩ : Addr).add j) = some x) := cells_of (l := cnL CC) (Hf.out.2.2.1.kept (bg'.block _ Hf.out.2.2.1.lt)); have S2 : Hid (∀ j x, (cnL CC)[j]? = some x → wg.cell? ((⟨g2, 0, none⟩ : Addr).add j) = some x) := cells_of (l := cnL CC) (Hf.out.2.2.2.kept (bg'.block _ Hf.out.2.2.2.lt)); have Hg : Hid (OR wg w5.heap.size 27 7 (.slice aA m cA) ((clu L).map cnL)) := Hf.out.1.below bg' (Nat.le_refl _); clear bg' Hf)
    | (refine step_ldatW (by rfl) 27 _ rfl ⟨g1, 0, none⟩ (by rfl) (cnL CC) _ Try.underlying27 rfl (by kernel_rfl) S1.out ?_)
    | (refine step_ldatW (by rfl) 27 _ rfl ⟨g2, 0, none⟩ (by rfl) (cnL CC) _ Try.underlying27 rfl (by kernel_rfl) S2.out ?_)
    | (go_at_call 13; refine (K8.out _ bg).mono ?_; rintro e wh ⟨rfl, bh'⟩; have bh : Below w5.heap.size w5 wh := below_thru bg bh'; have Hh : Hid (OR wh w5.heap.size 27 7 (.slice aA m cA) ((clu L).map cnL)) := Hg.out.below bh' (Nat.le_refl _); clear bh')
    | (go_at_call 14; refine (K9.out _ bh).mono ?_; rintro e wi ⟨rfl, bi'⟩; have bi : Below w5.heap.size w5 wi := below_thru bh bi'; have Hi : Hid (OR wi w5.heap.size 27 7 (.slice aA m cA) ((clu L).map cnL)) := Hh.out.below bi' (Nat.le_refl _); clear bi')
    | (go_at_call 15; refine (K10.out _ bi).mono ?_; rintro e wj ⟨rfl, bj'⟩; have bj : Below w5.heap.size w5 wj := below_thru bi bj'; have Hj : Hid (OR wj w5.heap.size 27 7 (.slice aA m cA) ((clu L).map cnL)) := Hi.out.below bj' (Nat.le_refl _); clear bj')
    | (go_at_call 16; refine (K11.out _ bj).mono ?_; rintro e wk ⟨rfl, bk'⟩; have bk : Below w5.heap.size w5 wk := below_thru bj bk'; have Hk : Hid (OR wk w5.heap.size 27 7 (.slice aA m cA) ((clu L).map cnL)) := Hj.out.below bk' (Nat.le_refl _); clear bk'))
  have HZ : Hid (∃ ys : List Cn, ys.length = m ∧ OR wk w5.heap.size 27 7 (.slice aA m cA) (ys.map cnL) ∧ Below w5.heap.size w5 wk) := ⟨clu L, HM.out, Hk.out, bk⟩
  clear hne hrs hio be bf bg bh bi bj bk Hk Hj Hi Hh Hg S1 S2 H9 K1 K2 K3 K4 K5 K6 K8 K9 K10 K11 KS HS HOK HCl HM
  go_wp2_with fail
  go_loopw [15, 109] (fun _ i wr => ∃ k : Nat, i = .int .i64 k ∧ (k : Int) ≤ m ∧ Hid (∃ ys : List Cn, ys.length = m ∧ OR wr w5.heap.size 27 7 (.slice aA m cA) (ys.map cnL) ∧ Below w5.heap.size w5 wr)) (fun _ i _ => m - (intOf i).toNat)
  case atStart => exact ⟨0, rfl, by omega, HZ.out⟩
  case round =>
    obtain ⟨k, rfl, hk, HB⟩ := hrel
    clear HZ
    by_cases hlt : (k : Int) < m
    · obtain ⟨ys, y1, y2, y3⟩ := HB.out
      obtain ⟨g, hg, hg1, hg2⟩ := or_some y2 (by omega)
      subst hg
      have hsz : k < (ys.map cnL).length := by rw [List.length_map]; omega
      obtain ⟨c, hc⟩ : ∃ c, ys[k]? = some c := ⟨_, List.getElem?_eq_getElem (by omega)⟩
      have hgd : (ys.map cnL).getD k [] = cnL c := by rw [List.getD_eq_getElem?_getD, List.getElem?_map, hc]; rfl
      have hcell := y2.at k hsz 0 (.int .i64 c.id) (by rw [hgd]; rfl)
      have f0 : wr.frozen? ⟨g, k * 7, none⟩ = false := y2.frozen _
      have c0 : wr.cell? ⟨g, k * 7, none⟩ = some (.int .i64 c.id) := by
        have e5 : (⟨g, k * 7, none⟩ : Addr).add 0 = ⟨g, k * 7, none⟩ := rfl
        rw [e5] at hcell
        exact hcell
      have HSn : Hid (∃ ys : List Cn, ys.length = m ∧ OR (wr.setCell ⟨g, k * 7, none⟩ (.int .i64 (-5))) w5.heap.size 27 7 (.slice (some ⟨g, 0, none⟩) m cA) (ys.map cnL) ∧ Below w5.heap.size w5 (wr.setCell ⟨g, k * 7, none⟩ (.int .i64 (-5)))) := by
        have h1 := y2.cellSet0 hsz 0 (by decide) (.int .i64 (-5))
        rw [Nat.add_zero, hgd] at h1
        refine ⟨ys.set k { c with id := -5 }, by rw [List.length_set]; exact y1, ?_, y3.grown h1.2 y3.size (fun q hq => by injection hq with hq; omega)⟩
        have e6 : (cnL c).set 0 (.int .i64 (-5)) = cnL { c with id := -5 } := rfl
        rw [e6, ← List.map_set] at h1
        exact h1.1
      clear hc hg1 hg2 hsz hgd hcell HB y1 y2 y3 hixn hsl
      go_wp2_with fail
      go_roundw
      case rel => exact ⟨k + 1, by go_num, by omega, HSn.out⟩
      case measure => simp [intOf]; omega
    · have HBw : Hid (Below w5.heap.size w5 wr) := by obtain ⟨ys, _, _, y3⟩ := HB.out; exact y3
      clear HB
      go_wp2_with (go_at_call 11; refine (KT.out _ HBw.out).mono ?_; rintro e wl ⟨rfl, hl9⟩; have bl : Below w5.heap.size w5 wl := below_thru HBw.out hl9; have qe := HQE.out wl bl)
      rw [hQ.out]
      go_ret
      exact ⟨rfl, below_thru HW5.out bl⟩
end Go.Proofs.Ytdlipponajilbaa
