/- ClusterKeeps: what is left. -/
import Derived.Test.YtnjfmhabajcpoaaClPe
import Derived.Test.YtnjfmhabajcpoaaClC0
import Derived.Test.YtnjfmhabajcpoaaClC2
namespace Go.Proofs.Ytnjfmhabajcpoaa
open Go Go.RowKit Go.Sort
set_option linter.unusedVariables false
theorem clu_len' (l : List Cn) : (clu l).length ≤ 10 := by
  have := clN_len 10 ((St.st ltc l).take 10)
  unfold clu
  rw [List.length_take] at this
  omega
set_option maxRecDepth 20000 in
set_option maxHeartbeats 8000000 in
theorem ClusterKeeps_row (v : Value) (l : List Cn) (W : World) (h : Rk W.heap.size W 7 v (l.map cnL)) (ok : ∀ c ∈ l, okC c) (hl : l.length ≤ maxLen) : Calls Try.prog 5 #[v] W fun e w' => e = .returned (.bool true) ∧ Below W.heap.size W w' := by
  have HF : Hid (∀ u, Below W.heap.size W u → Calls Try.prog 11 #[v] u fun e w' => ∃ x, e = .returned x ∧ Hid (Rk W.heap.size u 7 x ((l.take 300).map cnL)) ∧ w' = u) := fun u hb => few_any v l u W.heap.size (h.below hb (Nat.le_refl _)) hl
  have HOK : Hid (∀ c ∈ l.take 300, okC c) := fun c hc => ok c (List.mem_of_mem_take hc)
  obtain ⟨L, hL⟩ : ∃ L, l.take 300 = L := ⟨_, rfl⟩
  have hLl : L.length ≤ 300 := by rw [← hL, List.length_take]; omega
  rw [hL] at HF HOK
  clear h ok hl hL
  go_enter Try.func5, Try.ntmps5
  refine post_hid fun Q hQ => ?_
  go_upto_region 3 with (go_at_call 10; refine (shown_any W).mono ?_; rintro e w1 ⟨rfl, hb1⟩)
  have HB1 : Hid (Below W.heap.size W w1) := hb1
  have HFc := HF.out w1 hb1
  clear hb1 HF
  go_upto_region 4 with (go_at_call 11; refine HFc.mono ?_; rintro e w2 ⟨x, rfl, HU, e2⟩)
  have e2' := e2.symm
  clear e2
  subst e2'
  obtain ⟨ao, cap, hx, hcap, hr⟩ := cands_read HU.out
  have HR : Hid (∀ w', Below w1.heap.size w1 w' → ∀ (i : Nat) c, L[i]? = some c → ∃ ad, ao = some ad ∧ ∀ j u, (cnL c)[j]? = some u → w'.cell? ((ad.add (i * 7)).add j) = some u) := fun w' hb i c hc => by
    obtain ⟨ad, h1, _, h2⟩ := hr w' (below_cells hb HB1.out.size) i c hc
    exact ⟨ad, h1, h2⟩
  have HCl : Hid (Calls Try.prog 12 #[x] w1 fun e w' => ∃ y, e = .returned y ∧ Hid (OR w' w1.heap.size 25 7 y ((clu L).map cnL)) ∧ Hid (Below w1.heap.size w1 w')) := cluster_any x L w1 W.heap.size HU.out HB1.out.size (by omega) HOK.out
  have HH1 : Hid (∀ u c, Below w1.heap.size w1 u → c ∈ L → Calls Try.prog 22 #[x, .agg (cnL c).toArray] u fun e w' => e = .returned (.bool true) ∧ Below u.heap.size u w') := fun u c hb hc => has_any x L c u W.heap.size (HU.out.below hb HB1.out.size) (Nat.le_trans HB1.out.size hb.size) (by omega) hc
  obtain ⟨n, hn⟩ : ∃ n, L.length = n := ⟨_, rfl⟩
  rw [hn] at hx hLl
  have HN : Hid (L.length = n) := hn
  subst hx
  have hn3 : (n : Int) ≤ 300 := by omega
  clear HU hr hcap hn hLl
  go_upto_region 5 with (go_at_call 12; refine HCl.out.mono ?_; rintro e w3 ⟨y, rfl, HY, h3⟩; obtain ⟨ao2, c2, hy⟩ := or_len HY.out; obtain ⟨n2, hn2⟩ : ∃ n2, ((clu L).map cnL).length = n2 := ⟨_, rfl⟩; rw [hn2] at hy; subst hy)
  obtain ⟨ao3, cap3, hv3, _, hr3⟩ := cands_read HY.out.rk
  injection hv3 with v1 v2 v3
  subst v1 v3
  have HN2 : Hid ((clu L).length = n2) := v2.symm
  have HR2 : Hid (∀ w', Below w3.heap.size w3 w' → ∀ (i : Nat) c, (clu L)[i]? = some c → ∃ ad, ao2 = some ad ∧ ∀ j u, (cnL c)[j]? = some u → w'.cell? ((ad.add (i * 7)).add j) = some u) := fun w' hb i c hc => by
    obtain ⟨ad, h1, _, h2⟩ := hr3 w' (below_cells hb (Nat.le_refl _)) i c hc
    exact ⟨ad, h1, h2⟩
  have hn10 : (n2 : Int) ≤ 10 := by have := clu_len' L; have := HN2.out; omega
  have hmin : min (n : Int) 3 ≤ n2 := by have := clu_ge L; have := HN2.out; have := HN.out; omega
  have HH2 : Hid (∀ u c, Below w3.heap.size w3 u → c ∈ clu L → Calls Try.prog 22 #[.slice ao2 n2 c2, .agg (cnL c).toArray] u fun e w' => e = .returned (.bool true) ∧ Below u.heap.size u w') := fun u c hb hc => has_any _ (clu L) c u u.heap.size (HY.out.below hb (Nat.le_refl _)).rk (Nat.le_refl _) (by have := clu_len' L; omega) hc
  have HOa : Hid (∀ c ∈ clu L, okC c) := fun c hc => HOK.out c (clu_mem hc)
  have HCl2 : Hid (∀ u, Below w3.heap.size w3 u → Calls Try.prog 12 #[.slice ao2 n2 c2] u fun e w' => ∃ y, e = .returned y ∧ Hid (OR w' u.heap.size 25 7 y ((clu L).map cnL)) ∧ Hid (Below u.heap.size u w')) := fun u hb => by
    have := cluster_any _ (clu L) u u.heap.size (HY.out.below hb (Nat.le_refl _)).rk (Nat.le_refl _) (by have := clu_len' L; omega) HOa.out
    rw [clu_clu] at this
    exact this
  have HBa : Hid (Below w1.heap.size w1 w3) := h3.out
  have HYa : Hid (∀ u, Below w3.heap.size w3 u → Rk u.heap.size u 7 (.slice ao2 n2 c2) ((clu L).map cnL)) := fun u hb => (HY.out.below hb (Nat.le_refl _)).rk
  clear hr3 v2 hn2 HY h3 HCl
  go_wp2_with fail
  go_loopw [4, 5, 27] (fun _ _ i wr => ∃ k : Nat, i = .int .i64 k ∧ (k : Int) ≤ n2 ∧ Hid (Below w3.heap.size w3 wr)) (fun _ _ i _ => n2 - (intOf i).toNat)
  case atStart => exact ⟨0, rfl, by omega, Below.refl _ _⟩
  case round =>
    obtain ⟨k, rfl, hk, HB⟩ := hrel
    by_cases hlt : (k : Int) < n2
    · obtain ⟨c, hc⟩ : ∃ c, (clu L)[k]? = some c := ⟨_, List.getElem?_eq_getElem (by have := HN2.out; omega)⟩
      obtain ⟨ad, g1, g3⟩ := HR2.out wr HB.out k c hc
      have hix := ix_C n2 c2 k g1 hlt
      have HS : Hid (∀ j u, (cnL c)[j]? = some u → wr.cell? ((ad.add (k * 7)).add j) = some u) := g3
      have HK : Hid ((clu L)[k]? = some c) := hc
      clear g1 g3 hc
      go_upto_region 10 with (first
        | (refine step_ldat 25 _ rfl rfl (ad.add (k * 7)) (by rfl) (cnL c) _ Try.underlying25 rfl (by kernel_rfl) HS.out ?_)
        | (refine step_alL (by rfl) 25 rfl (cnL zCn).toArray (fun u => by kernel_rfl) ?_; intro w6 g H6)
        | (refine step_stL (by rfl) _ _ rfl g (cnL c).toArray (by rfl) (by rfl) (cnL zCn).toArray (by kernel_rfl) (by kernel_rfl) (by kernel_rfl) H6.out.bk ?_; intro w7 H7))
      have H8 : Hid (Below w3.heap.size w3 w7 ∧ Bk g w7 (cnL c).toArray 25) := ⟨below_thru HB.out (H7.out.below H6.out.be H6.out.be.size (Nat.le_of_eq H6.out.at'.symm)), H7.out.bk⟩
      clear H6 H7 HS hix HB
      have HHa : Hid (∀ u, Below w7.heap.size w7 u → Calls Try.prog 22 #[.slice ao n cap, .agg (cnL c).toArray] u fun e w' => e = .returned (.bool true) ∧ Below u.heap.size u w') := fun u hb => HH1.out u c (below_thru HBa.out (below_thru H8.out.1 hb)) (clu_mem (List.mem_of_getElem? HK.out))
      obtain ⟨MB, hMB⟩ : ∃ M, mer c = M := ⟨_, rfl⟩
      have HMB : Hid (mer c = MB ∧ ∀ u, Calls Try.prog 23 #[.agg (cnL c).toArray] u fun e w' => e = .returned (.int .i64 MB) ∧ Below u.heap.size u w') := ⟨hMB, fun u => by rw [← hMB]; exact rmerit_any c u (HOa.out c (List.mem_of_getElem? HK.out))⟩
      clear hMB
      by_cases hk0 : (k : Int) = 0
      · have hk0' : ¬ (0 : Int) < k := by omega
        refine wp_region_grown (by kernel_rfl) (by kernel_rfl) ?_
        intro C hC hG
        have al : Hid (∀ u, C u → Bk g u (cnL c).toArray 25) := fun u hu => H8.out.2.kept ((hC u hu).block _ H8.out.2.lt)
        have Z1 : Hid (∀ u, C u → Calls Try.prog 22 #[.slice ao n cap, .agg (cnL c).toArray] u fun e w' => e = .returned (.bool true) ∧ C w') := fun u hu => (HHa.out u (hC u hu)).mono fun e w' ⟨h1, h2⟩ => ⟨h1, hG u w' hu h2⟩
        clear HHa HMB
        refine QW.out ?_
        repeat (first
          | (refine qa_ldW (by rfl) 25 _ rfl ⟨g, 0, none⟩ (by rfl) (cnL c) _ Try.underlying25 rfl (by kernel_rfl) (fun u hu => cells_of (al.out u hu)) ?_; try go_simp)
          | (refine qa_valW (by rfl) ?_; apply Exists.intro; refine ⟨fun u hu => ?_, ?_⟩; (go_simp; exact rfl); try go_simp)
          | (refine qa_callW (by rfl) 22 _ _ ?_ (fun u hu => Z1.out u hu) ?_; (focus (intro u hu; go_simp; first | done | exact rfl)); try go_simp)
          | (refine qw_step (fun K hK => ?_); go_simp; refine hK _ ?_; clear hK K))
        refine qw_nil ?_
        intro u hu
        have HB9 : Hid (Below w3.heap.size w3 u) := below_thru H8.out.1 hu
        clear al Z1 hC hG hu H8 hk0'
        go_wp2_with fail
        go_roundw
        case rel => exact ⟨k + 1, by go_num, by omega, HB9.out⟩
        case measure => simp [intOf]; omega
      · have hk0' : 0 < k := by omega
        have hkd : decide (0 < k) = true := by simpa using hk0'
        obtain ⟨k1, hk1⟩ : ∃ k1 : Nat, (k : Int) - 1 = k1 := ⟨k - 1, by omega⟩
        obtain ⟨c', hc'⟩ : ∃ c', (clu L)[k1]? = some c' := ⟨_, List.getElem?_eq_getElem (by have := HN2.out; omega)⟩
        have hm := so_mer (clu_so L) hc' (by rw [show k1 + 1 = k from by omega]; exact HK.out)
        obtain ⟨MA, hMA⟩ : ∃ M, mer c' = M := ⟨_, rfl⟩
        rw [hMA, HMB.out.1] at hm
        have HMA : Hid (∀ u, Calls Try.prog 23 #[.agg (cnL c').toArray] u fun e w' => e = .returned (.int .i64 MA) ∧ Below u.heap.size u w') := fun u => by rw [← hMA]; exact rmerit_any c' u (HOa.out c' (List.mem_of_getElem? hc'))
        obtain ⟨ad', g1, _⟩ := HR2.out w7 H8.out.1 k1 c' hc'
        have hixp : ∀ u, Sem.run Try.prog (Instr.indexAt 22 (.slice ao2 n2 c2) (.int .i64 ((k : Int) - 1))) u = .ok (.pointer (some (ad'.add (k1 * 7)))) u := fun u => by rw [hk1]; exact ix_C n2 c2 k1 g1 (by omega) u
        have hwk : IntKind.i64.wrap ((k : Int) - 1) = (k : Int) - 1 := by rw [IntKind.wrap_i64]; omega
        have HS' : Hid (∀ u, Below w7.heap.size w7 u → ∀ j v, (cnL c')[j]? = some v → u.cell? ((ad'.add (k1 * 7)).add j) = some v) := fun u hb => by
          obtain ⟨ad2, e1, e2⟩ := HR2.out u (below_thru H8.out.1 hb) k1 c' hc'
          have e3 := Option.some.inj (g1.symm.trans e1)
          rw [e3]; exact e2
        have hle : ¬ MB < MA := by omega
        clear hk1 hc' hMA g1
        refine wp_region_grown (by kernel_rfl) (by kernel_rfl) ?_
        intro C hC hG
        have al : Hid (∀ u, C u → Bk g u (cnL c).toArray 25) := fun u hu => H8.out.2.kept ((hC u hu).block _ H8.out.2.lt)
        have al2 : Hid (∀ u, C u → ∀ j v, (cnL c')[j]? = some v → u.cell? ((ad'.add (k1 * 7)).add j) = some v) := fun u hu => HS'.out u (hC u hu)
        have Z1 : Hid (∀ u, C u → Calls Try.prog 22 #[.slice ao n cap, .agg (cnL c).toArray] u fun e w' => e = .returned (.bool true) ∧ C w') := fun u hu => (HHa.out u (hC u hu)).mono fun e w' ⟨h1, h2⟩ => ⟨h1, hG u w' hu h2⟩
        have Z2 : Hid (∀ u, C u → Calls Try.prog 23 #[.agg (cnL c').toArray] u fun e w' => e = .returned (.int .i64 MA) ∧ C w') := fun u hu => (HMA.out u).mono fun e w' ⟨h1, h2⟩ => ⟨h1, hG u w' hu h2⟩
        have Z3 : Hid (∀ u, C u → Calls Try.prog 23 #[.agg (cnL c).toArray] u fun e w' => e = .returned (.int .i64 MB) ∧ C w') := fun u hu => (HMB.out.2 u).mono fun e w' ⟨h1, h2⟩ => ⟨h1, hG u w' hu h2⟩
        clear HHa HMB HMA HS'
        refine QW.out ?_
        repeat (first
          | (refine qa_ldW (by rfl) 25 _ rfl ⟨g, 0, none⟩ (by rfl) (cnL c) _ Try.underlying25 rfl (by kernel_rfl) (fun u hu => cells_of (al.out u hu)) ?_; try go_simp)
          | (refine qa_ldW (by rfl) 25 _ rfl (ad'.add (k1 * 7)) (by rfl) (cnL c') _ Try.underlying25 rfl (by kernel_rfl) (fun u hu => al2.out u hu) ?_; try go_simp)
          | (refine qa_valW (by rfl) ?_; apply Exists.intro; refine ⟨fun u hu => ?_, ?_⟩; (go_simp; exact rfl); try go_simp)
          | (refine qa_callW (by rfl) 22 _ _ ?_ (fun u hu => Z1.out u hu) ?_; (focus (intro u hu; go_simp; first | done | exact rfl)); try go_simp)
          | (refine qa_callW (by rfl) 23 _ _ ?_ (fun u hu => Z2.out u hu) ?_; (focus (intro u hu; go_simp; first | done | exact rfl)); try go_simp)
          | (refine qa_callW (by rfl) 23 _ _ ?_ (fun u hu => Z3.out u hu) ?_; (focus (intro u hu; go_simp; first | done | exact rfl)); try go_simp)
          | (refine qw_step (fun K hK => ?_); go_simp; refine hK _ ?_; clear hK K))
        refine qw_nil ?_
        intro u hu
        have HB9 : Hid (Below w3.heap.size w3 u) := below_thru H8.out.1 hu
        clear al al2 Z1 Z2 Z3 hC hG hu H8 hk0' hkd hixp hwk hle hm
        go_wp2_with fail
        go_roundw
        case rel => exact ⟨k + 1, by go_num, by omega, HB9.out⟩
        case measure => simp [intOf]; omega
    · have HBb : Hid (Below w3.heap.size w3 wr) := HB.out
      go_wp2_with fail
      clear HB hk hlt HR2
      go_loopw [7, 54] (fun _ i wx => ∃ k : Nat, i = .int .i64 k ∧ (k : Int) ≤ n ∧ Hid (Below w3.heap.size w3 wx)) (fun _ i _ => n - (intOf i).toNat)
      case atStart => exact ⟨0, rfl, by omega, HBb.out⟩
      case round =>
        obtain ⟨m, rfl, hm, HB⟩ := hrel
        by_cases hlt : (m : Int) < n
        · obtain ⟨c, hc⟩ : ∃ c, L[m]? = some c := ⟨_, List.getElem?_eq_getElem (by have := HN.out; omega)⟩
          obtain ⟨ad, g1, g3⟩ := HR.out wr (below_thru HBa.out HB.out) m c hc
          have hix := ix_C n cap m g1 hlt
          have HS : Hid (∀ j u, (cnL c)[j]? = some u → wr.cell? ((ad.add (m * 7)).add j) = some u) := g3
          have HK : Hid (L[m]? = some c) := hc
          clear g1 g3 hc
          go_upto_region 16 with (first
            | (refine step_ldat 25 _ rfl rfl (ad.add (m * 7)) (by rfl) (cnL c) _ Try.underlying25 rfl (by kernel_rfl) HS.out ?_)
            | (refine step_alL (by rfl) 25 rfl (cnL zCn).toArray (fun u => by kernel_rfl) ?_; intro w6 g H6)
            | (refine step_stL (by rfl) _ _ rfl g (cnL c).toArray (by rfl) (by rfl) (cnL zCn).toArray (by kernel_rfl) (by kernel_rfl) (by kernel_rfl) H6.out.bk ?_; intro w7 H7))
          have H8 : Hid (Below w3.heap.size w3 w7) := below_thru HB.out (H7.out.below H6.out.be H6.out.be.size (Nat.le_of_eq H6.out.at'.symm))
          have HC := H7.out.bk
          obtain ⟨ci, co, cd, cj, cs, pf, pu⟩ := c
          have d0 : w7.cell? ⟨g, 0, none⟩ = some (.int .i64 ci) := HC.cell 0
          have d1 : w7.cell? ⟨g, 1, none⟩ = some (.int .i64 co) := HC.cell 1
          have d2 : w7.cell? ⟨g, 2, none⟩ = some (.int .i64 cd) := HC.cell 2
          have d3 : w7.cell? ⟨g, 3, none⟩ = some (.int .i64 cj) := HC.cell 3
          have d4 : w7.cell? ⟨g, 4, none⟩ = some (.int .i64 cs) := HC.cell 4
          have d5 : w7.cell? ⟨g, 5, none⟩ = some (.bool pf) := HC.cell 5
          have d6 : w7.cell? ⟨g, 6, none⟩ = some (.bool pu) := HC.cell 6
          clear HC H6 H7 HS hix HB
          cases pf
          · clear HK d0 d1 d2 d3 d4 d6
            go_wp2_with fail
            go_roundw
            case rel => exact ⟨m + 1, by go_num, by omega, H8.out⟩
            case measure => simp [intOf]; omega
          · by_cases h10 : (n : Int) ≤ 10
            · have HHc : Hid (Calls Try.prog 22 #[.slice ao2 n2 c2, .agg #[.int .i64 ci, .int .i64 co, .int .i64 cd, .int .i64 cj, .int .i64 cs, .bool true, .bool pu]] w7 fun e w' => e = .returned (.bool true) ∧ Below w7.heap.size w7 w') := HH2.out w7 ⟨ci, co, cd, cj, cs, true, pu⟩ H8.out (clu_pf (List.mem_of_getElem? HK.out) (by have := HN.out; omega) rfl)
              clear HK
              go_wp2_with (go_at_call 22; refine HHc.out.mono ?_; rintro e w8 ⟨rfl, h8⟩)
              have HB9 : Hid (Below w3.heap.size w3 w8) := below_thru H8.out h8
              go_roundw
              case rel => exact ⟨m + 1, by go_num, by omega, HB9.out⟩
              case measure => simp [intOf]; omega
            · clear HK d0 d1 d2 d3 d4 d6
              go_wp2_with fail
              go_roundw
              case rel => exact ⟨m + 1, by go_num, by omega, H8.out⟩
              case measure => simp [intOf]; omega
        · have HC9 := HCl2.out wr HB.out
          have HBe : Hid (Below W.heap.size W wr) := below_thru HB1.out (below_thru HBa.out HB.out)
          have HSm : Hid (∀ y u, Rk u.heap.size u 7 y ((clu L).map cnL) → Below w3.heap.size w3 u → Calls Try.prog 16 #[y, .slice ao2 n2 c2] u fun e w' => e = .returned (.bool true) ∧ Below u.heap.size u w') := fun y u hy hb => same_any y _ (clu L) u _ _ hy (HYa.out u hb) (by have := clu_len' L; omega)
          go_wp2_with (first
            | (go_at_call 12; refine HC9.mono ?_; rintro e w9 ⟨y2, rfl, HY2, h9⟩)
            | (go_at_call 16; refine (HSm.out y2 w9 HY2.out.rk (below_thru HB.out h9.out)).mono ?_; rintro e w10 ⟨rfl, h10⟩))
          rw [hQ.out]
          go_ret
          exact ⟨rfl, below_thru HBe.out (below_thru h9.out h10)⟩
end Go.Proofs.Ytnjfmhabajcpoaa
