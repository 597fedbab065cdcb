/- ClusterPeers: whom mitigation follows. -/
import Derived.Test.YtnjfmhabajcpoaaClPd
import Derived.Test.YtnjfmhabajcpoaaClC0
import Derived.Test.YtnjfmhabajcpoaaClC1
namespace Go.Proofs.Ytnjfmhabajcpoaa
open Go Go.RowKit Go.Sort
set_option linter.unusedVariables false
theorem HT_step {L : List Cn} {k : Nat} {c : Cn} {p o j : Int} {q : Nat} {b7 b8 : Bool} (hc : L[k]? = some c) (h : plN (L.take k) = q ∧ (L.take k).any (prB p o j) = b7 ∧ (L.take k).any (plB p o j) = b8) :
    plN (L.take (k + 1)) = q + (if c.pu = true then 0 else 1) ∧ (L.take (k + 1)).any (prB p o j) = (b7 || prB p o j c) ∧ (L.take (k + 1)).any (plB p o j) = (b8 || plB p o j c) := by
  rw [take_snoc hc, plN_snoc, any_snoc', any_snoc', h.1, h.2.1, h.2.2]
  exact ⟨rfl, rfl, rfl⟩
theorem HU_step {L : List Cn} {k : Nat} {c : Cn} {p : Int} {b1 b2 : Bool} (hc : L[k]? = some c) (h : (L.take k).any (fnB p) = b1 ∧ (L.take k).any pdB = b2) :
    (L.take (k + 1)).any (fnB p) = (b1 || fnB p c) ∧ (L.take (k + 1)).any pdB = (b2 || pdB c) := by
  rw [take_snoc hc, any_snoc', any_snoc', h.1, h.2]
  exact ⟨rfl, rfl⟩
theorem clu_len (l : List Cn) : (clu l).length ≤ 10 := by
  have := clN_len 10 ((St.st ltc l).take 10)
  unfold clu
  rw [List.length_take] at this
  omega
set_option maxRecDepth 20000 in
set_option maxHeartbeats 8000000 in
theorem ClusterPeers_row (v : Value) (was : Int) (l : List Cn) (W : World) (h : Rk W.heap.size W 7 v (l.map cnL)) (ok : ∀ c ∈ l, okC c) (hl : l.length ≤ maxLen) (hw : -9223372036854775808 ≤ was ∧ was ≤ 9223372036854775807) : Calls Try.prog 8 #[v, .int .i64 was] W fun e w' => e = .returned (.bool true) ∧ Below W.heap.size W w' := by
  have HF : Hid (∀ u, Below W.heap.size W u → Calls Try.prog 11 #[v] u fun e w' => ∃ x, e = .returned x ∧ Hid (Rk W.heap.size u 7 x ((l.take 300).map cnL)) ∧ w' = u) := fun u hb => few_any v l u W.heap.size (h.below hb (Nat.le_refl _)) hl
  have HOK : Hid (∀ c ∈ l.take 300, okC c) := fun c hc => ok c (List.mem_of_mem_take hc)
  obtain ⟨L, hL⟩ : ∃ L, l.take 300 = L := ⟨_, rfl⟩
  have hLl : L.length ≤ 300 := by rw [← hL, List.length_take]; omega
  rw [hL] at HF HOK
  clear h ok hl hw hL
  go_enter Try.func8, Try.ntmps8
  refine post_hid fun Q hQ => ?_
  go_upto_region 3 with (go_at_call 10; refine (shown_any W).mono ?_; rintro e w1 ⟨rfl, hb1⟩)
  have HB1 : Hid (Below W.heap.size W w1) := hb1
  have HFc := HF.out w1 hb1
  clear hb1 HF
  go_upto_region 4 with (go_at_call 11; refine HFc.mono ?_; rintro e w2 ⟨x, rfl, HU, e2⟩)
  have e2' := e2.symm
  clear e2
  subst e2'
  obtain ⟨ao, cap, hx, hcap, hr⟩ := cands_read HU.out
  have HR : Hid (∀ w', Below w1.heap.size w1 w' → ∀ (i : Nat) c, L[i]? = some c → ∃ ad, ao = some ad ∧ ∀ j u, (cnL c)[j]? = some u → w'.cell? ((ad.add (i * 7)).add j) = some u) := fun w' hb i c hc => by
    obtain ⟨ad, h1, _, h2⟩ := hr w' (below_cells hb HB1.out.size) i c hc
    exact ⟨ad, h1, h2⟩
  obtain ⟨p, o, j, okb, pub, hM⟩ : ∃ p o j okb pub, mit L was = ⟨p, o, j, okb, pub⟩ := ⟨_, _, _, _, _, rfl⟩
  have HP := peers L was
  rw [hM] at HP
  have HP1 : Hid (okb = false → (⟨p, o, j, okb, pub⟩ : Rs4) = zRs ∧ (plN L = 0 ∨ 3 < L.length)) := HP.1
  have HP2 : Hid (okb = true → pub = true → L.any (plB p o j) = true ∧ 0 < plN L) := HP.2.1
  have HP3 : Hid (okb = true → pub = false → (clu L).any (fnB p) = true ∧ ((clu L).any pdB = true → L.any (prB p o j) = true)) := HP.2.2
  have HM : Hid (Calls Try.prog 20 #[x, .int .i64 was] w1 fun e w' => e = .returned (.agg #[.int .i64 p, .int .i64 o, .int .i64 j, .bool okb, .bool pub]) ∧ Below w1.heap.size w1 w') := by
    have := mitigate_any x L was w1 W.heap.size HU.out HB1.out.size (by omega) HOK.out
    rw [hM] at this
    exact this
  have HCl : Hid (∀ u, Below w1.heap.size w1 u → Calls Try.prog 12 #[x] u fun e w' => ∃ y, e = .returned y ∧ Hid (OR w' u.heap.size 25 7 y ((clu L).map cnL)) ∧ Hid (Below u.heap.size u w')) := fun u hb => cluster_any x L u W.heap.size (HU.out.below hb HB1.out.size) (Nat.le_trans HB1.out.size hb.size) (by omega) HOK.out
  obtain ⟨n, hn⟩ : ∃ n, L.length = n := ⟨_, rfl⟩
  rw [hn] at hx hLl HP1
  have HN : Hid (L.length = n) := hn
  subst hx
  have hn3 : (n : Int) ≤ 300 := by omega
  clear HP hM HU HOK hr hcap hn hLl
  go_upto_region 5 with (first
    | (go_at_call 20; refine HM.out.mono ?_; rintro e w3 ⟨rfl, h3⟩)
    | (refine step_alL (by rfl) 36 rfl (rsL zRs).toArray (fun u => by kernel_rfl) ?_; intro w4 g H4)
    | (refine step_stL (by rfl) _ _ rfl g #[.int .i64 p, .int .i64 o, .int .i64 j, .bool okb, .bool pub] (by rfl) (by rfl) (rsL zRs).toArray (by kernel_rfl) (by kernel_rfl) (by kernel_rfl) H4.out.bk ?_; intro w5 H5))
  have HG : Hid (Bk g w5 #[.int .i64 p, .int .i64 o, .int .i64 j, .bool okb, .bool pub] 36 ∧ Below w1.heap.size w1 w5) := ⟨H5.out.bk, below_thru h3 (H5.out.below H4.out.be H4.out.be.size (Nat.le_of_eq H4.out.at'.symm))⟩
  clear H4 H5 h3 HM
  go_frame
  go_wp2_with fail
  go_loopw [6, 7, 8, 10, 24] (fun v6 v7 v8 _ i wr => ∃ (k q : Nat) (b7 b8 : Bool), v6 = .int .i64 q ∧ v7 = .bool b7 ∧ v8 = .bool b8 ∧ i = .int .i64 k ∧ (k : Int) ≤ n ∧ (q : Int) ≤ k ∧ Hid (plN (L.take k) = q ∧ (L.take k).any (prB p o j) = b7 ∧ (L.take k).any (plB p o j) = b8) ∧ Hid (Below w5.heap.size w5 wr)) (fun _ _ _ _ i _ => n - (intOf i).toNat)
  case atStart => exact ⟨0, 0, false, false, rfl, rfl, rfl, rfl, by omega, by omega, ⟨rfl, rfl, rfl⟩, Below.refl _ _⟩
  case round =>
    obtain ⟨k, q, b7, b8, rfl, rfl, rfl, rfl, hk, hq, HT, HB⟩ := hrel
    by_cases hlt : (k : Int) < n
    · obtain ⟨c, hc⟩ : ∃ c, L[k]? = some c := ⟨_, List.getElem?_eq_getElem (by have := HN.out; omega)⟩
      obtain ⟨ad, g1, g3⟩ := HR.out wr (below_thru HG.out.2 HB.out) k c hc
      have hix := ix_C n cap k g1 hlt
      have HS : Hid (∀ j u, (cnL c)[j]? = some u → wr.cell? ((ad.add (k * 7)).add j) = some u) := g3
      have HT2 : Hid _ := HT_step hc HT.out
      clear g1 g3 hc
      go_upto_region 9 with (first
        | (refine step_ldat 25 _ rfl rfl (ad.add (k * 7)) (by rfl) (cnL c) _ Try.underlying25 rfl (by kernel_rfl) HS.out ?_)
        | (refine step_alL (by rfl) 25 rfl (cnL zCn).toArray (fun u => by kernel_rfl) ?_; intro w6 g2 H6)
        | (refine step_stL (by rfl) _ _ rfl g2 (cnL c).toArray (by rfl) (by rfl) (cnL zCn).toArray (by kernel_rfl) (by kernel_rfl) (by kernel_rfl) H6.out.bk ?_; intro w7 H7))
      have H8 : Hid (Below w5.heap.size w5 w7) := below_thru HB.out (H7.out.below H6.out.be H6.out.be.size (Nat.le_of_eq H6.out.at'.symm))
      have HC := H7.out.bk
      obtain ⟨ci, co, cd, cj, cs, pf, pu⟩ := c
      have hGk : Bk g w7 #[.int .i64 p, .int .i64 o, .int .i64 j, .bool okb, .bool pub] 36 := HG.out.1.kept (H8.out.block _ HG.out.1.lt)
      have d0 : w7.cell? ⟨g2, 0, none⟩ = some (.int .i64 ci) := HC.cell 0
      have d1 : w7.cell? ⟨g2, 1, none⟩ = some (.int .i64 co) := HC.cell 1
      have d3 : w7.cell? ⟨g2, 3, none⟩ = some (.int .i64 cj) := HC.cell 3
      have d5 : w7.cell? ⟨g2, 5, none⟩ = some (.bool pf) := HC.cell 5
      have d6 : w7.cell? ⟨g2, 6, none⟩ = some (.bool pu) := HC.cell 6
      have m0 : w7.cell? ⟨g, 0, none⟩ = some (.int .i64 p) := hGk.cell 0
      have m1 : w7.cell? ⟨g, 1, none⟩ = some (.int .i64 o) := hGk.cell 1
      have m2 : w7.cell? ⟨g, 2, none⟩ = some (.int .i64 j) := hGk.cell 2
      obtain ⟨I, hI⟩ : ∃ I, (ci == p) = I := ⟨_, rfl⟩
      obtain ⟨O, hO⟩ : ∃ I, (co == o) = I := ⟨_, rfl⟩
      obtain ⟨J, hJ⟩ : ∃ I, (cj == j) = I := ⟨_, rfl⟩
      have HT3 : Hid (plN (L.take (k + 1)) = q + (if pu = true then 0 else 1) ∧ (L.take (k + 1)).any (prB p o j) = (b7 || (pf && !pu && I && O && J)) ∧ (L.take (k + 1)).any (plB p o j) = (b8 || (pu && I && O && J))) := by
        rw [← hI, ← hO, ← hJ]; exact HT2.out
      clear HC hGk H6 H7 HT HT2 HS hix HB
      cases pu
      · have hc11 : Hid (b7 = true ∨ (b7 = false ∧ pf = false) ∨ (b7 = false ∧ pf = true ∧ I = false) ∨ (b7 = false ∧ pf = true ∧ I = true ∧ O = false) ∨ (b7 = false ∧ pf = true ∧ I = true ∧ O = true ∧ J = false) ∨ (b7 = false ∧ pf = true ∧ I = true ∧ O = true ∧ J = true)) := by
          show b7 = true ∨ (b7 = false ∧ pf = false) ∨ (b7 = false ∧ pf = true ∧ I = false) ∨ (b7 = false ∧ pf = true ∧ I = true ∧ O = false) ∨ (b7 = false ∧ pf = true ∧ I = true ∧ O = true ∧ J = false) ∨ (b7 = false ∧ pf = true ∧ I = true ∧ O = true ∧ J = true)
          cases b7 <;> cases pf <;> cases I <;> cases O <;> cases J <;> simp
        have hc12 : Hid (b8 = true ∨ b8 = false) := by
          show b8 = true ∨ b8 = false
          cases b8 <;> simp
        go_upto_region 11 with fail
        go_cut [7] from 33 to 63 (fun x wx => x = .bool (b7 || (pf && !false && I && O && J)) ∧ wx = w7)
        case first =>
          clear hc12 HT3
          have hc := hc11.out
          clear hc11
          rcases hc with rfl | ⟨rfl, rfl⟩ | ⟨rfl, rfl, rfl⟩ | ⟨rfl, rfl, rfl, rfl⟩ | ⟨rfl, rfl, rfl, rfl, rfl⟩ | ⟨rfl, rfl, rfl, rfl, rfl⟩
          all_goals go_wp2_with fail
          all_goals
            go_meet
            case rel => exact ⟨by first | rfl | simp, rfl⟩
        case rest =>
          obtain ⟨rfl, rfl⟩ := hcut
          obtain ⟨B7, hB7⟩ : ∃ B, (b7 || (pf && !false && I && O && J)) = B := ⟨_, rfl⟩
          rw [hB7] at HT3 ⊢
          clear hB7 hc11
          have hc := hc12.out
          clear hc12
          rcases hc with rfl | rfl
          all_goals go_wp2_with fail
          all_goals
            go_roundw
            case rel => exact ⟨k + 1, q + 1, B7, _, by go_num, rfl, rfl, by go_num, by omega, by omega, HT3.out, H8.out⟩
            case measure => simp [intOf]; omega
      · have hc11 : Hid (b7 = true ∨ (b7 = false ∧ pf = false) ∨ (b7 = false ∧ pf = true)) := by
          show b7 = true ∨ (b7 = false ∧ pf = false) ∨ (b7 = false ∧ pf = true)
          cases b7 <;> cases pf <;> simp
        have hc12 : Hid (b8 = true ∨ (b8 = false ∧ I = false) ∨ (b8 = false ∧ I = true ∧ O = false) ∨ (b8 = false ∧ I = true ∧ O = true ∧ J = false) ∨ (b8 = false ∧ I = true ∧ O = true ∧ J = true)) := by
          show b8 = true ∨ (b8 = false ∧ I = false) ∨ (b8 = false ∧ I = true ∧ O = false) ∨ (b8 = false ∧ I = true ∧ O = true ∧ J = false) ∨ (b8 = false ∧ I = true ∧ O = true ∧ J = true)
          cases b8 <;> cases I <;> cases O <;> cases J <;> simp
        go_upto_region 11 with fail
        go_cut [7] from 33 to 63 (fun x wx => x = .bool (b7 || (pf && !true && I && O && J)) ∧ wx = w7)
        case first =>
          clear hc12 HT3
          have hc := hc11.out
          clear hc11
          rcases hc with rfl | ⟨rfl, rfl⟩ | ⟨rfl, rfl⟩
          all_goals go_wp2_with fail
          all_goals
            go_meet
            case rel => exact ⟨by first | rfl | simp, rfl⟩
        case rest =>
          obtain ⟨rfl, rfl⟩ := hcut
          obtain ⟨B7, hB7⟩ : ∃ B, (b7 || (pf && !true && I && O && J)) = B := ⟨_, rfl⟩
          rw [hB7] at HT3 ⊢
          clear hB7 hc11
          have hc := hc12.out
          clear hc12
          rcases hc with rfl | ⟨rfl, rfl⟩ | ⟨rfl, rfl, rfl⟩ | ⟨rfl, rfl, rfl, rfl⟩ | ⟨rfl, rfl, rfl, rfl⟩
          all_goals go_wp2_with fail
          all_goals
            go_roundw
            case rel => exact ⟨k + 1, q, B7, _, by go_num, rfl, rfl, by go_num, by omega, by omega, HT3.out, H8.out⟩
            case measure => simp [intOf]; omega
    · have hkn : k = n := by omega
      subst hkn
      have HZ : Hid (L.take k = L) := List.take_of_length_le (by rw [HN.out]; exact Nat.le_refl _)
      have HT1 : Hid (plN L = q ∧ L.any (prB p o j) = b7 ∧ L.any (plB p o j) = b8) := by
        have := HT.out
        rw [HZ.out] at this
        exact this
      have hGk : Bk g wr #[.int .i64 p, .int .i64 o, .int .i64 j, .bool okb, .bool pub] 36 := HG.out.1.kept (HB.out.block _ HG.out.1.lt)
      have m3 : wr.cell? ⟨g, 3, none⟩ = some (.bool okb) := hGk.cell 3
      have m4 : wr.cell? ⟨g, 4, none⟩ = some (.bool pub) := hGk.cell 4
      have HBe : Hid (Below W.heap.size W wr) := below_thru HB1.out (below_thru HG.out.2 HB.out)
      have HGk : Hid (Bk g wr #[.int .i64 p, .int .i64 o, .int .i64 j, .bool okb, .bool pub] 36) := hGk
      clear HT HZ hGk
      cases okb
      · obtain ⟨e1, e2⟩ := HP1.out rfl
        rw [HT1.out.1] at e2
        have e3 := Rs4.mk.inj e1
        obtain ⟨rfl, rfl, rfl, _, rfl⟩ := e3
        have e5 : q = 0 ∨ (q ≠ 0 ∧ 3 < k) := by omega
        have HGc : Hid (∀ j u, ([.int .i64 0, .int .i64 0, .int .i64 0, .bool false, .bool false] : List Value)[j]? = some u → wr.cell? ((⟨g, 0, none⟩ : Addr).add j) = some u) := cells_of (l := [.int .i64 0, .int .i64 0, .int .i64 0, .bool false, .bool false]) HGk.out
        clear HP1 HP2 HP3 HT1 e1 e2 HGk HCl HR HN HB HG
        rcases e5 with rfl | ⟨e6, e7⟩
        · go_wp2_with (first
            | (refine step_ldat 36 _ rfl rfl ⟨g, 0, none⟩ (by rfl) [.int .i64 0, .int .i64 0, .int .i64 0, .bool false, .bool false] _ Try.underlying36 rfl (by kernel_rfl) HGc.out ?_)
            | (refine step_bdL (by rfl) 36 [] rfl [] (by rfl) (.agg #[.int .i64 0, .int .i64 0, .int .i64 0, .bool false, .bool false]) (by kernel_rfl) ?_))
          rw [hQ.out]
          go_ret
          exact ⟨rfl, HBe.out⟩
        · have e8 : ((q : Int) == 0) = false := by simpa using e6
          have e9 : (3 : Int) < k := by omega
          go_wp2_with (first
            | (refine step_ldat 36 _ rfl rfl ⟨g, 0, none⟩ (by rfl) [.int .i64 0, .int .i64 0, .int .i64 0, .bool false, .bool false] _ Try.underlying36 rfl (by kernel_rfl) HGc.out ?_)
            | (refine step_bdL (by rfl) 36 [] rfl [] (by rfl) (.agg #[.int .i64 0, .int .i64 0, .int .i64 0, .bool false, .bool false]) (by kernel_rfl) ?_))
          rw [hQ.out]
          go_ret
          exact ⟨rfl, HBe.out⟩
      · cases pub
        · have HE : Hid ((clu L).any (fnB p) = true ∧ ((clu L).any pdB = true → b7 = true)) := by
            have := HP3.out rfl rfl
            rw [HT1.out.2.1] at this
            exact this
          have HC2 := HCl.out wr (below_thru HG.out.2 HB.out)
          clear HP1 HP2 HP3 HT1 HCl HR HN
          go_upto_region 20 with (go_at_call 12; refine HC2.mono ?_; rintro e w8 ⟨y, rfl, HY, h8⟩; obtain ⟨ao2, c2, hy⟩ := or_len HY.out; obtain ⟨n2, hn2⟩ : ∃ n2, ((clu L).map cnL).length = n2 := ⟨_, rfl⟩; rw [hn2] at hy; subst hy)
          obtain ⟨ao3, cap3, hv3, _, hr3⟩ := cands_read HY.out.rk
          injection hv3 with v1 v2 v3
          subst v1 v3
          have HN2 : Hid ((clu L).length = n2) := v2.symm
          have HR2 : Hid (∀ w', Below w8.heap.size w8 w' → ∀ (i : Nat) c, (clu L)[i]? = some c → ∃ ad, ao2 = some ad ∧ ∀ j u, (cnL c)[j]? = some u → w'.cell? ((ad.add (i * 7)).add j) = some u) := fun w' hb i c hc => by
            obtain ⟨ad, h1, _, h2⟩ := hr3 w' (below_cells hb (Nat.le_refl _)) i c hc
            exact ⟨ad, h1, h2⟩
          have HG2 : Hid (Bk g w8 #[.int .i64 p, .int .i64 o, .int .i64 j, .bool true, .bool false] 36 ∧ Below W.heap.size W w8) := ⟨HGk.out.kept (h8.out.block _ HGk.out.lt), below_thru HBe.out h8.out⟩
          have hn10 : (n2 : Int) ≤ 10 := by have := clu_len L; have := HN2.out; omega
          clear hr3 v2 hn2 HY h8 HC2 HGk HBe HB HG
          go_loopw [11, 12, 14, 116] (fun v11 v12 _ i wx => ∃ (m : Nat) (b1 b2 : Bool), v11 = .bool b1 ∧ v12 = .bool b2 ∧ i = .int .i64 m ∧ (m : Int) ≤ n2 ∧ Hid (((clu L).take m).any (fnB p) = b1 ∧ ((clu L).take m).any pdB = b2) ∧ Hid (Below w8.heap.size w8 wx)) (fun _ _ _ i _ => n2 - (intOf i).toNat)
          case atStart => exact ⟨0, false, false, rfl, rfl, rfl, by omega, ⟨rfl, rfl⟩, Below.refl _ _⟩
          case round =>
            obtain ⟨m, b1, b2, rfl, rfl, rfl, hm, HT, HB⟩ := hrel
            by_cases hlt : (m : Int) < n2
            · obtain ⟨c, hc⟩ : ∃ c, (clu L)[m]? = some c := ⟨_, List.getElem?_eq_getElem (by have := HN2.out; omega)⟩
              obtain ⟨ad, g1, g3⟩ := HR2.out wr HB.out m c hc
              have hix := ix_C n2 c2 m g1 hlt
              have HS : Hid (∀ j u, (cnL c)[j]? = some u → wr.cell? ((ad.add (m * 7)).add j) = some u) := g3
              have HT2 : Hid _ := HU_step hc HT.out
              clear g1 g3 hc
              go_upto_region 22 with (first
                | (refine step_ldat 25 _ rfl rfl (ad.add (m * 7)) (by rfl) (cnL c) _ Try.underlying25 rfl (by kernel_rfl) HS.out ?_)
                | (refine step_alL (by rfl) 25 rfl (cnL zCn).toArray (fun u => by kernel_rfl) ?_; intro w6 g2 H6)
                | (refine step_stL (by rfl) _ _ rfl g2 (cnL c).toArray (by rfl) (by rfl) (cnL zCn).toArray (by kernel_rfl) (by kernel_rfl) (by kernel_rfl) H6.out.bk ?_; intro w7 H7))
              have H8 : Hid (Below w8.heap.size w8 w7) := below_thru HB.out (H7.out.below H6.out.be H6.out.be.size (Nat.le_of_eq H6.out.at'.symm))
              have HC := H7.out.bk
              obtain ⟨ci, co, cd, cj, cs, pf, pu⟩ := c
              have hGk : Bk g w7 #[.int .i64 p, .int .i64 o, .int .i64 j, .bool true, .bool false] 36 := HG2.out.1.kept (H8.out.block _ HG2.out.1.lt)
              have d0 : w7.cell? ⟨g2, 0, none⟩ = some (.int .i64 ci) := HC.cell 0
              have d5 : w7.cell? ⟨g2, 5, none⟩ = some (.bool pf) := HC.cell 5
              have d6 : w7.cell? ⟨g2, 6, none⟩ = some (.bool pu) := HC.cell 6
              have m0 : w7.cell? ⟨g, 0, none⟩ = some (.int .i64 p) := hGk.cell 0
              obtain ⟨I, hI⟩ : ∃ I, (ci == p) = I := ⟨_, rfl⟩
              have HT3 : Hid (((clu L).take (m + 1)).any (fnB p) = (b1 || (I && !pu)) ∧ ((clu L).take (m + 1)).any pdB = (b2 || (pf && !pu))) := by
                rw [← hI]; exact HT2.out
              clear HC hGk H6 H7 HT HT2 HS hix HB
              have hc1 : b1 = true ∨ (b1 = false ∧ I = false) ∨ (b1 = false ∧ I = true) := by cases b1 <;> cases I <;> simp
              have hc2 : b2 = true ∨ (b2 = false ∧ pf = false) ∨ (b2 = false ∧ pf = true) := by cases b2 <;> cases pf <;> simp
              rcases hc1 with rfl | ⟨rfl, rfl⟩ | ⟨rfl, rfl⟩ <;> rcases hc2 with rfl | ⟨rfl, rfl⟩ | ⟨rfl, rfl⟩ <;> cases pu
              all_goals go_wp2_with fail
              all_goals
                go_roundw
                case rel => exact ⟨m + 1, _, _, rfl, rfl, by go_num, by omega, HT3.out, H8.out⟩
                case measure => simp [intOf]; omega
            · have hmn : m = n2 := by omega
              subst hmn
              have HZ : Hid ((clu L).take m = clu L) := List.take_of_length_le (by rw [HN2.out]; exact Nat.le_refl _)
              have hE := HE.out
              have hT := HT.out
              rw [HZ.out] at hT
              rw [hT.1, hT.2] at hE
              obtain ⟨hE1, hE2⟩ := hE
              subst hE1
              have HBe : Hid (Below W.heap.size W wr) := below_thru HG2.out.2 HB.out
              clear hT HT HE HZ HN2 HR2
              cases b2
              · clear hE2
                go_wp2_with fail
                rw [hQ.out]
                go_ret
                exact ⟨rfl, HBe.out⟩
              · have hE3 := hE2 rfl
                subst hE3
                go_wp2_with fail
                rw [hQ.out]
                go_ret
                exact ⟨rfl, HBe.out⟩
        · obtain ⟨e1, e2⟩ := HP2.out rfl rfl
          rw [HT1.out.1] at e2
          rw [HT1.out.2.2] at e1
          subst e1
          have e3 : (0 : Int) < q := by omega
          clear HP1 HP2 HP3 HT1
          go_wp2_with fail
          rw [hQ.out]
          go_ret
          exact ⟨rfl, HBe.out⟩
end Go.Proofs.Ytnjfmhabajcpoaa
