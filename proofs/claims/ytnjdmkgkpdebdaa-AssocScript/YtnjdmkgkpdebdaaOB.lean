/- assoc: the reference's Get, List. -/
import Derived.Test.YtnjdmkgkpdebdaaOA
namespace Go.Proofs.Ytnjdmkgkpdebdaa
open Go Go.RowKit Go.Sort
set_option linter.unusedVariables false
/-- who stands under a number -/
def idM (id : Int) : List Mb → Option Mb
  | [] => none
  | m :: t => if m.id = id then some m else idM id t
theorem idF_at (id : Int) : ∀ (l : List Mb) (k : Nat), (idF id l k = -1 ∧ idM id l = none) ∨ ∃ (i : Nat) (m : Mb), idF id l k = (k : Int) + i ∧ l[i]? = some m ∧ idM id l = some m ∧ m.id = id
  | [], k => .inl ⟨rfl, rfl⟩
  | n :: t, k => by
    by_cases h : n.id = id
    · exact .inr ⟨0, n, by rw [idF, if_pos h]; simp, rfl, by rw [idM, if_pos h], h⟩
    · rcases idF_at id t (k + 1) with ⟨h1, h2⟩ | ⟨i, m, h1, h2, h3, h4⟩
      · exact .inl ⟨by rw [idF, if_neg h]; exact h1, by rw [idM, if_neg h]; exact h2⟩
      · exact .inr ⟨i + 1, m, by rw [idF, if_neg h, h1]; push_cast; omega, by simpa using h2, by rw [idM, if_neg h]; exact h3, h4⟩
theorem en_cells {w : World} {ad : Addr} {m : Mb} (h : ∀ j u, (mbL m)[j]? = some u → w.cell? (ad.add j) = some u) : ∀ j u, (enL m)[j]? = some u → w.cell? (ad.add j) = some u := fun j u hu => by
  have hj : j < 15 := by
    rcases Nat.lt_or_ge j 15 with h | h
    · exact h
    · rw [List.getElem?_eq_none (by simpa [enL] using h)] at hu; cases hu
  refine h j u ?_
  rcases (show j = 0 ∨ j = 1 ∨ j = 2 ∨ j = 3 ∨ j = 4 ∨ j = 5 ∨ j = 6 ∨ j = 7 ∨ j = 8 ∨ j = 9 ∨ j = 10 ∨ j = 11 ∨ j = 12 ∨ j = 13 ∨ j = 14 by omega) with rfl | rfl | rfl | rfl | rfl | rfl | rfl | rfl | rfl | rfl | rfl | rfl | rfl | rfl | rfl <;> simpa [enL, mbL] using hu
set_option maxRecDepth 20000 in
set_option maxHeartbeats 1000000 in
theorem rget_any (d B : Nat) (l : List Mb) (id : Int) (w : World) (h : Rt w d B l) : Calls Try.prog 54 #[.pointer (some ⟨d, 0, none⟩), .int .i64 id] w fun e w' => e = .returned (.tuple #[.agg (enL ((idM id l).getD zMb)).toArray, .bool (idM id l).isSome]) ∧ Below w.heap.size w w' := by
  have HT : Hid (Rt w d B l) := h
  clear h
  obtain ⟨I, hI⟩ : ∃ I, idF id l 0 = I := ⟨_, rfl⟩
  have CA : Hid (∀ u, Rt u d B l → Calls Try.prog 50 #[.pointer (some ⟨d, 0, none⟩), .int .i64 id] u fun e w' => e = .returned (.int .i64 I) ∧ Below u.heap.size u w') := fun u hu => by rw [← hI]; exact rat_any d B l id u hu
  have hcs := idF_at id l 0
  rw [hI] at hcs
  clear hI
  go_enter Try.func54, Try.ntmps54
  refine post_hid fun Q hQ => ?_
  refine seq_hid fun R hR => ?_
  go_wp2_with (refine step_alL (by rfl) 81 rfl (enL zMb).toArray (fun u => by kernel_rfl) ?_; intro W g H1)
  rw [hR.out]
  clear hR
  have H2 : Hid (Rt W d B l) := HT.out.below H1.out.be
  go_upto_region 2 with (go_at_call 50; refine (CA.out W H2.out).mono ?_; rintro e w1 ⟨rfl, hb1⟩)
  have H3 : Hid (Rt w1 d B l ∧ Bk g w1 (enL zMb).toArray 81 ∧ Below w.heap.size w w1 ∧ w.heap.size ≤ g) := ⟨H2.out.below hb1, H1.out.bk.kept (hb1.block _ H1.out.bk.lt), below_thru H1.out.be hb1, Nat.le_of_eq H1.out.at'.symm⟩
  clear H1 H2 hb1 CA
  rcases hcs with ⟨rfl, hM⟩ | ⟨i, m, hI, hm, hM, hid⟩
  · have HM : Hid (idM id l = none) := hM
    clear hM
    go_wp2_with (refine step_stL (by rfl) _ _ rfl g (enL zMb).toArray (by rfl) (by rfl) (enL zMb).toArray (by kernel_rfl) (by kernel_rfl) (by kernel_rfl) H3.out.2.1 ?_; intro w2 H4)
    rw [hQ.out]
    rw [HM.out]
    exact bodyPost_ret (v := .tuple #[.agg (enL zMb).toArray, .bool false]) (results_ct Try.results54 _ _ g _ _ _ _ (by rfl) (by rfl) H4.out.bk Try.underlying81 rfl (by kernel_rfl)) rfl ⟨rfl, H4.out.below H3.out.2.2.1 H3.out.2.2.1.size H3.out.2.2.2⟩
  · have HM : Hid (idM id l = some m) := hM
    obtain ⟨ao, cap, hb, hr⟩ := H3.out.1.read
    obtain ⟨ad, g1, g3⟩ := hr w1 (Below.refl _ _) i m hm
    obtain ⟨n, hn⟩ : ∃ n, l.length = n := ⟨_, rfl⟩
    rw [hn] at hb
    have hin : (i : Int) < n := by
      rcases Nat.lt_or_ge i l.length with h | h
      · omega
      · rw [List.getElem?_eq_none h] at hm; cases hm
    have c0 : w1.cell? ⟨d, 0, none⟩ = some (.slice ao n cap) := hb.cell 0
    have hix := ix_rw n cap i g1 hin
    have hI2 : I = (i : Int) := by omega
    subst hI2
    have HS : Hid (∀ j u, (enL m)[j]? = some u → w1.cell? ((ad.add (i * 16)).add j) = some u) := en_cells g3
    have HS0 : Hid (∀ j u, (enL m)[j]? = some u → w1.cell? (((ad.add (i * 16)).add 0).add j) = some u) := fun j u hu => by rw [add_add, Nat.zero_add]; exact en_cells g3 j u hu
    clear hb hr g1 g3 hm hM hn hI hid
    go_wp2_with (first
      | (refine step_ldat 81 _ rfl rfl (ad.add (i * 16)) (by rfl) (enL m) _ Try.underlying81 rfl (by kernel_rfl) HS.out ?_)
      | (refine step_ldat 81 _ rfl rfl ((ad.add (i * 16)).add 0) (by rfl) (enL m) _ Try.underlying81 rfl (by kernel_rfl) HS0.out ?_)
      | (refine step_stL (by rfl) _ _ rfl g (enL m).toArray (by rfl) (by rfl) (enL zMb).toArray (by kernel_rfl) (by kernel_rfl) (by kernel_rfl) H3.out.2.1 ?_; intro w2 H4))
    rw [hQ.out]
    rw [HM.out]
    exact bodyPost_ret (v := .tuple #[.agg (enL m).toArray, .bool true]) (results_ct Try.results54 _ _ g _ _ _ _ (by rfl) (by rfl) H4.out.bk Try.underlying81 rfl (by kernel_rfl)) rfl ⟨rfl, H4.out.below H3.out.2.2.1 H3.out.2.2.1.size H3.out.2.2.2⟩
theorem tiEr : TI 89 81 15 104 := by
  refine ⟨Try.underlying89, ?_, by decide⟩
  have h : (Try.prog.info? 81).map (fun i => (i.zero, i.size, i.bytes)) = some (some (.agg (enL zMb).toArray), 15, 104) := by kernel_rfl
  cases hi : Try.prog.info? 81 with
  | none => rw [hi] at h; cases h
  | some i =>
    rw [hi] at h
    simp only [Option.map_some, Option.some.injEq, Prod.mk.injEq] at h
    exact ⟨i, _, rfl, h.1, h.2.1, h.2.2, rfl⟩
theorem tiRw : TI 78 83 16 112 := by
  refine ⟨Try.underlying78, ?_, by decide⟩
  have h : (Try.prog.info? 83).map (fun i => (i.zero, i.size, i.bytes)) = some (some (.agg (mbL zMb).toArray), 16, 112) := by kernel_rfl
  cases hi : Try.prog.info? 83 with
  | none => rw [hi] at h; cases h
  | some i =>
    rw [hi] at h
    simp only [Option.map_some, Option.some.injEq, Prod.mk.injEq] at h
    exact ⟨i, _, rfl, h.1, h.2.1, h.2.2, rfl⟩
theorem mbL_one (m : Mb) : ∀ u ∈ mbL m, u.oneCell' = true := by
  intro u hu
  simp only [mbL, List.mem_cons, List.not_mem_nil, or_false] at hu
  rcases hu with rfl | rfl | rfl | rfl | rfl | rfl | rfl | rfl | rfl | rfl | rfl | rfl | rfl | rfl | rfl | rfl <;> rfl
set_option maxRecDepth 20000 in
theorem run_bsEr (m : Mb) (u : World) : (Instr.buildSlice 89 1 #[(0, .agg (enL m).toArray)]).run Try.prog u = .ok (.slice (some ⟨u.heap.size, 0, none⟩) 1 1) (u.alloc (.cells (enL m).toArray 81)) := by
  kernel_rfl
set_option maxRecDepth 20000 in
theorem run_bsRw (m : Mb) (u : World) : (Instr.buildSlice 78 1 #[(0, .agg (mbL m).toArray)]).run Try.prog u = .ok (.slice (some ⟨u.heap.size, 0, none⟩) 1 1) (u.alloc (.cells (mbL m).toArray 83)) := by
  kernel_rfl
set_option maxRecDepth 20000 in
set_option maxHeartbeats 1000000 in
theorem rlist_any (d B : Nat) (l : List Mb) (w : World) (h : Rt w d B l) : Calls Try.prog 36 #[.pointer (some ⟨d, 0, none⟩)] w fun e w' => ∃ v, e = .returned v ∧ Hid (OR w' w.heap.size 81 15 v (l.map enL)) ∧ Hid (Below w.heap.size w w') := by
  obtain ⟨ao, cap, hb, hr⟩ := h.read
  have HR : Hid (∀ w', Below w.heap.size w w' → ∀ i m, l[i]? = some m → ∃ ad, ao = some ad ∧ ∀ j u, (mbL m)[j]? = some u → w'.cell? ((ad.add (i * 16)).add j) = some u) := hr
  obtain ⟨n, hn⟩ : ∃ n, l.length = n := ⟨_, rfl⟩
  have HN : Hid (l.length = n) := hn
  have hn16 : (n : Int) ≤ 16 := by have := h.len; omega
  rw [hn] at hb
  have c0 : w.cell? ⟨d, 0, none⟩ = some (.slice ao n cap) := hb.cell 0
  clear h hr hn hb
  go_enter Try.func36, Try.ntmps36
  refine post_hid fun Q hQ => ?_
  go_wp2_with fail
  go_loopw [3, 11] (fun v i wr => ∃ (k : Nat), i = .int .i64 k ∧ (k : Int) ≤ n ∧ Hid (OR wr w.heap.size 81 15 v ((l.take k).map enL) ∧ Below w.heap.size w wr)) (fun _ i _ => n - (intOf i).toNat)
  case atStart => exact ⟨0, rfl, by omega, ⟨OR.nil _ _ _ _, Below.refl _ _⟩⟩
  case round =>
    obtain ⟨k, rfl, hk, HB⟩ := hrel
    obtain ⟨v, hv⟩ : ∃ v, v = u3 := ⟨_, rfl⟩
    subst hv
    by_cases hlt : (k : Int) < n
    · have hkl : k < l.length := by rw [HN.out]; omega
      obtain ⟨m, hm⟩ : ∃ m, l[k]? = some m := ⟨_, List.getElem?_eq_getElem hkl⟩
      obtain ⟨ad, g1, g3⟩ := HR.out wr HB.out.2 k m hm
      have hix := ix_rw n cap k g1 hlt
      have HS : Hid (∀ j u, (mbL m)[j]? = some u → wr.cell? ((ad.add (k * 16)).add j) = some u) := g3
      have HK : Hid (l.take (k + 1) = l.take k ++ [m]) := by
        show _ = _
        rw [List.take_succ_eq_append_getElem hkl]
        rw [List.getElem?_eq_getElem hkl] at hm
        rw [Option.some.inj hm]
      have HLn : Hid (((l.take k).map enL).length ≤ 16) := by
        show _ ≤ _
        rw [List.length_map, List.length_take]
        omega
      clear g1 g3 hm hkl
      go_upto_region 5 with (first
        | (refine step_ldat 83 _ rfl rfl (ad.add (k * 16)) (by rfl) (mbL m) _ Try.underlying83 rfl (by kernel_rfl) HS.out ?_)
        | (refine step_alL (by rfl) 83 rfl (mbL zMb).toArray (fun u => by kernel_rfl) ?_; intro w3 g H3)
        | (refine step_stL (by rfl) _ _ rfl g (mbL m).toArray (by rfl) (by rfl) (mbL zMb).toArray (by kernel_rfl) (by kernel_rfl) (by kernel_rfl) H3.out.bk ?_; intro w4 H4))
      have H5 : Hid (OR w4 w.heap.size 81 15 v ((l.take k).map enL) ∧ Below w.heap.size w w4 ∧ Bk g w4 (mbL m).toArray 83) := by
        have hb := H4.out.below H3.out.be H3.out.be.size (Nat.le_of_eq H3.out.at'.symm)
        exact ⟨HB.out.1.below hb (Nat.le_refl _), below_thru HB.out.2 hb, H4.out.bk⟩
      clear H3 H4 HS
      have HSe : Hid (∀ j u, (enL m)[j]? = some u → w4.cell? ((⟨g, 0, none⟩ : Addr).add j) = some u) := en_cells (cells_of (l := mbL m) H5.out.2.2)
      go_wp2_with (first
        | (refine step_ldat 81 _ rfl rfl ⟨g, 0, none⟩ (by rfl) (enL m) _ Try.underlying81 rfl (by kernel_rfl) HSe.out ?_)
        | (refine step_bsL (by rfl) 89 81 _ rfl (.agg (enL m).toArray) (enL m) (by rfl) (run_bsEr m) ?_; intro w5 g5 H6)
        | (at_builtin; refine step_apL tiEr rfl _ _ rfl w.heap.size g5 v (enL m) (by rfl) (by rfl) rfl (enL_one m) w4 _ ?_ ?_ H5.out.1 H6.out H5.out.2.1.size ?_; (have := HLn.out; simp only [maxLen]; omega); (have := HLn.out; omega); intro v7 w7 H7))
      go_roundw
      case rel =>
        refine ⟨k + 1, by go_num, by omega, ⟨?_, H5.out.2.1.trans H7.out.2⟩⟩
        rw [HK.out, List.map_append]
        exact H7.out.1
      case measure => simp [intOf]; omega
    · have HE : Hid (l.take k = l) := List.take_of_length_le (by rw [HN.out]; omega)
      go_wp2_with fail
      rw [hQ.out]
      go_ret
      have h1 := HB.out.1
      rw [HE.out] at h1
      exact ⟨v, rfl, h1, HB.out.2⟩
end Go.Proofs.Ytnjdmkgkpdebdaa
