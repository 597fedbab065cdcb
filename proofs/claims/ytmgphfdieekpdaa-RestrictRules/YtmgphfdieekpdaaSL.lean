/- RestrictRules. -/
import Derived.Test.YtmgphfdieekpdaaSK
import Derived.Test.YtmgphfdieekpdaaSF
import Derived.Test.YtmgphfdieekpdaaRS
namespace Go.Proofs.Ytmgphfdieekpdaa
open Go Go.RowKit Go.Sort
theorem sr_both {xs : List Ru} {w8 w9 : World} {B B' : Nat} {va vb : Value} {er er' : Int} (h1 : srR xs w8 B va er) (h2 : rsR xs w9 B' vb er') : er' = er ∧ ∃ zs : List Ru, zs.length ≤ 32 ∧ OR w8 B 26 3 va (zs.map ruL) ∧ OR w9 B' 26 3 vb (zs.map ruL) := by
  rcases h1 with ⟨e1, h3, v1⟩ | ⟨e1, h3, h4, v1⟩ | ⟨e1, h3, h4, ys, hp, hs, ho⟩ <;> rcases h2 with ⟨e2, k3, v2⟩ | ⟨e2, k3, k4, v2⟩ | ⟨e2, k3, k4, ko⟩
  · exact ⟨by omega, [], by simp, by rw [v1]; exact OR.nil _ _ _ _, by rw [v2]; exact OR.nil _ _ _ _⟩
  · omega
  · omega
  · omega
  · exact ⟨by omega, [], by simp, by rw [v1]; exact OR.nil _ _ _ _, by rw [v2]; exact OR.nil _ _ _ _⟩
  · exact absurd k4 h4
  · omega
  · exact absurd h4 k4
  · refine ⟨by omega, insF xs, ?_, ?_, ko⟩
    · have := insF_len xs; omega
    · rw [← jn_ins hp hs]; exact ho
theorem OR.len3 {w : World} {B : Nat} {e : TypeId} {v : Value} {rows : List (List Value)} (h : OR w B e 3 v rows) (i : Nat) (hi : i < rows.length) : ∃ u, (rows.getD i [])[2]? = some u := by
  have h1 : (rows.getD i []).length = 3 := by
    rw [List.getD_eq_getElem?_getD, List.getElem?_eq_getElem hi]; exact h.len _ (List.getElem_mem hi)
  exact ⟨_, List.getElem?_eq_getElem (by omega)⟩
set_option maxHeartbeats 2000000 in
theorem RestrictRules_row (v : Value) (x : Int) (xs : List Ru) (w : World) (ha : Rk w.heap.size w 3 v (xs.map ruL)) (hra : Ra' v) (hb : ∀ a ∈ xs, U32 a.addr ∧ I64 a.bits ∧ I64 a.flags) (hl : xs.length * 24 ≤ 140737488351232) (hx : U32 x) :
    Calls Try.prog 4 #[v, .int .u32 x] w fun e w' => e = .returned (.bool true) ∧ Below w.heap.size w w' := by
  have hw : ∀ a ∈ xs, 0 ≤ a.addr ∧ a.addr < 4294967296 := fun a h => (hb a h).1
  have HA : Hid (Rk w.heap.size w 3 v (xs.map ruL) ∧ Ra v ∧ (∀ a ∈ xs, 0 ≤ a.addr ∧ a.addr < 4294967296) ∧ xs.length * 24 ≤ 140737488351232) := ⟨ha, hra, hw, hl⟩
  have HX : Hid (0 ≤ x ∧ x < 4294967296) := hx
  obtain ⟨ao, cap, hav, -, -⟩ := ha.ru
  subst hav
  clear ha hra hb hl hw hx
  obtain ⟨L, hL⟩ : ∃ L, L = xs.length := ⟨_, rfl⟩
  rw [← hL] at HA ⊢
  have HL : Hid (L = xs.length) := hL
  have lb : (L : Int) ≤ 140737488355328 := by have := HA.out.2.2.2; omega
  clear hL
  go_enter Try.func4, Try.ntmps4
  go_wp2_with fail
  refine (shown_any w).mono ?_
  rintro e w1 ⟨rfl, hb1⟩
  have HB1 : Hid (Below w.heap.size w w1) := hb1
  clear hb1
  have HA1 : Hid (Rk w.heap.size w1 3 (.slice ao L cap) (xs.map ruL)) := HA.out.1.below HB1.out (Nat.le_refl _)
  have HN1 : Hid (([] : List (List Value)).length + (xs.map ruL).length ≤ maxLen ∧ (([] : List (List Value)).length + (xs.map ruL).length) * 24 ≤ 140737488355328) := by
    have h := HA.out.2.2.2
    have h' := HL.out
    refine ⟨?_, ?_⟩
    · rw [List.length_map, List.length_nil]; unfold maxLen; omega
    · rw [List.length_map, List.length_nil]; omega
  go_wp2_with (refine wpList_appk tiRu (by rfl) _ _ (by rfl) w1.heap.size w.heap.size (.slice none 0 0) (.slice ao L cap) [] (xs.map ruL) (by rfl) (by rfl) (OR.nil _ _ _ _) HA1.out HA.out.2.1 (ru_len3 _) (ru_one3 _) HN1.out.1 HN1.out.2 (Nat.le_refl _) ?_)
  intro ov w2 ho hg hv
  have hox : OR w2 w1.heap.size 26 3 ov (xs.map ruL) := by simpa using ho
  have HO2 : Hid (OR w2 w1.heap.size 26 3 ov (xs.map ruL)) := hox
  have HB2 : Hid (Below w.heap.size w w2) := HB1.out.trans (((Below.refl _ _).grown hg (Nat.le_refl _) (fun q hq => by cases hq)).mono HB1.out.size)
  clear ho hg hv hox
  go_wp2_with fail
  refine (match_any w2.heap.size ov xs x _ (Nat.le_refl _) HO2.out.rk (by have := HL.out; omega) HA.out.2.2.1 HX.out.1 HX.out.2).mono ?_
  rintro e w3 ⟨rfl, hb3⟩
  have HB3 : Hid (Below w2.heap.size w2 w3) := hb3
  clear hb3
  go_wp2_with fail
  refine (rmatch_any w.heap.size _ xs x _ (Nat.le_trans HB2.out.size HB3.out.size) (HA.out.1.below (HB2.out.trans (HB3.out.mono HB2.out.size)) (Nat.le_refl _)) (by have := HL.out; omega) HA.out.2.2.1 HX.out.1 HX.out.2).mono ?_
  rintro e w4 ⟨rfl, hb4⟩
  have HB4 : Hid (Below w2.heap.size w2 w4) := HB3.out.trans (hb4.mono HB3.out.size)
  clear hb4
  generalize mtF x xs = R
  go_wp2_with fail
  go_loopw [26] (fun iv wr => ∃ k : Nat, iv = .int .i64 (k : Int) ∧ (k : Int) ≤ L ∧ Hid (Below w2.heap.size w2 wr)) (fun iv _ => (L - intOf iv).toNat)
  case atStart => exact ⟨0, by go_num, by omega, HB4⟩
  case round =>
    obtain ⟨k, rfl, hk, hB⟩ := hrel
    have HBw : Hid (Below w.heap.size w wr) := HB2.out.trans (hB.out.mono HB2.out.size)
    by_cases hlt : (k : Int) < L
    · have hkx : k < xs.length := by have := HL.out; omega
      obtain ⟨ad, g1, g2, g3⟩ := HA.out.1.at3 k hkx
      have hix : ∀ w, Sem.run Try.prog (Instr.indexAt 22 (.slice ao L cap) (.int .i64 (k : Int))) w = .ok (.pointer (some (ad.add (k * 3)))) w := ix_ru L cap k g1 hlt
      have HC : Hid (∀ j u, (ruL xs[k])[j]? = some u → wr.cell? ((ad.add (k * 3)).add j) = some u) := fun j u hu => by
        rw [HBw.out.cell (p := (ad.add (k * 3)).add j) (by rw [add_block, add_block]; exact g2)]
        exact g3 j u hu
      obtain ⟨E, hE⟩ : ∃ E, E = xs[k] := ⟨_, rfl⟩
      obtain ⟨A, hA0⟩ : ∃ A, A = ad.add (k * 3) := ⟨_, rfl⟩
      rw [← hA0] at hix HC
      rw [← hE] at HC
      have hab := HA.out.2.2.1 xs[k] (List.getElem_mem hkx)
      rw [← hE] at hab
      clear hA0 g1 g2 g3 hE
      obtain ⟨x0, x1, x2⟩ := E
      unfold ruL at HC
      simp only at HC hab
      obtain ⟨C, hC⟩ : ∃ C, C = ckR ⟨x0, x1, x2⟩ := ⟨_, rfl⟩
      have HK1 : Hid (∀ u, Calls Try.prog 12 #[.agg #[.int .u32 x0, .int .i64 x1, .int .i64 x2]] u fun e w' => e = .returned (.int .i64 C) ∧ Below u.heap.size u w') := fun u => by rw [hC]; exact check_any x0 x1 x2 u hab.1
      have HK2 : Hid (∀ u, Calls Try.prog 13 #[.agg #[.int .u32 x0, .int .i64 x1, .int .i64 x2]] u fun e w' => e = .returned (.int .i64 C) ∧ Below u.heap.size u w') := fun u => by rw [hC]; exact rcheck_any x0 x1 x2 u hab.1 hab.2
      clear hC hab
      go_wp2_with (refine step_ldat 26 _ (by rfl) (by rfl) A (by rfl) [.int .u32 x0, .int .i64 x1, .int .i64 x2] _ Try.underlying26 (by rfl) ru_info ?_ ?_; exact HC.out)
      generalize hU : World.alloc _ _ = U
      have c0 : U.cell? ⟨wr.heap.size, 0, none⟩ = some (.int .u32 x0) := by rw [← hU]; simp
      have c1 : U.cell? ⟨wr.heap.size, 1, none⟩ = some (.int .i64 x1) := by rw [← hU]; simp
      have c2 : U.cell? ⟨wr.heap.size, 2, none⟩ = some (.int .i64 x2) := by rw [← hU]; simp
      have HU : Hid (Below w2.heap.size w2 U ∧ wr.heap.size < U.heap.size) := by
        rw [← hU]
        exact ⟨hB.out.alloc hB.out.size _, by simp⟩
      clear hU hix
      go_region_held3 (fun w' => w'.cell? ⟨wr.heap.size, 0, none⟩ = some (.int .u32 x0) ∧ w'.cell? ⟨wr.heap.size, 1, none⟩ = some (.int .i64 x1) ∧ w'.cell? ⟨wr.heap.size, 2, none⟩ = some (.int .i64 x2)) (first | exact ⟨e0, e1, e2⟩ | exact ⟨d0, d1, d2⟩ | exact ⟨c0, c1, c2⟩ | go_keep) (first
        | (go_at_call 12; refine (HK1.out _).mono ?_; rintro e w5 ⟨rfl, hb5⟩; have HB5 : Hid (Below U.heap.size U w5) := (by first | exact hb5 | exact ((Below.refl _ _).drew).trans hb5); have d0 : w5.cell? ⟨wr.heap.size, 0, none⟩ = some (.int .u32 x0) := (by rw [HB5.out.cell (p := ⟨wr.heap.size, 0, none⟩) HU.out.2]; exact c0); have d1 : w5.cell? ⟨wr.heap.size, 1, none⟩ = some (.int .i64 x1) := (by rw [HB5.out.cell (p := ⟨wr.heap.size, 1, none⟩) HU.out.2]; exact c1); have d2 : w5.cell? ⟨wr.heap.size, 2, none⟩ = some (.int .i64 x2) := (by rw [HB5.out.cell (p := ⟨wr.heap.size, 2, none⟩) HU.out.2]; exact c2); clear hb5)
        | (go_at_call 13; refine (HK2.out _).mono ?_; rintro e w6 ⟨rfl, hb6⟩; have HB6 : Hid (Below U.heap.size U w6) := HB5.out.trans (hb6.mono HB5.out.size); have e0 : w6.cell? ⟨wr.heap.size, 0, none⟩ = some (.int .u32 x0) := (by rw [HB6.out.cell (p := ⟨wr.heap.size, 0, none⟩) HU.out.2]; exact c0); have e1 : w6.cell? ⟨wr.heap.size, 1, none⟩ = some (.int .i64 x1) := (by rw [HB6.out.cell (p := ⟨wr.heap.size, 1, none⟩) HU.out.2]; exact c1); have e2 : w6.cell? ⟨wr.heap.size, 2, none⟩ = some (.int .i64 x2) := (by rw [HB6.out.cell (p := ⟨wr.heap.size, 2, none⟩) HU.out.2]; exact c2); clear hb6))
      all_goals
        go_wp2
        exact ⟨⟨k + 1, by go_num, by omega, HU.out.1.trans (HB6.out.mono HU.out.1.size)⟩, by simp [intOf]; omega⟩
    · obtain ⟨wa, rfl⟩ : ∃ wa, wa = wr := ⟨_, rfl⟩
      have HOa : Hid (Rk w2.heap.size wa 3 ov (xs.map ruL) ∧ Rk w.heap.size wa 3 (.slice ao L cap) (xs.map ruL)) := ⟨HO2.out.rk.below hB.out (Nat.le_refl _), HA.out.1.below HBw.out (Nat.le_refl _)⟩
      have HS : Hid (w2.heap.size ≤ wa.heap.size ∧ w.heap.size ≤ wa.heap.size) := ⟨hB.out.size, HBw.out.size⟩
      go_wp2_with fail
      refine (sort_any w2.heap.size ov xs wa HS.out.1 HOa.out.1 HO2.out.ra HA.out.2.2.1 (by have := HL.out; omega)).mono ?_
      rintro e w8 ⟨va, er, rfl, hr8, hb8⟩
      have HB8 : Hid (Below wa.heap.size wa w8) := hb8
      clear hb8
      go_wp2_with fail
      refine (rsort_any w.heap.size _ xs w8 (Nat.le_trans HS.out.2 HB8.out.size) (HOa.out.2.below HB8.out HS.out.2) HA.out.2.2.1 (by have := HL.out; omega)).mono ?_
      rintro e w9 ⟨vb, er', rfl, hr9, hb9⟩
      obtain ⟨hee, zs, hz, hoa, hob⟩ := sr_both hr8 hr9
      subst hee
      have HB9 : Hid (Below wa.heap.size wa w9) := HB8.out.trans (hb9.mono HB8.out.size)
      have HZ : Hid (OR w9 wa.heap.size 26 3 va (zs.map ruL) ∧ OR w9 w8.heap.size 26 3 vb (zs.map ruL) ∧ zs.length ≤ 32) := ⟨hoa.below hb9 (Nat.le_refl _), hob, hz⟩
      clear hr8 hr9 hb9 hoa hob hz
      go_wp2_with fail
      refine (rules_same w9.heap.size _ _ zs w9 HZ.out.1.rk HZ.out.2.1.rk (by have := HZ.out.2.2; omega)).mono ?_
      rintro e w10 ⟨rfl, n10, hw10⟩
      have HB10 : Hid (Below wa.heap.size wa w10) := by rw [hw10]; exact below_drewN HB9.out _
      have HZ10 : Hid (OR w10 wa.heap.size 26 3 va (zs.map ruL)) := by rw [hw10]; exact HZ.out.1.drewN _
      clear hw10
      go_wp2_with fail
      refine (rules_same wa.heap.size _ _ xs w10 ((HOa.out.1.mono HS.out.1).below HB10.out (Nat.le_refl _)) ((HOa.out.2.mono HS.out.2).below HB10.out (Nat.le_refl _)) (by have := HL.out; omega)).mono ?_
      rintro e w11 ⟨rfl, n11, hw11⟩
      have HB11 : Hid (Below wa.heap.size wa w11) := by rw [hw11]; exact below_drewN HB10.out _
      have HZ11 : Hid (OR w11 wa.heap.size 26 3 va (zs.map ruL)) := by rw [hw11]; exact HZ10.out.drewN _
      clear hw11
      obtain ⟨zo, zc, hvz, -, -⟩ := HZ11.out.rk
      rw [List.length_map] at hvz
      obtain ⟨Z, hZ⟩ : ∃ Z, Z = zs.length := ⟨_, rfl⟩
      rw [← hZ] at hvz
      subst hvz
      have z32 : (Z : Int) ≤ 32 := by have := HZ.out.2.2; omega
      have HZL : Hid (Z = (zs.map ruL).length) := by show _ = _; rw [List.length_map]; exact hZ
      clear hZ
      go_wp2_with fail
      go_loopw [63] (fun iv wr => ∃ i : Nat, iv = .int .i64 (i : Int) ∧ (i : Int) ≤ Z ∧ Hid (∃ rows, OR wr wa.heap.size 26 3 (.slice zo Z zc) rows ∧ Z = rows.length) ∧ Hid (Below wa.heap.size wa wr)) (fun iv _ => (Z - intOf iv).toNat)
      case atStart => exact ⟨0, by go_num, by omega, ⟨_, HZ11.out, HZL.out⟩, HB11⟩
      case round =>
        obtain ⟨i, rfl, hi, hR, hB7⟩ := hrel
        by_cases hil : (i : Int) < Z
        · obtain ⟨rows, hro, hrl⟩ := hR.out
          have hio : i < rows.length := by omega
          obtain ⟨g, zc', hf, -, hg1, hg2⟩ := hro.form (by omega)
          rw [← hrl] at hf
          injection hf with hf _ hf2
          subst hf hf2
          have hixm : ∀ w, Sem.run Try.prog (Instr.indexAt 22 (.slice (some ⟨g, 0, none⟩) Z zc) (.int .i64 (i : Int))) w = .ok (.pointer (some ⟨g, i * 3, none⟩)) w := fun u => by
            have := ix_ru (ad := ⟨g, 0, none⟩) Z zc i rfl hil u
            rwa [add_own] at this
          obtain ⟨u2, hu2⟩ := hro.len3 i hio
          have t2 := hro.at i hio 2 _ hu2
          simp [Addr.add] at t2
          have hfz : wr.frozen? ⟨g, i * 3 + 2, none⟩ = false := hro.frozen _
          have HRO : Hid (OR wr wa.heap.size 26 3 (.slice (some ⟨g, 0, none⟩) Z zc) rows ∧ Z = rows.length ∧ i < rows.length ∧ wa.heap.size ≤ g) := ⟨hro, hrl, hio, hg1⟩
          clear hro hrl hio hg1 hg2 hu2 hR
          go_wp2
          have h9 := (HRO.out.1.cellSet0 HRO.out.2.2.1 2 (by decide) (.int .i64 (-1))).1
          exact ⟨⟨i + 1, by go_num, by omega, ⟨_, h9, by rw [List.length_set]; exact HRO.out.2.1⟩, hB7.out.setCell HRO.out.2.2.2 _⟩, by simp [intOf]; omega⟩
        · go_wp2_with fail
          refine (rules_same wa.heap.size _ _ xs wr ((HOa.out.1.mono HS.out.1).below hB7.out (Nat.le_refl _)) ((HOa.out.2.mono HS.out.2).below hB7.out (Nat.le_refl _)) (by have := HL.out; omega)).mono ?_
          rintro e w12 ⟨rfl, n12, hw12⟩
          have HB12 : Hid (Below w.heap.size w w12) := by rw [hw12]; exact below_drewN (HBw.out.trans (hB7.out.mono HBw.out.size)) _
          clear hw12
          go_wp2
          go_ret
          exact ⟨rfl, HB12.out⟩
end Go.Proofs.Ytmgphfdieekpdaa
