/- assoc: the reference's below. -/
import Derived.Test.YtnjdmkgkpdebdaaOU
import Derived.Test.YtnjdmkgkpdebdaaGQ
namespace Go.Proofs.Ytnjdmkgkpdebdaa
open Go Go.RowKit Go.Sort
set_option linter.unusedVariables false
theorem intL_one (n : Int) : ∀ u ∈ [(.int .i64 n : Value)], u.oneCell' = true := by intro u hu; simp at hu; rw [hu]; rfl
theorem intL_app (xs : List Int) (n : Int) : intL (xs ++ [n]) = intL xs ++ [[.int .i64 n]] := by unfold intL; rw [List.map_append]; rfl
theorem intL_len (xs : List Int) : (intL xs).length = xs.length := by unfold intL; rw [List.length_map]
theorem OR.one {w W : World} {g B k : Nat} {r : List Value} {e : TypeId} (h : Nw w W g r.toArray e) (hk : r.length = k) (hB : B ≤ w.heap.size) : OR W B e k (.slice (some ⟨g, 0, none⟩) 1 1) [r] := by
  refine ⟨⟨by simp [hk], .inr ⟨g, 1, r.toArray, rfl, by rw [h.at']; exact hB, h.bk, Nat.le_refl _, by simp only [maxLen]; omega, by simp [hk], ?_⟩⟩, fun x hx => by simp at hx; rw [hx]; exact hk⟩
  simp [← hk]
set_option maxRecDepth 20000 in
set_option maxHeartbeats 4000000 in
theorem rbelow_any (d B : Nat) (l : List Mb) (id : Int) (w : World) (h : Rt w d B l) : Calls Try.prog 53 #[.pointer (some ⟨d, 0, none⟩), .int .i64 id] w fun e w' => ∃ u xs, e = .returned u ∧ Hid (OR w' w.heap.size 3 1 u (intL xs)) ∧ Hid (Bl l id xs) ∧ Hid (Below w.heap.size w w') := by
  obtain ⟨ao, cap, hb, hr⟩ := h.read
  have HR : Hid (∀ w', Below w.heap.size w w' → ∀ i m, l[i]? = some m → ∃ ad, ao = some ad ∧ ∀ j u, (mbL m)[j]? = some u → w'.cell? ((ad.add (i * 16)).add j) = some u) := hr
  obtain ⟨n, hn⟩ : ∃ n, l.length = n := ⟨_, rfl⟩
  have HN : Hid (l.length = n ∧ n ≤ 16) := ⟨hn, by rw [← hn]; exact h.len⟩
  have hn16 : (n : Int) ≤ 16 := by have := h.len; omega
  rw [hn] at hb
  have HD0 : Hid (Bk d w #[.slice ao n cap] 80) := hb
  clear h hr hn hb
  go_enter Try.func53, Try.ntmps53
  refine post_hid fun Q hQ => ?_
  go_upto_region 2 with (refine step_bsL (by rfl) 24 3 _ rfl (.int .i64 id) [.int .i64 id] (by rfl) (run_bsI id) ?_; intro W1 g1 H1)
  have HS1 : Hid (OR W1 w.heap.size 3 1 (.slice (some ⟨g1, 0, none⟩) 1 1) (intL [id]) ∧ Below w.heap.size w W1) := ⟨OR.one H1.out rfl (Nat.le_refl _), H1.out.be⟩
  clear H1
  go_wp2_with fail
  go_loopw [5, 6] (fun v5 i wr => ∃ (k : Nat) (xs : List Int), i = .int .i64 k ∧ (k : Int) ≤ 17 ∧ Hid (k ≤ xs.length ∧ OR wr w.heap.size 3 1 v5 (intL xs) ∧ BlS l id xs k 0 ∧ Below w.heap.size w wr)) (fun _ i _ => 18 - (intOf i).toNat)
  case atStart => exact ⟨0, [id], rfl, by simp, ⟨by simp, HS1.out.1, BlS.start l id, HS1.out.2⟩⟩
  case round =>
    obtain ⟨k, xs, rfl, hk, HI⟩ := hrel
    clear HS1
    obtain ⟨wa, hwa⟩ : ∃ wa, wa = wr := ⟨_, rfl⟩
    subst hwa
    obtain ⟨L, hL⟩ : ∃ L, xs.length = L := ⟨_, rfl⟩
    obtain ⟨o5, c5, hv5⟩ : ∃ o c, u5 = .slice o L c := by
      obtain ⟨o, c, h⟩ := or_len HI.out.2.1
      rw [intL_len, hL] at h
      exact ⟨o, c, h⟩
    subst hv5
    have HL : Hid (xs.length = L) := hL
    have hL17 : (L : Int) ≤ 17 := by have h1 := HI.out.2.2.1.len; rw [HN.out.1, hL] at h1; have := HN.out.2; omega
    clear hL
    by_cases hlt : (k : Int) < L
    · have c0 : wa.cell? ⟨d, 0, none⟩ = some (.slice ao n cap) := (HD0.out.kept (HI.out.2.2.2.block _ HD0.out.lt)).cell 0
      go_wp2_with fail
      go_loopw [5, 22] (fun v5 i wr => ∃ (j : Nat) (ys : List Int), i = .int .i64 j ∧ (j : Int) ≤ n ∧ Hid (k < ys.length ∧ OR wr w.heap.size 3 1 v5 (intL ys) ∧ BlS l id ys k j ∧ Below w.heap.size w wr)) (fun _ i _ => n - (intOf i).toNat)
      case atStart => exact ⟨0, xs, rfl, by omega, ⟨by rw [HL.out]; omega, HI.out.2.1, HI.out.2.2.1, HI.out.2.2.2⟩⟩
      case round =>
        obtain ⟨j, ys, rfl, hj, HB⟩ := hrel
        clear HI c0 hL17 hlt
        obtain ⟨M, hM⟩ : ∃ M, ys.length = M := ⟨_, rfl⟩
        obtain ⟨v5, hv5⟩ : ∃ v, v = u5 := ⟨_, rfl⟩
        subst hv5
        by_cases hjl : (j : Int) < n
        · have hkl : j < l.length := by rw [HN.out.1]; omega
          obtain ⟨m, hm⟩ : ∃ m, l[j]? = some m := ⟨_, List.getElem?_eq_getElem hkl⟩
          obtain ⟨ad, g1, g3⟩ := HR.out wr HB.out.2.2.2 j m hm
          have hix := ix_rw n cap j g1 hjl
          have HS : Hid (∀ j' u, (mbL m)[j']? = some u → wr.cell? ((ad.add (j * 16)).add j') = some u) := g3
          have HM : Hid (l[j]? = some m) := hm
          clear g1 g3 hm hkl
          go_upto_region 8 with (first
            | (refine step_ldat 83 _ rfl rfl (ad.add (j * 16)) (by rfl) (mbL m) _ Try.underlying83 rfl (by kernel_rfl) HS.out ?_)
            | (refine step_alL (by rfl) 83 rfl (mbL zMb).toArray (fun u => by kernel_rfl) ?_; intro w3 g H3)
            | (refine step_stL (by rfl) _ _ rfl g (mbL m).toArray (by rfl) (by rfl) (mbL zMb).toArray (by kernel_rfl) (by kernel_rfl) (by kernel_rfl) H3.out.bk ?_; intro w4 H4))
          have H5 : Hid (k < ys.length ∧ OR w4 w.heap.size 3 1 v5 (intL ys) ∧ BlS l id ys k j ∧ Below w.heap.size w w4 ∧ Bk g w4 (mbL m).toArray 83) := by
            have hb := H4.out.below H3.out.be H3.out.be.size (Nat.le_of_eq H3.out.at'.symm)
            exact ⟨HB.out.1, HB.out.2.1.below hb (Nat.le_refl _), HB.out.2.2.1, below_thru HB.out.2.2.2 hb, H4.out.bk⟩
          clear H3 H4 HS hix HB
          rename_i KK hKK
          have HKK : Hid _ := hKK
          clear hKK
          have hM17 : M ≤ 17 := by have h1 := H5.out.2.2.1.len; rw [HN.out.1, hM] at h1; have := HN.out.2; omega
          obtain ⟨o5, c5, hv5, hc5⟩ := ints_read H5.out.2.1.rk
          rw [hM] at hv5
          obtain ⟨y, hy⟩ : ∃ y, ys[k]? = some y := ⟨_, List.getElem?_eq_getElem H5.out.1⟩
          obtain ⟨ad5, a1, _, a3⟩ := hc5 k y hy
          have hkM : (k : Int) < M := by have := H5.out.1; omega
          have hix5 := ix_in M c5 k a1 hkM
          have HY : Hid (ys[k]? = some y ∧ ys.length = M ∧ M ≤ 17) := ⟨hy, hM, hM17⟩
          subst hv5
          have CH : Hid (∀ q, Calls Try.prog 57 #[.slice o5 M c5, .int .i64 m.id] (w4.drewN q) fun e w' => e = .returned (.bool (decide (m.id ∈ ys))) ∧ w' = w4.drewN q) := fun q => has_any _ ys m.id (w4.drewN q) _ (H5.out.2.1.drewN q).rk (by omega)
          have d0 : w4.cell? ⟨g, 0, none⟩ = some (.int .i64 m.id) := H5.out.2.2.2.2.cell 0
          have d1 : w4.cell? ⟨g, 13, none⟩ = some (.int .i64 m.par) := H5.out.2.2.2.2.cell 13
          clear hc5 hy a1 hM hM17
          by_cases hp : m.par = y
          · by_cases hid : m.id = id
            · rw [hp] at d1
              rw [hid] at d0
              have hid2 : (id != id) = false := by simp
              have hp2 : (y == y) = true := by simp
              refine wp_region_quietW (by kernel_rfl) (by kernel_rfl) ?_
              repeat (refine qw_step (fun K hK => ?_); go_simp; refine hK _ ?_; clear hK K)
              refine qw_nil ?_
              rintro w' ⟨q, rfl⟩
              refine HKK.out _ _ ?_
              clear HKK CH
              go_wp2_with fail
              go_roundw
              case rel => exact ⟨j + 1, ys, by go_num, by omega, ⟨H5.out.1, H5.out.2.1.drewN q, H5.out.2.2.1.no HM.out (fun _ => by rw [hid]; exact H5.out.2.2.1.own), below_drewN H5.out.2.2.2.1 q⟩⟩
              case measure => simp [intOf]; omega
            · have hid2 : (m.id != id) = true := by simpa using hid
              have hp2 : (y == y) = true := by simp
              rw [hp] at d1
              obtain ⟨X, hX⟩ : ∃ X, decide (m.id ∈ ys) = X := ⟨_, rfl⟩
              rw [hX] at CH
              have HX : Hid (decide (m.id ∈ ys) = X) := hX
              clear hX
              refine wp_region_quietW (by kernel_rfl) (by kernel_rfl) ?_
              repeat (refine qw_step (fun K hK => ?_); go_simp; first | (refine hK _ ?_; clear hK K) | (apply Exists.intro; refine ⟨fun _ => ?_, hK _ ?_⟩; (go_at_call 57; exact Calls.quiet_of_same (CH.out _)); clear hK K))
              refine qw_nil ?_
              rintro w' ⟨q, rfl⟩
              refine HKK.out _ _ ?_
              clear HKK CH
              cases X
              · have e0 : (w4.drewN q).cell? ⟨g, 0, none⟩ = some (.int .i64 m.id) := d0
                clear d0 d1 a3
                obtain ⟨w5, hw5⟩ : ∃ w5, w5 = w4.drewN q := ⟨_, rfl⟩
                have H6 : Hid (OR w5 w.heap.size 3 1 (.slice o5 M c5) (intL ys) ∧ Below w.heap.size w w5) := by rw [hw5]; exact ⟨H5.out.2.1.drewN q, below_drewN H5.out.2.2.2.1 q⟩
                rw [← hw5] at e0 ⊢
                clear hw5
                go_wp2_with (first
                  | (refine step_bsL (by rfl) 24 3 _ rfl (.int .i64 m.id) [.int .i64 m.id] (by rfl) (run_bsI m.id) ?_; intro w6 g6 H7)
                  | (at_builtin; refine step_apL tiI rfl _ _ rfl w.heap.size g6 (.slice o5 M c5) [.int .i64 m.id] (by rfl) (by rfl) rfl (intL_one m.id) w5 _ ?_ ?_ H6.out.1 H7.out H6.out.2.size ?_; (have := HY.out.2; rw [intL_len]; simp only [maxLen]; omega); (have := HY.out.2; rw [intL_len]; omega); intro v7 w7 H8))
                go_roundw
                case rel =>
                  refine ⟨j + 1, ys ++ [m.id], by go_num, by omega, ⟨by rw [List.length_append]; have := H5.out.1; omega, ?_, H5.out.2.2.1.yes HM.out (by rw [HY.out.1, hp]) (of_decide_eq_false HX.out), H6.out.2.trans H8.out.2⟩⟩
                  rw [intL_app]
                  exact H8.out.1
                case measure => simp [intOf]; omega
              · go_wp2_with fail
                go_roundw
                case rel => exact ⟨j + 1, ys, by go_num, by omega, ⟨H5.out.1, H5.out.2.1.drewN q, H5.out.2.2.1.no HM.out (fun _ => of_decide_eq_true HX.out), below_drewN H5.out.2.2.2.1 q⟩⟩
                case measure => simp [intOf]; omega
          · have hp2 : (m.par == y) = false := by simpa using hp
            refine wp_region_quietW (by kernel_rfl) (by kernel_rfl) ?_
            repeat (refine qw_step (fun K hK => ?_); go_simp; refine hK _ ?_; clear hK K)
            refine qw_nil ?_
            rintro w' ⟨q, rfl⟩
            refine HKK.out _ _ ?_
            clear HKK CH
            go_wp2_with fail
            go_roundw
            case rel => exact ⟨j + 1, ys, by go_num, by omega, ⟨H5.out.1, H5.out.2.1.drewN q, H5.out.2.2.1.no HM.out (fun h => by rw [HY.out.1] at h; exact absurd (Option.some.inj h).symm hp), below_drewN H5.out.2.2.2.1 q⟩⟩
            case measure => simp [intOf]; omega
        · go_wp2_with fail
          go_roundw
          case rel =>
            have h1 := HB.out.2.2.1.len
            rw [HN.out.1] at h1
            exact ⟨k + 1, ys, by go_num, by have := HB.out.1; have := HN.out.2; omega, ⟨HB.out.1, HB.out.2.1, HB.out.2.2.1.next (by rw [HN.out.1]; omega), HB.out.2.2.2⟩⟩
          case measure => simp [intOf]; omega
    · go_wp2_with fail
      rw [hQ.out]
      go_ret
      exact ⟨_, xs, rfl, HI.out.2.1, HI.out.2.2.1.done (by rw [HL.out]; omega), HI.out.2.2.2⟩
end Go.Proofs.Ytnjdmkgkpdebdaa
