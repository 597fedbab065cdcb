/- FilterLeast, walked. -/
import Derived.Test.YtmjkdfjfjidekaaFJ
namespace Go.Proofs.Ytmjkdfjfjidekaa
open Go Go.RowKit Fi
theorem lst_rev (xs : List Smp) : lst xs = xs.reverse.take 8 := by
  induction xs using snoc_ind with
  | h0 => rfl
  | h1 r s ih =>
    rw [lst_snoc, ih, List.reverse_append]
    unfold adS
    simp [List.take_take]
theorem lst_mem (xs : List Smp) (x : Smp) : x ∈ lst xs ↔ ∃ i, ∃ _ : i < xs.length, xs.length - 8 ≤ i ∧ xs[i] = x := by
  rw [lst_rev]
  constructor
  · intro h
    obtain ⟨j, hj, e⟩ := List.getElem_of_mem h
    rw [List.length_take, List.length_reverse] at hj
    rw [List.getElem_take, List.getElem_reverse] at e
    exact ⟨xs.length - 1 - j, by omega, by omega, e⟩
  · rintro ⟨i, hi, h8, rfl⟩
    have : xs[i] = (xs.reverse.take 8)[xs.length - 1 - i]'(by rw [List.length_take, List.length_reverse]; omega) := by
      rw [List.getElem_take, List.getElem_reverse]
      congr 1
      omega
    rw [this]
    exact List.getElem_mem _
theorem jt_ge (l : List Smp) : 4096 ≤ jt l := by unfold jt; omega
set_option maxRecDepth 20000 in
set_option maxHeartbeats 2000000 in
theorem FilterLeast_row (v : Value) (now : Int) (xs : List Smp) (w : World) (hv : Sr w.heap.size w v xs) (_n0 : 0 ≤ now) (_n1 : now < 18446744073709551616) :
    Calls Try.prog 5 #[v, .int .u64 now] w fun e w' => e = .returned (.bool true) ∧ Below w.heap.size w w' := by
  obtain ⟨ao, cap, rfl, -⟩ := hv.ex
  obtain ⟨n, hn⟩ : ∃ n, n = xs.length := ⟨_, rfl⟩
  rw [← hn] at hv ⊢
  have HV : Hid (Sr w.heap.size w (.slice ao n cap) xs ∧ n = xs.length) := ⟨hv, hn⟩
  clear hv hn
  by_cases h1 : 65536 < (n : Int)
  · go_enter Try.func5, Try.ntmps5
    go_wp2
    go_ret
    exact ⟨rfl, (by repeat' (first | with_reducible exact Below.refl _ _ | with_reducible refine Below.setCell ?_ (by first | (simp; done) | (simp; omega) | omega) _ | with_reducible refine below_drewN ?_ _ | with_reducible refine Below.drew ?_ | with_reducible refine Below.alloc ?_ (by first | (simp; done) | (simp; omega) | omega) _))⟩
  by_cases h2 : (n : Int) = 0
  · go_enter Try.func5, Try.ntmps5
    go_wp2
    go_ret
    exact ⟨rfl, (by repeat' (first | with_reducible exact Below.refl _ _ | with_reducible refine Below.setCell ?_ (by first | (simp; done) | (simp; omega) | omega) _ | with_reducible refine below_drewN ?_ _ | with_reducible refine Below.drew ?_ | with_reducible refine Below.alloc ?_ (by first | (simp; done) | (simp; omega) | omega) _))⟩
  have h2' : ((n : Int) == 0) = false := by simpa using h2
  have h3 : 1 ≤ (n : Int) := by omega
  go_enter Try.func5, Try.ntmps5
  refine post_hid fun Q hQ => ?_
  go_wp2_with fail
  refine (new_any w).mono ?_
  rintro e w1 ⟨rfl, hl1, hb1, hz1⟩
  obtain ⟨p, hp⟩ : ∃ p, p = w.heap.size := ⟨_, rfl⟩
  rw [← hp] at hl1 ⊢
  have HP : Hid (p = w.heap.size) := hp
  have H1 : Hid (Fl w1 p [] false 0 ∧ Below w.heap.size w w1) := ⟨hl1, hb1⟩
  clear hl1 hb1 hz1 hp
  go_wp2_with fail
  go_loopw [6] (fun i wr => ∃ (k : Nat), i = .int .i64 k ∧ (k : Int) ≤ n ∧ Hid (Fl wr p (lst (xs.take k)) false 0 ∧ Below w.heap.size w wr)) (fun i _ => n - (intOf i).toNat)
  case atStart => exact ⟨0, rfl, by omega, H1⟩
  case round =>
    clear H1
    obtain ⟨k, rfl, hk, HK⟩ := hrel
    by_cases hlt : (k : Int) < n
    · have hkx : k < xs.length := by have := HV.out.2; omega
      obtain ⟨ad, hix, hab, hac⟩ := (HV.out.1.below HK.out.2 (Nat.le_refl _)).at k hkx
      have HE : Hid (lst (xs.take (k + 1)) = adS (lst (xs.take k)) (xs.getD k z0)) := lst_succ xs k hkx
      obtain ⟨y, hy⟩ : ∃ y, y = xs.getD k z0 := ⟨_, rfl⟩
      rw [← hy] at hac HE
      have HC : Hid (∀ j u, (smL y)[j]? = some u → wr.cell? (ad.add j) = some u) := hac
      have HA : Hid _ := fadd_any p _ _ _ y wr HK.out.1
      clear hac hkx hab hy
      go_wp2_with (first | (refine step_ldat 27 _ rfl rfl ad (by rfl) (smL y) _ Try.underlying27 rfl (by kernel_rfl) HC.out ?_) | (go_at_call 9; refine Calls.mono HA.out ?_; rintro e w3 ⟨rfl, hl3, hg3⟩))
      go_roundw
      case rel => exact ⟨k + 1, by go_num, by omega, ⟨by rw [HE.out]; exact hl3, below_grown HK.out.2 hg3 (Nat.le_of_eq HP.out.symm)⟩⟩
      case measure => simp [intOf]; omega
    · have hkn : k = n := by omega
      subst hkn
      have hF : Fl wr p (lst xs) false 0 := by have := HK.out.1; rw [HV.out.2, List.take_length] at this; exact this
      have hll : 0 < (lst xs).length := by rw [lst_rev, List.length_take, List.length_reverse]; have := HV.out.2; omega
      have q := best_any p (lst xs) false 0 now wr hF hll (lst_ok HV.out.1.ok)
      obtain ⟨hm, hle⟩ := least (lst xs) hll
      obtain ⟨x, hx⟩ : ∃ x, x = fst (srt (lst xs)) := ⟨_, rfl⟩
      rw [← hx] at q hm hle
      obtain ⟨D, hD⟩ : ∃ D, D = ds (srt (lst xs)) now 8 := ⟨_, rfl⟩
      have bD : 0 ≤ D ∧ D ≤ 68719476736 := by rw [hD]; exact ⟨(ds_bd _ _ 8 (by omega)).1, ds_le _ _⟩
      obtain ⟨J, hJ⟩ : ∃ J, J = jt (srt (lst xs)) := ⟨_, rfl⟩
      have bJ : 4096 ≤ J := by rw [hJ]; exact jt_ge _
      rw [← hD, ← hJ] at q
      have e1 : nwB false 0 x.a = true := rfl
      rw [e1] at q
      have HBe : Hid (Calls Try.prog 10 #[.pointer (some ⟨p, 0, none⟩), .int .u64 now] wr fun e w' => e = .returned (.agg (bsL x.o x.d D J x.a true).toArray) ∧ wr.grownBy w' (some p)) := q.mono fun e w' h => ⟨h.1, h.2.2⟩
      obtain ⟨i0, hi0, hi8, hxi⟩ := (lst_mem xs x).1 hm
      have HX : Hid (i0 < k ∧ k - 8 ≤ i0 ∧ xs.getD i0 z0 = x ∧ ∀ i, i < k → k - 8 ≤ i → x.d ≤ (xs.getD i z0).d) := by
        have e := HV.out.2
        refine ⟨by omega, by omega, by rw [getD_lt xs i0 hi0]; exact hxi, fun i h1 h2 => ?_⟩
        rw [getD_lt xs i (by omega)]
        exact hle _ ((lst_mem xs _).2 ⟨i, by omega, by omega, rfl⟩)
      have H2 : Hid (Below w.heap.size w wr) := HK.out.2
      clear q hm hle hx hD hJ e1 hi0 hi8 hxi hll hF HK
      go_wp2_with fail
      refine Calls.mono HBe.out ?_
      rintro e w3 ⟨rfl, hg3⟩
      obtain ⟨bb, hbb⟩ : ∃ bb, w3.heap.size = bb := ⟨_, rfl⟩
      have HT : Hid ((w3.alloc (.cells #[.int .i64 0, .int .i64 0, .int .i64 0, .int .i64 0, .int .u64 0, .bool false] 33)).heap[bb]? = some (.cells #[.int .i64 0, .int .i64 0, .int .i64 0, .int .i64 0, .int .u64 0, .bool false] 33 (0, 0))) := by
        have h0 := alloc_at w3 (.cells #[.int .i64 0, .int .i64 0, .int .i64 0, .int .i64 0, .int .u64 0, .bool false] 33)
        rw [hbb] at h0
        exact h0
      have H3 : Hid (Below w.heap.size w w3 ∧ w.heap.size ≤ bb) := ⟨below_grown H2.out hg3 (Nat.le_of_eq HP.out.symm), by rw [← hbb]; exact Nat.le_trans H2.out.size hg3.size⟩
      clear hg3 HBe
      obtain ⟨s0, hs0⟩ : ∃ s0, s0 = k - 8 := ⟨_, rfl⟩
      have m3 : ∀ u, (Builtin.max_ #[3, 3] 3 #[.int .i64 0, .int .i64 ((k : Int) - 8)]).run Try.prog u = .ok (.int .i64 (s0 : Int)) u := fun u => by
        have : (Builtin.max_ #[3, 3] 3 #[.int .i64 0, .int .i64 ((k : Int) - 8)]).run Try.prog u = .ok (.int .i64 (if (0 : Int) < (k : Int) - 8 then (k : Int) - 8 else 0)) u := by simp [go_sem]
        rw [this, hs0]; congr 2; split <;> omega
      have Hs0 : Hid (s0 = k - 8) := hs0
      clear hs0
      go_wp2_with (refine step_stR (by rfl) _ _ rfl bb (bsL x.o x.d D J x.a true).toArray (by rfl) (by rfl) #[.int .i64 0, .int .i64 0, .int .i64 0, .int .i64 0, .int .u64 0, .bool false] (by kernel_rfl) (by rfl) (by kernel_rfl) HT.out ?_)
      go_loopw [8, 9] (fun f i wi => ∃ (j : Nat) (fv : Bool), f = .bool fv ∧ i = .int .i64 j ∧ (s0 : Int) ≤ j ∧ (j : Int) ≤ k ∧ Hid ((i0 < j → fv = true) ∧ Bk bb wi (bsL x.o x.d D J x.a true).toArray 33 ∧ Below w.heap.size w wi)) (fun _ i _ => k - (intOf i).toNat)
      case atStart => exact ⟨s0, false, rfl, rfl, by omega, by have := Hs0.out; omega, ⟨fun h => by have := HX.out.2.1; have := Hs0.out; omega, setRow_heap _ _ _ _ _ _ HT.out, below_row (H3.out.1.alloc H3.out.1.size _) H3.out.2 _⟩⟩
      case round =>
        clear HT m3
        obtain ⟨j, fv, rfl, rfl, hj0, hj, HJ⟩ := hrel
        have b0 : wr.cell? ⟨bb, 0, none⟩ = some (.int .i64 x.o) := HJ.out.2.1.cell 0
        have b1 : wr.cell? ⟨bb, 1, none⟩ = some (.int .i64 x.d) := HJ.out.2.1.cell 1
        have b2 : wr.cell? ⟨bb, 2, none⟩ = some (.int .i64 D) := HJ.out.2.1.cell 2
        have b3 : wr.cell? ⟨bb, 3, none⟩ = some (.int .i64 J) := HJ.out.2.1.cell 3
        have b4 : wr.cell? ⟨bb, 4, none⟩ = some (.int .u64 x.a) := HJ.out.2.1.cell 4
        have b5 : wr.cell? ⟨bb, 5, none⟩ = some (.bool true) := HJ.out.2.1.cell 5
        by_cases hlt : (j : Int) < k
        · have hjx : j < xs.length := by have := HV.out.2; omega
          obtain ⟨ad, hix, hab, hac⟩ := (HV.out.1.below HJ.out.2.2 (Nat.le_refl _)).at j hjx
          have hY := HX.out.2.2.2 j (by omega) (by have := Hs0.out; omega)
          have hY2 : i0 = j → xs.getD j z0 = x := fun e => by rw [← e]; exact HX.out.2.2.1
          obtain ⟨y, hy⟩ : ∃ y, y = xs.getD j z0 := ⟨_, rfl⟩
          rw [← hy] at hac hY hY2
          have c0 : wr.cell? ad = some (.int .i64 y.o) := by have := hac 0 _ rfl; rw [show ad.add 0 = ad from by unfold Addr.add; rw [if_pos rfl]] at this; exact this
          have c1 : wr.cell? ⟨ad.block, ad.off + 1, none⟩ = some (.int .i64 y.d) := hac 1 _ rfl
          have c3 : wr.cell? ⟨ad.block, ad.off + 3, none⟩ = some (.int .u64 y.a) := hac 3 _ rfl
          have hnl : ¬ (y.d < x.d) := by omega
          have HY2 : Hid (i0 = j → y = x) := hY2
          clear hac hab hy hjx hY hY2
          have HN : Hid (¬ (y.d = x.d ∧ y.o = x.o ∧ y.a = x.a) → i0 < j + 1 → fv = true) := fun h1 h2 => by
            rcases Nat.lt_or_ge i0 j with h3 | h3
            · exact HJ.out.1 h3
            · have e := HY2.out (by omega)
              exact absurd ⟨by rw [e], by rw [e], by rw [e]⟩ h1
          rcases fv with _ | _
          · by_cases e1 : y.d = x.d
            · by_cases e2 : y.o = x.o
              · by_cases e3 : y.a = x.a
                · rw [e1] at c1
                  rw [e2] at c0
                  rw [e3] at c3
                  clear e1 e2 e3 hnl
                  go_wp2_with fail
                  go_quiet (fail)
                  go_wp2_with fail
                  go_quiet (fail)
                  go_wp2_with fail
                  go_roundw
                  case rel => exact ⟨j + 1, true, rfl, by go_num, by omega, by omega, ⟨fun _ => rfl, HJ.out.2.1, below_dr HJ.out.2.2 _⟩⟩
                  case measure => simp [intOf]; omega
                · have e3' : (y.a == x.a) = false := by simpa using e3
                  have HN2 : Hid (i0 < j + 1 → false = true) := HN.out (fun h => e3 h.2.2)
                  rw [e1] at c1
                  rw [e2] at c0
                  clear e1 e2 e3 hnl HN
                  go_wp2_with fail
                  go_quiet (fail)
                  go_wp2_with fail
                  go_quiet (fail)
                  go_wp2_with fail
                  go_roundw
                  case rel => exact ⟨j + 1, false, rfl, by go_num, by omega, by omega, ⟨HN2.out, HJ.out.2.1, below_dr HJ.out.2.2 _⟩⟩
                  case measure => simp [intOf]; omega
              · have e2' : (y.o == x.o) = false := by simpa using e2
                have HN2 : Hid (i0 < j + 1 → false = true) := HN.out (fun h => e2 h.2.1)
                rw [e1] at c1
                clear e1 e2 hnl HN
                go_wp2_with fail
                go_quiet (fail)
                go_wp2_with fail
                go_quiet (fail)
                go_wp2_with fail
                go_roundw
                case rel => exact ⟨j + 1, false, rfl, by go_num, by omega, by omega, ⟨HN2.out, HJ.out.2.1, below_dr HJ.out.2.2 _⟩⟩
                case measure => simp [intOf]; omega
            · have e1' : (y.d == x.d) = false := by simpa using e1
              have HN2 : Hid (i0 < j + 1 → false = true) := HN.out (fun h => e1 h.1)
              clear e1 HN
              go_wp2_with fail
              go_quiet (fail)
              go_wp2_with fail
              go_quiet (fail)
              go_wp2_with fail
              go_roundw
              case rel => exact ⟨j + 1, false, rfl, by go_num, by omega, by omega, ⟨HN2.out, HJ.out.2.1, below_dr HJ.out.2.2 _⟩⟩
              case measure => simp [intOf]; omega
          · clear HN
            go_wp2_with fail
            go_quiet (fail)
            go_wp2_with fail
            go_quiet (fail)
            go_wp2_with fail
            go_roundw
            case rel => exact ⟨j + 1, true, rfl, by go_num, by omega, by omega, ⟨fun _ => rfl, HJ.out.2.1, below_dr HJ.out.2.2 _⟩⟩
            case measure => simp [intOf]; omega
        · have hjk : j = k := by omega
          subst hjk
          have hfv : fv = true := HJ.out.1 HX.out.1
          subst hfv
          go_wp2_with fail
          rw [hQ.out]
          go_ret
          exact ⟨rfl, HJ.out.2.2⟩
end Go.Proofs.Ytmjkdfjfjidekaa
