/- FilterForgets, walked. -/
import Derived.Test.YtmjkdfjfjidekaaFW
import Derived.Test.YtmjkdfjfjidekaaFK
import Derived.Test.YtmjkdfjfjidekaaGQ
namespace Go.Proofs.Ytmjkdfjfjidekaa
open Go Go.RowKit Fi
/-- eight or more make one forget what came ahead -/
theorem lst_late (ps bs : List Smp) (h : 8 ≤ bs.length) : lst (ps ++ bs) = lst bs := by
  rw [lst_rev, lst_rev, List.reverse_append, List.take_append_of_le_length (by rw [List.length_reverse]; exact h)]
set_option maxRecDepth 20000 in
set_option maxHeartbeats 2000000 in
theorem FilterForgets_row (u v : Value) (now : Int) (us xs : List Smp) (w : World) (hu : Sr w.heap.size w u us) (hv : Sr w.heap.size w v xs) (_n0 : 0 ≤ now) (_n1 : now < 18446744073709551616) :
    Calls Try.prog 7 #[u, v, .int .u64 now] w fun e w' => e = .returned (.bool true) ∧ Below w.heap.size w w' := by
  obtain ⟨uo, uc, rfl, -⟩ := hu.ex
  obtain ⟨ao, cap, rfl, -⟩ := hv.ex
  obtain ⟨m, hm⟩ : ∃ m, m = us.length := ⟨_, rfl⟩
  obtain ⟨n, hn⟩ : ∃ n, n = xs.length := ⟨_, rfl⟩
  rw [← hm] at hu ⊢
  rw [← hn] at hv ⊢
  have HU : Hid (Sr w.heap.size w (.slice uo m uc) us ∧ m = us.length) := ⟨hu, hm⟩
  have HV : Hid (Sr w.heap.size w (.slice ao n cap) xs ∧ n = xs.length) := ⟨hv, hn⟩
  clear hu hv hm hn
  by_cases h1 : 4096 < (m : Int)
  · go_enter Try.func7, Try.ntmps7
    go_wp2
    go_ret
    exact ⟨rfl, (by repeat' (first | with_reducible exact Below.refl _ _ | with_reducible refine Below.setCell ?_ (by first | (simp; done) | (simp; omega) | omega) _ | with_reducible refine below_drewN ?_ _ | with_reducible refine Below.drew ?_ | with_reducible refine Below.alloc ?_ (by first | (simp; done) | (simp; omega) | omega) _))⟩
  by_cases h2 : 4096 < (n : Int)
  · go_enter Try.func7, Try.ntmps7
    go_wp2
    go_ret
    exact ⟨rfl, (by repeat' (first | with_reducible exact Below.refl _ _ | with_reducible refine Below.setCell ?_ (by first | (simp; done) | (simp; omega) | omega) _ | with_reducible refine below_drewN ?_ _ | with_reducible refine Below.drew ?_ | with_reducible refine Below.alloc ?_ (by first | (simp; done) | (simp; omega) | omega) _))⟩
  go_enter Try.func7, Try.ntmps7
  refine post_hid fun Q hQ => ?_
  go_wp2_with fail
  refine (new_any w).mono ?_
  rintro e w1 ⟨rfl, hl1, hb1, hz1⟩
  obtain ⟨a, ha⟩ : ∃ a, a = w.heap.size := ⟨_, rfl⟩
  rw [← ha] at hl1 ⊢
  have HA : Hid (a = w.heap.size ∧ w1.heap.size = a + 1) := ⟨ha, by omega⟩
  have H1 : Hid (Fl w1 a [] false 0 ∧ Below w.heap.size w w1) := ⟨hl1, hb1⟩
  clear hl1 hb1 hz1 ha
  go_wp2_with fail
  refine (new_any w1).mono ?_
  rintro e w2 ⟨rfl, hl2, hb2, hz2⟩
  obtain ⟨b, hb⟩ : ∃ b, b = w1.heap.size := ⟨_, rfl⟩
  rw [← hb] at hl2 ⊢
  have HB : Hid (b = a + 1 ∧ w2.heap.size = b + 1) := ⟨by have := HA.out.2; omega, by omega⟩
  have H2 : Hid (Fl w2 a [] false 0 ∧ Fl w2 b [] false 0 ∧ Below w.heap.size w w2) := ⟨H1.out.1.below hb2 H1.out.1.lt, hl2, H1.out.2.trans (hb2.mono H1.out.2.size)⟩
  clear hl2 hb2 hz2 hb H1
  go_wp2_with fail
  refine (new_any w2).mono ?_
  rintro e w3 ⟨rfl, hl3, hb3, hz3⟩
  obtain ⟨c, hc⟩ : ∃ c, c = w2.heap.size := ⟨_, rfl⟩
  rw [← hc] at hl3 ⊢
  have HC' : Hid (c = b + 1) := by show c = b + 1; have := HB.out.2; omega
  have HP : Hid (a = w.heap.size ∧ b = a + 1 ∧ c = a + 2) := ⟨HA.out.1, HB.out.1, by have := HB.out.1; have := HC'.out; omega⟩
  have H3 : Hid (Fl w3 a [] false 0 ∧ Fl w3 b [] false 0 ∧ Fl w3 c [] false 0 ∧ Below w.heap.size w w3) := ⟨H2.out.1.below hb3 H2.out.1.lt, H2.out.2.1.below hb3 H2.out.2.1.lt, hl3, H2.out.2.2.trans (hb3.mono H2.out.2.2.size)⟩
  clear hl3 hb3 hz3 hc H2 HA HB HC'
  go_wp2_with fail
  go_loopw [10] (fun i wr => ∃ (k : Nat), i = .int .i64 k ∧ (k : Int) ≤ m ∧ Hid (Fl wr a (lst (us.take k)) false 0 ∧ Fl wr b [] false 0 ∧ Fl wr c (lst (us.take k)) false 0 ∧ Below w.heap.size w wr)) (fun i _ => m - (intOf i).toNat)
  case atStart => exact ⟨0, rfl, by omega, H3⟩
  case round =>
    clear H3
    obtain ⟨k, rfl, hk, HK⟩ := hrel
    by_cases hlt : (k : Int) < m
    · have hkx : k < us.length := by have := HU.out.2; omega
      obtain ⟨ad, hix, hab, hac⟩ := (HU.out.1.below HK.out.2.2.2 (Nat.le_refl _)).at k hkx
      have HE : Hid (lst (us.take (k + 1)) = adS (lst (us.take k)) (us.getD k z0)) := lst_succ us k hkx
      obtain ⟨y, hy⟩ : ∃ y, y = us.getD k z0 := ⟨_, rfl⟩
      rw [← hy] at hac HE
      have HC : Hid (∀ j u, (smL y)[j]? = some u → wr.cell? (ad.add j) = some u) := hac
      have HAa : Hid _ := fadd_any a _ _ _ y wr HK.out.1
      have HAB : Hid (ad.block < w.heap.size) := hab
      clear hac hkx hab hy
      go_wp2_with (refine step_ldat 27 _ rfl rfl ad (by rfl) (smL y) _ Try.underlying27 rfl (by kernel_rfl) HC.out ?_)
      refine Calls.mono HAa.out ?_
      rintro e w4 ⟨rfl, hl4, hg4⟩
      have hb4 := below_grown HK.out.2.2.2 hg4 (Nat.le_of_eq HP.out.1.symm)
      have HC4 : Hid (∀ j u, (smL y)[j]? = some u → w4.cell? (ad.add j) = some u) := fun j u hu => (cell_same (by rw [add_block]; exact hg4.block _ (Nat.lt_of_lt_of_le HAB.out HK.out.2.2.2.size) (fun e => by have := HP.out.1; have := HAB.out; injection e with e; omega))).trans (HC.out j u hu)
      have HAc : Hid _ := fadd_any c _ _ _ y w4 (HK.out.2.2.1.grown hg4 (fun e => by have := HP.out; injection e with e; omega))
      have H4 : Hid (Fl w4 a (adS (lst (us.take k)) y) false 0 ∧ Fl w4 b [] false 0 ∧ Below w.heap.size w w4) := ⟨hl4, HK.out.2.1.grown hg4 (fun e => by have := HP.out; injection e with e; omega), hb4⟩
      clear hl4 hg4 hb4 HAa
      go_wp2_with (refine step_ldat 27 _ rfl rfl ad (by rfl) (smL y) _ Try.underlying27 rfl (by kernel_rfl) HC4.out ?_)
      refine Calls.mono HAc.out ?_
      rintro e w5 ⟨rfl, hl5, hg5⟩
      have H5 : Hid (Fl w5 a (lst (us.take (k + 1))) false 0 ∧ Fl w5 b [] false 0 ∧ Fl w5 c (lst (us.take (k + 1))) false 0 ∧ Below w.heap.size w w5) := by
        rw [HE.out]
        exact ⟨H4.out.1.grown hg5 (fun e => by have := HP.out; injection e with e; omega), H4.out.2.1.grown hg5 (fun e => by have := HP.out; injection e with e; omega), hl5, below_grown H4.out.2.2 hg5 (by have := HP.out; omega)⟩
      clear hl5 hg5 HAc H4
      go_wp2_with fail
      go_roundw
      case rel => exact ⟨k + 1, by go_num, by omega, H5⟩
      case measure => simp [intOf]; omega
    · have hkn : k = m := by omega
      subst hkn
      have ht : us.take k = us := by rw [HU.out.2, List.take_length]
      rw [ht] at HK
      obtain ⟨bo, bd, bq, bj, ba, bn, t2, la2, hF, -⟩ := two_best (lst us) false 0 now (lst_ok HU.out.1.ok)
      have HBe : Hid _ := hF wr c HK.out.2.2.1
      clear hF ht
      go_wp2_with fail
      refine Calls.mono HBe.out ?_
      rintro e w4 ⟨rfl, hl4, hg4⟩
      have HCl : Hid _ := fclear_any hl4
      have H4 : Hid (Fl w4 a (lst us) false 0 ∧ Fl w4 b [] false 0 ∧ Below w.heap.size w w4) := ⟨HK.out.1.grown hg4 (fun e => by have := HP.out; injection e with e; omega), HK.out.2.1.grown hg4 (fun e => by have := HP.out; injection e with e; omega), below_grown HK.out.2.2.2 hg4 (by have := HP.out; omega)⟩
      clear hl4 hg4 HBe HK
      go_wp2_with fail
      refine Calls.mono HCl.out ?_
      rintro e w5 ⟨rfl, hl5, hg5⟩
      have H5 : Hid (Fl w5 a (lst us) false 0 ∧ Fl w5 b [] false 0 ∧ Fl w5 c [] false 0 ∧ Below w.heap.size w w5) := ⟨H4.out.1.grown hg5 (fun e => by have := HP.out; injection e with e; omega), H4.out.2.1.grown hg5 (fun e => by have := HP.out; injection e with e; omega), hl5, below_grown H4.out.2.2 hg5 (by have := HP.out; omega)⟩
      clear hl5 hg5 HCl H4
      go_wp2_with fail
      go_loopw [11] (fun i wr => ∃ (k : Nat), i = .int .i64 k ∧ (k : Int) ≤ n ∧ Hid (Fl wr a (lst (us ++ xs.take k)) false 0 ∧ Fl wr b (lst (xs.take k)) false 0 ∧ Fl wr c (lst (xs.take k)) false 0 ∧ Below w.heap.size w wr)) (fun i _ => n - (intOf i).toNat)
      case atStart => exact ⟨0, rfl, by omega, ⟨by rw [List.take_zero, List.append_nil]; exact H5.out.1, H5.out.2⟩⟩
      case round =>
        clear H5
        obtain ⟨i2, rfl, hk2, HK⟩ := hrel
        by_cases hlt2 : (i2 : Int) < n
        · have hkx : i2 < xs.length := by have := HV.out.2; omega
          obtain ⟨ad, hix, hab, hac⟩ := (HV.out.1.below HK.out.2.2.2 (Nat.le_refl _)).at i2 hkx
          have HE : Hid (lst (xs.take (i2 + 1)) = adS (lst (xs.take i2)) (xs.getD i2 z0) ∧ lst (us ++ xs.take (i2 + 1)) = adS (lst (us ++ xs.take i2)) (xs.getD i2 z0)) := by
            refine ⟨lst_succ xs i2 hkx, ?_⟩
            rw [List.take_succ_eq_append_getElem hkx, ← List.append_assoc, lst_snoc, getD_lt xs i2 hkx]
          obtain ⟨y, hy⟩ : ∃ y, y = xs.getD i2 z0 := ⟨_, rfl⟩
          rw [← hy] at hac HE
          have HC : Hid (∀ j u, (smL y)[j]? = some u → wr.cell? (ad.add j) = some u) := hac
          have HAa : Hid _ := fadd_any a _ _ _ y wr HK.out.1
          have HAB : Hid (ad.block < w.heap.size) := hab
          clear hac hkx hab hy
          go_wp2_with (refine step_ldat 27 _ rfl rfl ad (by rfl) (smL y) _ Try.underlying27 rfl (by kernel_rfl) HC.out ?_)
          refine Calls.mono HAa.out ?_
          rintro e w4 ⟨rfl, hl4, hg4⟩
          have hb4 := below_grown HK.out.2.2.2 hg4 (Nat.le_of_eq HP.out.1.symm)
          have HC4 : Hid (∀ j u, (smL y)[j]? = some u → w4.cell? (ad.add j) = some u) := fun j u hu => (cell_same (by rw [add_block]; exact hg4.block _ (Nat.lt_of_lt_of_le HAB.out HK.out.2.2.2.size) (fun e => by have := HP.out.1; have := HAB.out; injection e with e; omega))).trans (HC.out j u hu)
          have HAb : Hid _ := fadd_any b _ _ _ y w4 (HK.out.2.1.grown hg4 (fun e => by have := HP.out; injection e with e; omega))
          have H4 : Hid (Fl w4 a (adS (lst (us ++ xs.take i2)) y) false 0 ∧ Fl w4 c (lst (xs.take i2)) false 0 ∧ Below w.heap.size w w4) := ⟨hl4, HK.out.2.2.1.grown hg4 (fun e => by have := HP.out; injection e with e; omega), hb4⟩
          clear hl4 hg4 hb4 HAa HK
          go_wp2_with (refine step_ldat 27 _ rfl rfl ad (by rfl) (smL y) _ Try.underlying27 rfl (by kernel_rfl) HC4.out ?_)
          refine Calls.mono HAb.out ?_
          rintro e w5 ⟨rfl, hl5, hg5⟩
          have hb5 := below_grown H4.out.2.2 hg5 (by have := HP.out; omega)
          have HC5 : Hid (∀ j u, (smL y)[j]? = some u → w5.cell? (ad.add j) = some u) := fun j u hu => (cell_same (by rw [add_block]; exact hg5.block _ (Nat.lt_of_lt_of_le HAB.out H4.out.2.2.size) (fun e => by have := HP.out; have := HAB.out; injection e with e; omega))).trans (HC4.out j u hu)
          have HAc : Hid _ := fadd_any c _ _ _ y w5 (H4.out.2.1.grown hg5 (fun e => by have := HP.out; injection e with e; omega))
          have H5 : Hid (Fl w5 a (adS (lst (us ++ xs.take i2)) y) false 0 ∧ Fl w5 b (adS (lst (xs.take i2)) y) false 0 ∧ Below w.heap.size w w5) := ⟨H4.out.1.grown hg5 (fun e => by have := HP.out; injection e with e; omega), hl5, hb5⟩
          clear hl5 hg5 hb5 HAb H4
          go_wp2_with (refine step_ldat 27 _ rfl rfl ad (by rfl) (smL y) _ Try.underlying27 rfl (by kernel_rfl) HC5.out ?_)
          refine Calls.mono HAc.out ?_
          rintro e w6 ⟨rfl, hl6, hg6⟩
          have H6 : Hid (Fl w6 a (lst (us ++ xs.take (i2 + 1))) false 0 ∧ Fl w6 b (lst (xs.take (i2 + 1))) false 0 ∧ Fl w6 c (lst (xs.take (i2 + 1))) false 0 ∧ Below w.heap.size w w6) := by
            rw [HE.out.1, HE.out.2]
            exact ⟨H5.out.1.grown hg6 (fun e => by have := HP.out; injection e with e; omega), H5.out.2.1.grown hg6 (fun e => by have := HP.out; injection e with e; omega), hl6, below_grown H5.out.2.2 hg6 (by have := HP.out; omega)⟩
          clear hl6 hg6 HAc H5
          go_wp2_with fail
          go_roundw
          case rel => exact ⟨i2 + 1, by go_num, by omega, H6⟩
          case measure => simp [intOf]; omega
        · have hkn : i2 = n := by omega
          subst hkn
          have ht : xs.take i2 = xs := by rw [HV.out.2, List.take_length]
          rw [ht] at HK
          obtain ⟨g, hg⟩ : ∃ g, wr.heap.size = g := ⟨_, rfl⟩
          have HW7 : Hid (Rf (wr.alloc (.cells #[.slice none 0 0, .bool false, .int .u64 0] 39)) g (g + 1) [] false 0 ∧ Fl (wr.alloc (.cells #[.slice none 0 0, .bool false, .int .u64 0] 39)) a (lst (us ++ xs)) false 0 ∧ Fl (wr.alloc (.cells #[.slice none 0 0, .bool false, .int .u64 0] 39)) b (lst xs) false 0 ∧ Fl (wr.alloc (.cells #[.slice none 0 0, .bool false, .int .u64 0] 39)) c (lst xs) false 0 ∧ Below w.heap.size w (wr.alloc (.cells #[.slice none 0 0, .bool false, .int .u64 0] 39))) := by
            have hb : Below wr.heap.size wr (wr.alloc (.cells #[.slice none 0 0, .bool false, .int .u64 0] 39)) := (Below.refl _ _).alloc (Nat.le_refl _) _
            refine ⟨⟨by omega, by simp [hg], by simp, .slice none 0 0, ?_, Sv4.nil _ _⟩, HK.out.1.below hb HK.out.1.lt, HK.out.2.1.below hb HK.out.2.1.lt, HK.out.2.2.1.below hb HK.out.2.2.1.lt, HK.out.2.2.2.alloc HK.out.2.2.2.size _⟩
            rw [← hg]; exact Bk.new _ _ _
          have HGc : Hid (c < g) := by show c < g; rw [← hg]; exact HK.out.2.2.1.lt
          clear HK ht
          go_wp2_with fail
          go_loopw [13] (fun i wr => ∃ (k : Nat), i = .int .i64 k ∧ (k : Int) ≤ i2 ∧ Hid (Rf wr g (g + 1) (lst (xs.take k)) false 0 ∧ Fl wr a (lst (us ++ xs)) false 0 ∧ Fl wr b (lst xs) false 0 ∧ Fl wr c (lst xs) false 0 ∧ Below w.heap.size w wr)) (fun i _ => i2 - (intOf i).toNat)
          case atStart => exact ⟨0, rfl, by omega, HW7⟩
          case round =>
            clear HW7
            obtain ⟨i3, rfl, hk3, HK⟩ := hrel
            by_cases hlt3 : (i3 : Int) < i2
            · have hkx : i3 < xs.length := by have := HV.out.2; omega
              obtain ⟨ad, hix, hab, hac⟩ := (HV.out.1.below HK.out.2.2.2.2 (Nat.le_refl _)).at i3 hkx
              have HE : Hid (lst (xs.take (i3 + 1)) = adS (lst (xs.take i3)) (xs.getD i3 z0)) := lst_succ xs i3 hkx
              obtain ⟨y, hy⟩ : ∃ y, y = xs.getD i3 z0 := ⟨_, rfl⟩
              rw [← hy] at hac HE
              have HC : Hid (∀ j u, (smL y)[j]? = some u → wr.cell? (ad.add j) = some u) := hac
              have HAr : Hid _ := rfadd_any y HK.out.1
              clear hac hkx hab hy
              go_wp2_with (refine step_ldat 27 _ rfl rfl ad (by rfl) (smL y) _ Try.underlying27 rfl (by kernel_rfl) HC.out ?_)
              refine Calls.mono HAr.out ?_
              rintro e w4 ⟨rfl, hr4, hg4⟩
              have H4 : Hid (Rf w4 g (g + 1) (lst (xs.take (i3 + 1))) false 0 ∧ Fl w4 a (lst (us ++ xs)) false 0 ∧ Fl w4 b (lst xs) false 0 ∧ Fl w4 c (lst xs) false 0 ∧ Below w.heap.size w w4) := by
                rw [HE.out]
                have h0 := HP.out; have h1 := HGc.out
                exact ⟨hr4, HK.out.2.1.grown hg4 (fun e => by injection e with e; omega), HK.out.2.2.1.grown hg4 (fun e => by injection e with e; omega), HK.out.2.2.2.1.grown hg4 (fun e => by injection e with e; omega), below_grown HK.out.2.2.2.2 hg4 (by omega)⟩
              clear hr4 hg4 HAr HK
              go_wp2_with fail
              go_roundw
              case rel => exact ⟨i3 + 1, by go_num, by omega, H4⟩
              case measure => simp [intOf]; omega
            · have hkn : i3 = i2 := by omega
              subst hkn
              have ht : xs.take i3 = xs := by rw [HV.out.2, List.take_length]
              rw [ht] at HK
              obtain ⟨bo, bd, bq, bj, ba, bn, t2, la2, hF, hR⟩ := two_best (lst xs) false 0 now (lst_ok HV.out.1.ok)
              unfold bsL at hF hR
              have HF : Hid _ := hF
              have HRr : Hid _ := hR
              clear hF hR ht
              go_wp2_with fail
              refine Calls.mono (HF.out wr b HK.out.2.2.1) ?_
              rintro e w4 ⟨rfl, hl4, hg4⟩
              obtain ⟨xb, hxb⟩ : ∃ xb, w4.heap.size = xb := ⟨_, rfl⟩
              have HT : Hid ((w4.alloc (.cells #[.int .i64 0, .int .i64 0, .int .i64 0, .int .i64 0, .int .u64 0, .bool false] 33)).heap[xb]? = some (.cells #[.int .i64 0, .int .i64 0, .int .i64 0, .int .i64 0, .int .u64 0, .bool false] 33 (0, 0))) := by
                have h0 := alloc_at w4 (.cells #[.int .i64 0, .int .i64 0, .int .i64 0, .int .i64 0, .int .u64 0, .bool false] 33)
                rw [hxb] at h0
                exact h0
              obtain ⟨W8, hW8⟩ : ∃ W8, W8 = (w4.alloc (.cells #[.int .i64 0, .int .i64 0, .int .i64 0, .int .i64 0, .int .u64 0, .bool false] 33)).setRow xb #[.int .i64 bo, .int .i64 bd, .int .i64 bq, .int .i64 bj, .int .u64 ba, .bool bn] := ⟨_, rfl⟩
              have hb8 : Below w4.heap.size w4 W8 := by rw [hW8]; exact below_row ((Below.refl _ _).alloc (Nat.le_refl _) _) (Nat.le_of_eq hxb) _
              have H8 : Hid (Bk xb W8 #[.int .i64 bo, .int .i64 bd, .int .i64 bq, .int .i64 bj, .int .u64 ba, .bool bn] 33 ∧ Rf W8 g (g + 1) (lst xs) false 0 ∧ Fl W8 a (lst (us ++ xs)) false 0 ∧ Fl W8 b (lst xs) t2 la2 ∧ Fl W8 c (lst xs) false 0 ∧ Below w.heap.size w W8 ∧ g < xb ∧ xb < W8.heap.size) := by
                have h0 := HP.out; have h1 := HGc.out
                have hb4 := below_grown HK.out.2.2.2.2 hg4 (by omega)
                have r4 := HK.out.1.grown hg4 (by omega) (by omega)
                have a4 := HK.out.2.1.grown hg4 (fun e => by injection e with e; omega)
                have c4 := HK.out.2.2.2.1.grown hg4 (fun e => by injection e with e; omega)
                have k8 : Bk xb W8 #[.int .i64 bo, .int .i64 bd, .int .i64 bq, .int .i64 bj, .int .u64 ba, .bool bn] 33 := by rw [hW8]; exact setRow_heap _ _ _ _ _ _ HT.out
                refine ⟨k8, r4.below hb8 (Nat.le_refl _), a4.below hb8 a4.lt, hl4.below hb8 hl4.lt, c4.below hb8 c4.lt, hb4.trans (hb8.mono hb4.size), ?_, k8.lt⟩
                have := r4.le; omega
              have HW8 : Hid (W8 = (w4.alloc (.cells #[.int .i64 0, .int .i64 0, .int .i64 0, .int .i64 0, .int .u64 0, .bool false] 33)).setRow xb #[.int .i64 bo, .int .i64 bd, .int .i64 bq, .int .i64 bj, .int .u64 ba, .bool bn]) := hW8
              have q0 : W8.cell? ⟨xb, 0, none⟩ = some (.int .i64 bo) := H8.out.1.cell 0
              have q1 : W8.cell? ⟨xb, 1, none⟩ = some (.int .i64 bd) := H8.out.1.cell 1
              have q2 : W8.cell? ⟨xb, 2, none⟩ = some (.int .i64 bq) := H8.out.1.cell 2
              have q3 : W8.cell? ⟨xb, 3, none⟩ = some (.int .i64 bj) := H8.out.1.cell 3
              have q4 : W8.cell? ⟨xb, 4, none⟩ = some (.int .u64 ba) := H8.out.1.cell 4
              have q5 : W8.cell? ⟨xb, 5, none⟩ = some (.bool bn) := H8.out.1.cell 5
              clear hl4 hg4 hb8 hW8 HK
              go_wp2_with (refine step_stR (by rfl) _ _ rfl xb #[.int .i64 bo, .int .i64 bd, .int .i64 bq, .int .i64 bj, .int .u64 ba, .bool bn] (by rfl) (by rfl) #[.int .i64 0, .int .i64 0, .int .i64 0, .int .i64 0, .int .u64 0, .bool false] (by kernel_rfl) (by rfl) (by kernel_rfl) HT.out ?_; rw [← HW8.out])
              simp only [Act.put]
              go_region_held3 (fun w' => w'.cell? ⟨xb, 0, none⟩ = some (.int .i64 bo) ∧ w'.cell? ⟨xb, 1, none⟩ = some (.int .i64 bd) ∧ w'.cell? ⟨xb, 2, none⟩ = some (.int .i64 bq) ∧ w'.cell? ⟨xb, 3, none⟩ = some (.int .i64 bj) ∧ w'.cell? ⟨xb, 4, none⟩ = some (.int .u64 ba) ∧ w'.cell? ⟨xb, 5, none⟩ = some (.bool bn)) (first | with_reducible exact ⟨zz0, zz1, zz2, zz3, zz4, zz5⟩ | with_reducible exact ⟨y0, y1, y2, y3, y4, y5⟩ | with_reducible exact ⟨x0, x1, x2, x3, x4, x5⟩ | with_reducible exact ⟨tt0, tt1, tt2, tt3, tt4, tt5⟩ | with_reducible exact ⟨s0, s1, s2, s3, s4, s5⟩ | with_reducible exact ⟨q0, q1, q2, q3, q4, q5⟩ | go_keep) (first
                | (go_at_call 12; obtain ⟨lb2, hlb2, hcc⟩ := HRr.out _ g (g + 1) 0 (H8.out.2.1.below (below_dr (Below.refl W8.heap.size W8) 1) (Nat.le_refl _)) (fun h => by cases h); refine hcc.mono ?_; rintro e w5 ⟨rfl, hr5, hg5⟩; have HG5 : Hid (W8.grownBy w5 (some g)) := (by first | exact hg5 | exact grownBy_trans (grownBy_drew W8 _) hg5); have k5 := H8.out.1.kept (HG5.out.block _ H8.out.1.lt (fun e => by have := H8.out.2.2.2.2.2.2.1; injection e with e; omega)); have s0 : w5.cell? ⟨xb, 0, none⟩ = some (.int .i64 bo) := k5.cell 0; have s1 : w5.cell? ⟨xb, 1, none⟩ = some (.int .i64 bd) := k5.cell 1; have s2 : w5.cell? ⟨xb, 2, none⟩ = some (.int .i64 bq) := k5.cell 2; have s3 : w5.cell? ⟨xb, 3, none⟩ = some (.int .i64 bj) := k5.cell 3; have s4 : w5.cell? ⟨xb, 4, none⟩ = some (.int .u64 ba) := k5.cell 4; have s5 : w5.cell? ⟨xb, 5, none⟩ = some (.bool bn) := k5.cell 5)
                | (go_at_call 10; refine Calls.mono (HF.out w5 c (H8.out.2.2.2.2.1.grown HG5.out (fun e => by have := HP.out; have := HGc.out; injection e with e; omega))) ?_; rintro e w6 ⟨rfl, hl6, hg6⟩; have H6 : Hid (Fl w6 c (lst xs) t2 la2 ∧ Fl w6 b (lst xs) t2 la2 ∧ Fl w6 a (lst (us ++ xs)) false 0 ∧ Below w.heap.size w w6) := ⟨hl6, (H8.out.2.2.2.1.grown HG5.out (fun e => by have := HP.out; have := HGc.out; injection e with e; omega)).grown hg6 (fun e => by have := HP.out; have := HGc.out; injection e with e; omega), (H8.out.2.2.1.grown HG5.out (fun e => by have := HP.out; have := HGc.out; injection e with e; omega)).grown hg6 (fun e => by have := HP.out; have := HGc.out; injection e with e; omega), below_grown (below_grown H8.out.2.2.2.2.2.1 HG5.out (by have := HP.out; have := HGc.out; omega)) hg6 (by have := HP.out; omega)⟩; have k6 := k5.kept (hg6.block _ k5.lt (fun e => by have := H8.out.2.2.2.2.2.2.1; have := HGc.out; injection e with e; omega)); have tt0 : w6.cell? ⟨xb, 0, none⟩ = some (.int .i64 bo) := k6.cell 0; have tt1 : w6.cell? ⟨xb, 1, none⟩ = some (.int .i64 bd) := k6.cell 1; have tt2 : w6.cell? ⟨xb, 2, none⟩ = some (.int .i64 bq) := k6.cell 2; have tt3 : w6.cell? ⟨xb, 3, none⟩ = some (.int .i64 bj) := k6.cell 3; have tt4 : w6.cell? ⟨xb, 4, none⟩ = some (.int .u64 ba) := k6.cell 4; have tt5 : w6.cell? ⟨xb, 5, none⟩ = some (.bool bn) := k6.cell 5)
                | (go_at_call 15; refine Calls.mono (fsamples_any H6.out.2.1) ?_; rintro e w7 ⟨lv, rfl, ho7, hb7⟩; have H7 : Hid (O4 w7 w6.heap.size lv (lst xs) ∧ Below w6.heap.size w6 w7) := ⟨ho7, hb7⟩; have k7 := k6.kept (hb7.block _ k6.lt); have x0 : w7.cell? ⟨xb, 0, none⟩ = some (.int .i64 bo) := k7.cell 0; have x1 : w7.cell? ⟨xb, 1, none⟩ = some (.int .i64 bd) := k7.cell 1; have x2 : w7.cell? ⟨xb, 2, none⟩ = some (.int .i64 bq) := k7.cell 2; have x3 : w7.cell? ⟨xb, 3, none⟩ = some (.int .i64 bj) := k7.cell 3; have x4 : w7.cell? ⟨xb, 4, none⟩ = some (.int .u64 ba) := k7.cell 4; have x5 : w7.cell? ⟨xb, 5, none⟩ = some (.bool bn) := k7.cell 5)
                | (go_at_call 15; refine Calls.mono (fsamples_any (H6.out.1.below H7.out.2 H6.out.1.lt)) ?_; rintro e w9 ⟨mv, rfl, ho9, hb9⟩; have H9 : Hid (O4 w9 w7.heap.size mv (lst xs) ∧ Below w7.heap.size w7 w9) := ⟨ho9, hb9⟩; have k9 := k7.kept (hb9.block _ k7.lt); have y0 : w9.cell? ⟨xb, 0, none⟩ = some (.int .i64 bo) := k9.cell 0; have y1 : w9.cell? ⟨xb, 1, none⟩ = some (.int .i64 bd) := k9.cell 1; have y2 : w9.cell? ⟨xb, 2, none⟩ = some (.int .i64 bq) := k9.cell 2; have y3 : w9.cell? ⟨xb, 3, none⟩ = some (.int .i64 bj) := k9.cell 3; have y4 : w9.cell? ⟨xb, 4, none⟩ = some (.int .u64 ba) := k9.cell 4; have y5 : w9.cell? ⟨xb, 5, none⟩ = some (.bool bn) := k9.cell 5)
                | (go_at_call 16; refine Calls.mono (same_any lv mv w6.heap.size w7.heap.size (lst xs) w9 (H7.out.1.sv.below H9.out.2 (Nat.le_refl _)) H9.out.1.sv (by have := lst_len xs; omega)) ?_; rintro e w10 ⟨rfl, nq, hw10⟩; have H10 : Hid (Below w9.heap.size w9 w10) := (by rw [hw10]; exact below_dr (Below.refl _ _) nq); have k10 := k9.kept (H10.out.block _ k9.lt); have zz0 : w10.cell? ⟨xb, 0, none⟩ = some (.int .i64 bo) := k10.cell 0; have zz1 : w10.cell? ⟨xb, 1, none⟩ = some (.int .i64 bd) := k10.cell 1; have zz2 : w10.cell? ⟨xb, 2, none⟩ = some (.int .i64 bq) := k10.cell 2; have zz3 : w10.cell? ⟨xb, 3, none⟩ = some (.int .i64 bj) := k10.cell 3; have zz4 : w10.cell? ⟨xb, 4, none⟩ = some (.int .u64 ba) := k10.cell 4; have zz5 : w10.cell? ⟨xb, 5, none⟩ = some (.bool bn) := k10.cell 5))
              have HGX : Hid (g < xb) := H8.out.2.2.2.2.2.2.1
              refine Exit.then_hid fun W11 hW11 => ?_
              have HE : Hid (Bk xb W11 #[.int .i64 bo, .int .i64 bd, .int .i64 bq, .int .i64 bj, .int .u64 ba, .bool bn] 33 ∧ Fl W11 a (lst (us ++ xs)) false 0 ∧ Below w.heap.size w W11) := by
                rw [hW11.out]
                have h7 := H7.out.2
                have h9 := H9.out.2
                have h69 : Below w6.heap.size w6 w9 := Below.then h7 h9
                exact ⟨k9.kept rfl, (H6.out.2.2.1.below h69 H6.out.2.2.1.lt).kept rfl, below_dr (H6.out.2.2.2.trans (h69.mono H6.out.2.2.2.size)) nq⟩
              have p0 : W11.cell? ⟨xb, 0, none⟩ = some (.int .i64 bo) := HE.out.1.cell 0
              have p1 : W11.cell? ⟨xb, 1, none⟩ = some (.int .i64 bd) := HE.out.1.cell 1
              have p2 : W11.cell? ⟨xb, 2, none⟩ = some (.int .i64 bq) := HE.out.1.cell 2
              have p3 : W11.cell? ⟨xb, 3, none⟩ = some (.int .i64 bj) := HE.out.1.cell 3
              have p4 : W11.cell? ⟨xb, 4, none⟩ = some (.int .u64 ba) := HE.out.1.cell 4
              have p5 : W11.cell? ⟨xb, 5, none⟩ = some (.bool bn) := HE.out.1.cell 5
              clear hW11 k5 k6 k7 k9 k10 H6 H7 H9 H10 H8 HG5 hr5 hg5 hl6 hg6 ho7 hb7 ho9 hb9 hcc hlb2 HW8 HT
              by_cases hn8 : (i3 : Int) < 8
              · go_wp2_with fail
                refine wp_region_quietW (by kernel_rfl) (by kernel_rfl) ?_
                repeat (refine qw_step (fun K hK => ?_); go_simp; refine hK _ ?_; clear hK K)
                refine qw_nil ?_
                intro _ hw'
                obtain ⟨nr, hw''⟩ := hw'
                subst hw''
                go_wp2_with fail
                rw [hQ.out]
                go_ret
                exact ⟨rfl, below_dr HE.out.2.2 nr⟩
              · have hxl : 8 ≤ xs.length := by have := HV.out.2; omega
                have HFa : Hid (Fl W11 a (lst xs) false 0) := by have := HE.out.2.1; rw [lst_late us xs hxl] at this; exact this
                have HLT : Hid (a ≠ xb) := by have h0 := HP.out; have h1 := HGc.out; show a ≠ xb; have := HGX.out; omega
                clear hxl
                go_wp2_with fail
                have hd8 : decide ((i3 : Int) < 8) = false := decide_eq_false (by omega)
                have hd9 : ¬ ((i3 : Int) < 8) := by omega
                go_region_held3 (fun w' => w'.cell? ⟨xb, 0, none⟩ = some (.int .i64 bo) ∧ w'.cell? ⟨xb, 1, none⟩ = some (.int .i64 bd) ∧ w'.cell? ⟨xb, 2, none⟩ = some (.int .i64 bq) ∧ w'.cell? ⟨xb, 3, none⟩ = some (.int .i64 bj) ∧ w'.cell? ⟨xb, 4, none⟩ = some (.int .u64 ba) ∧ w'.cell? ⟨xb, 5, none⟩ = some (.bool bn)) (first | with_reducible exact ⟨m0, m1, m2, m3, m4, m5⟩ | with_reducible exact ⟨p0, p1, p2, p3, p4, p5⟩ | go_keep) ((go_at_call 10; refine Calls.mono (HF.out _ a (HFa.out.kept rfl)) ?_; rintro e w12 ⟨rfl, hl12, hg12⟩; have HG12 : Hid (W11.grownBy w12 (some a)) := (by first | exact hg12 | exact grownBy_trans (grownBy_drew W11 _) hg12); have k12 := HE.out.1.kept (HG12.out.block _ HE.out.1.lt (fun e => HLT.out (Option.some.inj e).symm)); have m0 : w12.cell? ⟨xb, 0, none⟩ = some (.int .i64 bo) := k12.cell 0; have m1 : w12.cell? ⟨xb, 1, none⟩ = some (.int .i64 bd) := k12.cell 1; have m2 : w12.cell? ⟨xb, 2, none⟩ = some (.int .i64 bq) := k12.cell 2; have m3 : w12.cell? ⟨xb, 3, none⟩ = some (.int .i64 bj) := k12.cell 3; have m4 : w12.cell? ⟨xb, 4, none⟩ = some (.int .u64 ba) := k12.cell 4; have m5 : w12.cell? ⟨xb, 5, none⟩ = some (.bool bn) := k12.cell 5))
                go_wp2_with fail
                rw [hQ.out]
                go_ret
                exact ⟨rfl, below_grown HE.out.2.2 HG12.out (Nat.le_of_eq HP.out.1.symm)⟩
end Go.Proofs.Ytmjkdfjfjidekaa
