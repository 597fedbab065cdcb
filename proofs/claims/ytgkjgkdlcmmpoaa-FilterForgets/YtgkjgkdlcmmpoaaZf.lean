/- Samples that came in; FilterSteady, walked. -/
import Derived.Test.YtgkjgkdlcmmpoaaFI
import Derived.Test.YtgkjgkdlcmmpoaaFT
import Derived.Test.YtgkjgkdlcmmpoaaGP
import Derived.ProofKit
import Derived.OpenShut
import Derived.Deep.SlicePairs
import Derived.SizedLaws
namespace Go.Proofs.Ytgkjgkdlcmmpoaa
open Go Go.RowKit Fi
/-- a slice below block N that reads as these samples -/
structure Sr (N : Nat) (w : World) (v : Value) (xs : List Smp) : Prop where
  ex : ∃ ao cap, v = .slice ao xs.length cap ∧ ∀ k, k < xs.length → ∃ ad, ao = some ad ∧ ad.block < N ∧ ∀ j u, (smL (xs.getD k z0))[j]? = some u → w.cell? ((ad.add (k * 4)).add j) = some u
  ok : ∀ s ∈ xs, okS s
theorem Sr.below {N B : Nat} {w w' : World} {v : Value} {xs : List Smp} (h : Sr N w v xs) (hb : Below B w w') (hN : N ≤ B) : Sr N w' v xs := by
  obtain ⟨⟨ao, cap, h1, h2⟩, h3⟩ := h
  refine ⟨⟨ao, cap, h1, fun k hk => ?_⟩, h3⟩
  obtain ⟨ad, k1, k2, k3⟩ := h2 k hk
  exact ⟨ad, k1, k2, fun j u hu => (hb.cell (p := (ad.add (k * 4)).add j) (by rw [add_block, add_block]; omega)).trans (k3 j u hu)⟩
/-- an element: its index, its cells -/
theorem Sr.at {N : Nat} {w : World} {ao : Option Addr} {n cap : Nat} {xs : List Smp} (h : Sr N w (.slice ao n cap) xs) (k : Nat) (hk : k < xs.length) : ∃ ad : Addr, (∀ u, Sem.run Try.prog (Instr.indexAt 22 (.slice ao n cap) (.int .i64 (k : Int))) u = .ok (.pointer (some ad)) u) ∧ ad.block < N ∧ ∀ j u, (smL (xs.getD k z0))[j]? = some u → w.cell? (ad.add j) = some u := by
  obtain ⟨⟨ao', cap', h1, h2⟩, _⟩ := h
  injection h1 with e1 e2 e3
  subst e1 e2 e3
  obtain ⟨ad, k1, k2, k3⟩ := h2 k hk
  refine ⟨ad.add (k * 4), fun u => ?_, by rw [add_block]; exact k2, k3⟩
  subst k1
  have u' := Try.underlying22
  have c3 : Try.prog.cellsOf 27 = 4 := by kernel_rfl
  have h0 : (0 : Int) ≤ k := Int.natCast_nonneg k
  have h1 : (k : Int) < xs.length := by omega
  go_simp
theorem Sr.len {N : Nat} {w : World} {ao : Option Addr} {n cap : Nat} {xs : List Smp} (h : Sr N w (.slice ao n cap) xs) : n = xs.length := by
  obtain ⟨⟨ao', cap', h1, h2⟩, _⟩ := h
  injection h1 with e1 e2 e3
theorem below_grown {w a b : World} {p : Nat} (h : Below w.heap.size w a) (hg : a.grownBy b (some p)) (hp : w.heap.size ≤ p) : Below w.heap.size w b := h.grown hg h.size (fun k hk => by injection hk with hk; omega)
theorem adS_ok {xs : List Smp} {s : Smp} (h : ∀ x ∈ xs, okS x) (hs : okS s) : ∀ x ∈ adS xs s, okS x := fun x hx => by
  rcases List.mem_cons.1 (List.mem_of_mem_take hx) with rfl | hx
  · exact hs
  · exact h x hx
/-- what is left of a row of samples that were added, in their order -/
def lst (xs : List Smp) : List Smp := xs.foldl adS []
theorem lst_snoc (xs : List Smp) (s : Smp) : lst (xs ++ [s]) = adS (lst xs) s := by unfold lst; rw [List.foldl_append]; rfl
theorem lst_succ (xs : List Smp) (k : Nat) (h : k < xs.length) : lst (xs.take (k + 1)) = adS (lst (xs.take k)) (xs.getD k z0) := by
  rw [List.take_succ_eq_append_getElem h, lst_snoc, getD_lt xs k h]
theorem lst_len (xs : List Smp) : (lst xs).length ≤ 8 := by
  induction xs using snoc_ind with
  | h0 => simp [lst]
  | h1 r s ih => rw [lst_snoc]; unfold adS; rw [List.length_take]; omega
theorem lst_ok {xs : List Smp} (h : ∀ x ∈ xs, okS x) : ∀ x ∈ lst xs, okS x := by
  induction xs using snoc_ind with
  | h0 => intro x hx; cases hx
  | h1 r s ih => rw [lst_snoc]; exact adS_ok (ih (fun x hx => h x (List.mem_append_left _ hx))) (h s (by simp))
theorem sum_zero (n : Nat) : Sq.sum (List.replicate n 0) = 0 := by
  induction n with
  | zero => rfl
  | succ n ih => rw [List.replicate_succ, Sq.sum, ih]; rfl
theorem rms_zero (n : Nat) : Sq.rms (List.replicate n 0) = 0 := by
  unfold Sq.rms
  rw [List.take_replicate, sum_zero, Nat.zero_div]
  rfl
theorem steady (L : List Smp) (O D : Int) (h : ∀ s ∈ L, s.o = O ∧ s.d = D) (hl : 0 < L.length) : srt L = L ∧ (fst L).o = O ∧ (fst L).d = D ∧ jt L = 4096 := by
  cases L with
  | nil => simp at hl
  | cons x r =>
    have h0 := h x (List.mem_cons_self ..)
    refine ⟨srt_one _ D (fun s hs => (h s hs).2), h0.1, h0.2, ?_⟩
    have e : dfs (x :: r) = List.replicate r.length 0 := by
      unfold dfs fst
      apply List.ext_getElem
      · simp
      · intro i h1 h2
        simp only [List.headD_cons, List.getElem_map, List.getElem_drop, List.getElem_replicate]
        have h3 := h ((x :: r)[1 + i]'(by simp at h2; simp; omega)) (List.getElem_mem _)
        rw [h3.1, h0.1, Int.sub_self]
        rfl
    unfold jt
    rw [e, rms_zero]
    rfl
set_option maxRecDepth 20000 in
set_option maxHeartbeats 1000000 in
theorem FilterSteady_row (v : Value) (gap : Int) (xs : List Smp) (x : Smp) (w : World) (hv : Sr w.heap.size w v xs) (hx : okS x) (g0 : 0 ≤ gap) (g1 : gap < 4294967296) :
    Calls Try.prog 3 #[v, .agg (smL x).toArray, .int .u32 gap] w fun e w' => e = .returned (.bool true) ∧ Below w.heap.size w w' := by
  obtain ⟨ao, cap, rfl, -⟩ := hv.ex
  obtain ⟨n, hn⟩ : ∃ n, n = xs.length := ⟨_, rfl⟩
  rw [← hn] at hv ⊢
  have HV : Hid (Sr w.heap.size w (.slice ao n cap) xs ∧ n = xs.length) := ⟨hv, hn⟩
  obtain ⟨so, sd, sp, sa⟩ := x
  obtain ⟨⟨o0, o1⟩, ⟨d0, d1⟩, ⟨p0, p1⟩, ⟨a0, a1⟩⟩ := hx
  simp only at o0 o1 d0 d1 p0 p1 a0 a1
  clear hv hn
  unfold smL
  simp only
  by_cases h1 : 4096 < (n : Int)
  · go_enter Try.func3, Try.ntmps3
    go_wp2
    go_ret
    exact ⟨rfl, (by repeat' (first | with_reducible exact Below.refl _ _ | with_reducible refine Below.setCell ?_ (by first | (simp; done) | (simp; omega) | omega) _ | with_reducible refine below_drewN ?_ _ | with_reducible refine Below.drew ?_ | with_reducible refine Below.alloc ?_ (by first | (simp; done) | (simp; omega) | omega) _))⟩
  by_cases h2 : gap = 0
  · subst h2
    go_enter Try.func3, Try.ntmps3
    go_wp2
    go_ret
    exact ⟨rfl, (by repeat' (first | with_reducible exact Below.refl _ _ | with_reducible refine Below.setCell ?_ (by first | (simp; done) | (simp; omega) | omega) _ | with_reducible refine below_drewN ?_ _ | with_reducible refine Below.drew ?_ | with_reducible refine Below.alloc ?_ (by first | (simp; done) | (simp; omega) | omega) _))⟩
  have h2' : (gap == 0) = false := by simpa using h2
  go_enter Try.func3, Try.ntmps3
  refine post_hid fun Q hQ => ?_
  refine seq_hid fun R hR => ?_
  go_wp2
  refine world_hid fun W0 hW0 => ?_
  have HW0 : Hid (Bk w.heap.size W0 #[.int .i64 so, .int .i64 sd, .int .i64 sp, .int .u64 sa] 27 ∧ Below w.heap.size w W0 ∧ W0.heap.size = w.heap.size + 1) := by
    refine ⟨?_, ?_, ?_⟩
    · rw [hW0.out]; exact Bk.new _ _ _
    · rw [hW0.out]; exact (Below.refl _ _).alloc (Nat.le_refl _) _
    · rw [hW0.out]; simp
  clear hW0
  rw [hR.out]
  clear hR
  go_wp2_with fail
  refine (new_any W0).mono ?_
  rintro e w1 ⟨rfl, hl1, hb1, hz1⟩
  obtain ⟨p, hp⟩ : ∃ p, p = W0.heap.size := ⟨_, rfl⟩
  rw [← hp] at hl1 hb1 ⊢
  have HP : Hid (p = w.heap.size + 1) := hp.trans HW0.out.2.2
  have H1 : Hid (Fl w1 p [] false 0 ∧ Bk w.heap.size w1 #[.int .i64 so, .int .i64 sd, .int .i64 sp, .int .u64 sa] 27 ∧ Below w.heap.size w w1) := ⟨hl1, HW0.out.1.kept (hb1.block _ (by have := HP.out; omega)), HW0.out.2.1.trans (hb1.mono (by have := HP.out; omega))⟩
  clear hl1 hb1 hz1 hp HW0
  go_wp2_with fail
  go_loopw [8] (fun i wr => ∃ (k : Nat), i = .int .i64 k ∧ (k : Int) ≤ n ∧ Hid (Fl wr p (lst (xs.take k)) false 0 ∧ Bk w.heap.size wr #[.int .i64 so, .int .i64 sd, .int .i64 sp, .int .u64 sa] 27 ∧ Below w.heap.size w wr)) (fun i _ => n - (intOf i).toNat)
  case atStart => exact ⟨0, rfl, by omega, H1⟩
  case round =>
    clear H1
    obtain ⟨k, rfl, hk, HK⟩ := hrel
    by_cases hlt : (k : Int) < n
    · have hkx : k < xs.length := by have := HV.out.2; omega
      obtain ⟨ad, hix, hab, hac⟩ := (HV.out.1.below HK.out.2.2 (Nat.le_refl _)).at k hkx
      have HE : Hid (lst (xs.take (k + 1)) = adS (lst (xs.take k)) (xs.getD k z0)) := lst_succ xs k hkx
      obtain ⟨y, hy⟩ : ∃ y, y = xs.getD k z0 := ⟨_, rfl⟩
      rw [← hy] at hac HE
      have HC : Hid (∀ j u, (smL y)[j]? = some u → wr.cell? (ad.add j) = some u) := hac
      have HA : Hid _ := fadd_any p _ _ _ y wr HK.out.1
      clear hac hkx hab hy
      go_wp2_with (first | (refine step_ldat 27 _ rfl rfl ad (by rfl) (smL y) _ Try.underlying27 rfl (by kernel_rfl) HC.out ?_) | (go_at_call 9; refine Calls.mono HA.out ?_; rintro e w3 ⟨rfl, hl3, hg3⟩))
      go_roundw
      case rel => exact ⟨k + 1, by go_num, by omega, ⟨by rw [HE.out]; exact hl3, HK.out.2.1.kept (hg3.block _ HK.out.2.1.lt (fun e => by have := HP.out; injection e with e; omega)), below_grown HK.out.2.2 hg3 (by have := HP.out; omega)⟩⟩
      case measure => simp [intOf]; omega
    · have hkn : k = n := by omega
      subst hkn
      have H2 : Hid (Fl wr p (lst xs) false 0 ∧ Bk w.heap.size wr #[.int .i64 so, .int .i64 sd, .int .i64 sp, .int .u64 sa] 27 ∧ Below w.heap.size w wr ∧ ∀ s ∈ lst xs, okS s) := ⟨by have := HK.out.1; rw [HV.out.2, List.take_length] at this; exact this, HK.out.2.1, HK.out.2.2, lst_ok HV.out.1.ok⟩
      clear HK
      go_wp2_with fail
      go_loopw [9] (fun i wi => ∃ (j : Nat) (a : Int) (L : List Smp), i = .int .i64 j ∧ (j : Int) ≤ 8 ∧ 0 ≤ a ∧ a < 18446744073709551616 ∧ Hid (Fl wi p L false 0 ∧ j ≤ L.length ∧ (∀ s ∈ L.take j, s.o = so ∧ s.d = sd) ∧ (0 < j → (fst L).a = a) ∧ (∀ s ∈ L, okS s) ∧ Bk w.heap.size wi #[.int .i64 so, .int .i64 sd, .int .i64 sp, .int .u64 a] 27 ∧ Below w.heap.size w wi)) (fun i _ => 8 - (intOf i).toNat)
      case atStart => exact ⟨0, sa, lst xs, rfl, by omega, a0, a1, ⟨H2.out.1, Nat.zero_le _, fun s hs => by simp at hs, fun h => by omega, H2.out.2.2.2, H2.out.2.1, H2.out.2.2.1⟩⟩
      case round =>
        clear H2
        obtain ⟨j, a, L, rfl, hj, ha0, ha1, HJ⟩ := hrel
        have hB := HJ.out.2.2.2.2.2.1
        by_cases hlt2 : (j : Int) < 8
        · have c3 : wr.cell? ⟨w.heap.size, 3, none⟩ = some (.int .u64 a) := hB.cell 3
          have cf := hB.frozen
          obtain ⟨b, hb⟩ : ∃ b, b = IntKind.u64.wrap (a + gap) := ⟨_, rfl⟩
          have hb' : IntKind.u64.wrap (a + gap) = b := hb.symm
          have hb0 : 0 ≤ b ∧ b < 18446744073709551616 := by rw [hb, IntKind.wrap_u64]; omega
          have hB2 : Bk w.heap.size (wr.setCell ⟨w.heap.size, 3, none⟩ (.int .u64 b)) (smL ⟨so, sd, sp, b⟩).toArray 27 := hB.set (j := 3) (.int .u64 b)
          have hg2 : wr.grownBy (wr.setCell ⟨w.heap.size, 3, none⟩ (.int .u64 b)) (some w.heap.size) := grownBy_set wr ⟨w.heap.size, 3, none⟩ _
          have hF2 : Fl (wr.setCell ⟨w.heap.size, 3, none⟩ (.int .u64 b)) p L false 0 := HJ.out.1.setNew _ (by have := HP.out; show w.heap.size ≠ p; omega) _
          have H3 : Hid (Bk w.heap.size (wr.setCell ⟨w.heap.size, 3, none⟩ (.int .u64 b)) (smL ⟨so, sd, sp, b⟩).toArray 27 ∧ Below w.heap.size w (wr.setCell ⟨w.heap.size, 3, none⟩ (.int .u64 b))) := ⟨hB2, below_grown HJ.out.2.2.2.2.2.2 hg2 (Nat.le_refl _)⟩
          have HC : Hid (∀ i u, (smL ⟨so, sd, sp, b⟩)[i]? = some u → (wr.setCell ⟨w.heap.size, 3, none⟩ (.int .u64 b)).cell? ((⟨w.heap.size, 0, none⟩ : Addr).add i) = some u) := cells_of (l := smL ⟨so, sd, sp, b⟩) hB2
          have HA : Hid _ := fadd_any p L false 0 ⟨so, sd, sp, b⟩ _ hF2
          clear hb hB hB2 hg2 hF2
          go_wp2_with (first | (refine step_ldat 27 _ rfl rfl ⟨w.heap.size, 0, none⟩ (by rfl) (smL ⟨so, sd, sp, b⟩) _ Try.underlying27 rfl (by kernel_rfl) HC.out ?_) | (go_at_call 9; refine Calls.mono HA.out ?_; rintro e w3 ⟨rfl, hl3, hg3⟩))
          go_roundw
          case rel =>
            have hne : some w.heap.size ≠ some p := fun e => by have := HP.out; injection e with e; omega
            refine ⟨j + 1, b, adS L ⟨so, sd, sp, b⟩, by go_num, by omega, hb0.1, hb0.2, ⟨hl3, ?_, ?_, fun _ => rfl, adS_ok HJ.out.2.2.2.2.1 ⟨⟨o0, o1⟩, ⟨d0, d1⟩, ⟨p0, p1⟩, hb0⟩, H3.out.1.kept (hg3.block _ H3.out.1.lt hne), below_grown H3.out.2 hg3 (by have := HP.out; omega)⟩⟩
            · rw [adS_len _ _ HJ.out.1.len]; have := HJ.out.2.1; omega
            · intro s hs
              unfold adS at hs
              rw [List.take_take, Nat.min_eq_left (by omega), List.take_succ_cons] at hs
              rcases List.mem_cons.1 hs with rfl | hs
              · exact ⟨rfl, rfl⟩
              · exact HJ.out.2.2.1 s hs
          case measure => simp [intOf]; omega
        · have hj8 : j = 8 := by omega
          subst hj8
          have hl8 : L.length = 8 := by have := HJ.out.2.1; have := HJ.out.1.len; omega
          obtain ⟨s1, s2, s3, s4⟩ := steady L so sd (fun s hs => HJ.out.2.2.1 s (by rw [List.take_of_length_le (by omega)]; exact hs)) (by omega)
          have s5 := HJ.out.2.2.2.1 (by omega)
          have q := best_any p L false 0 a wr HJ.out.1 (by omega) HJ.out.2.2.2.2.1
          rw [s1, s2, s3, s4, s5] at q
          have e1 : nwB false 0 a = true := rfl
          rw [e1] at q
          have HBe : Hid (∃ D, Calls Try.prog 10 #[.pointer (some ⟨p, 0, none⟩), .int .u64 a] wr fun e w' => e = .returned (.agg (bsL so sd D 4096 a true).toArray) ∧ wr.grownBy w' (some p)) := ⟨_, q.mono fun e w' h => ⟨h.1, h.2.2⟩⟩
          obtain ⟨D, HBe⟩ := HBe.out
          have HBe : Hid _ := HBe
          have c0 : wr.cell? ⟨w.heap.size, 0, none⟩ = some (.int .i64 so) := hB.cell 0
          have c1 : wr.cell? ⟨w.heap.size, 1, none⟩ = some (.int .i64 sd) := hB.cell 1
          have c3 : wr.cell? ⟨w.heap.size, 3, none⟩ = some (.int .u64 a) := hB.cell 3
          clear q s1 s2 s3 s4 s5 e1 hB hl8
          go_wp2_with fail
          refine Calls.mono HBe.out ?_
          rintro e w3 ⟨rfl, hg3⟩
          obtain ⟨bb, hbb⟩ : ∃ bb, w3.heap.size = bb := ⟨_, rfl⟩
          have HT : Hid ((w3.alloc (.cells #[.int .i64 0, .int .i64 0, .int .i64 0, .int .i64 0, .int .u64 0, .bool false] 33)).heap[bb]? = some (.cells #[.int .i64 0, .int .i64 0, .int .i64 0, .int .i64 0, .int .u64 0, .bool false] 33 (0, 0))) := by
            have h0 := alloc_at w3 (.cells #[.int .i64 0, .int .i64 0, .int .i64 0, .int .i64 0, .int .u64 0, .bool false] 33)
            rw [hbb] at h0
            exact h0
          have H3 : Hid (Bk w.heap.size w3 #[.int .i64 so, .int .i64 sd, .int .i64 sp, .int .u64 a] 27 ∧ Below w.heap.size w w3) := by
            have hne : some w.heap.size ≠ some p := fun e => by have := HP.out; injection e with e; omega
            exact ⟨HJ.out.2.2.2.2.2.1.kept (hg3.block _ HJ.out.2.2.2.2.2.1.lt hne), below_grown HJ.out.2.2.2.2.2.2 hg3 (by have := HP.out; omega)⟩
          have hT : Bk bb ((w3.alloc (.cells #[.int .i64 0, .int .i64 0, .int .i64 0, .int .i64 0, .int .u64 0, .bool false] 33)).setRow bb (bsL so sd D 4096 a true).toArray) (bsL so sd D 4096 a true).toArray 33 := setRow_heap _ _ _ _ _ _ HT.out
          have hb : w.heap.size < bb := by rw [← hbb]; exact H3.out.1.lt
          have hX : Bk w.heap.size ((w3.alloc (.cells #[.int .i64 0, .int .i64 0, .int .i64 0, .int .i64 0, .int .u64 0, .bool false] 33)).setRow bb (bsL so sd D 4096 a true).toArray) #[.int .i64 so, .int .i64 sd, .int .i64 sp, .int .u64 a] 27 := H3.out.1.kept ((setRow_other _ _ _ _ (by omega)).trans (((Below.refl w3.heap.size w3).alloc (Nat.le_refl _) _).block _ H3.out.1.lt))
          have HB : Hid (Below w.heap.size w ((w3.alloc (.cells #[.int .i64 0, .int .i64 0, .int .i64 0, .int .i64 0, .int .u64 0, .bool false] 33)).setRow bb (bsL so sd D 4096 a true).toArray)) := below_row (H3.out.2.alloc H3.out.2.size _) (Nat.le_of_lt hb) _
          have b0 : ((w3.alloc (.cells #[.int .i64 0, .int .i64 0, .int .i64 0, .int .i64 0, .int .u64 0, .bool false] 33)).setRow bb (bsL so sd D 4096 a true).toArray).cell? ⟨bb, 0, none⟩ = some (.int .i64 so) := hT.cell 0
          have b1 : ((w3.alloc (.cells #[.int .i64 0, .int .i64 0, .int .i64 0, .int .i64 0, .int .u64 0, .bool false] 33)).setRow bb (bsL so sd D 4096 a true).toArray).cell? ⟨bb, 1, none⟩ = some (.int .i64 sd) := hT.cell 1
          have b3 : ((w3.alloc (.cells #[.int .i64 0, .int .i64 0, .int .i64 0, .int .i64 0, .int .u64 0, .bool false] 33)).setRow bb (bsL so sd D 4096 a true).toArray).cell? ⟨bb, 3, none⟩ = some (.int .i64 4096) := hT.cell 3
          have b4 : ((w3.alloc (.cells #[.int .i64 0, .int .i64 0, .int .i64 0, .int .i64 0, .int .u64 0, .bool false] 33)).setRow bb (bsL so sd D 4096 a true).toArray).cell? ⟨bb, 4, none⟩ = some (.int .u64 a) := hT.cell 4
          have b5 : ((w3.alloc (.cells #[.int .i64 0, .int .i64 0, .int .i64 0, .int .i64 0, .int .u64 0, .bool false] 33)).setRow bb (bsL so sd D 4096 a true).toArray).cell? ⟨bb, 5, none⟩ = some (.bool true) := hT.cell 5
          have x0 : ((w3.alloc (.cells #[.int .i64 0, .int .i64 0, .int .i64 0, .int .i64 0, .int .u64 0, .bool false] 33)).setRow bb (bsL so sd D 4096 a true).toArray).cell? ⟨w.heap.size, 0, none⟩ = some (.int .i64 so) := hX.cell 0
          have x1 : ((w3.alloc (.cells #[.int .i64 0, .int .i64 0, .int .i64 0, .int .i64 0, .int .u64 0, .bool false] 33)).setRow bb (bsL so sd D 4096 a true).toArray).cell? ⟨w.heap.size, 1, none⟩ = some (.int .i64 sd) := hX.cell 1
          have x3 : ((w3.alloc (.cells #[.int .i64 0, .int .i64 0, .int .i64 0, .int .i64 0, .int .u64 0, .bool false] 33)).setRow bb (bsL so sd D 4096 a true).toArray).cell? ⟨w.heap.size, 3, none⟩ = some (.int .u64 a) := hX.cell 3
          clear hg3 HBe c0 c1 c3 hT hX hb
          go_wp2_with (refine step_stR (by rfl) _ _ rfl bb (bsL so sd D 4096 a true).toArray (by rfl) (by rfl) #[.int .i64 0, .int .i64 0, .int .i64 0, .int .i64 0, .int .u64 0, .bool false] (by kernel_rfl) (by rfl) (by kernel_rfl) HT.out ?_)
          rw [hQ.out]
          go_ret
          exact ⟨rfl, HB.out⟩
end Go.Proofs.Ytgkjgkdlcmmpoaa
/- What Samples returns. -/
namespace Go.Proofs.Ytgkjgkdlcmmpoaa
open Go Go.RowKit Fi
theorem made_z : ∀ n, n ≤ 8 → (madeCells #[.int .i64 0, .int .i64 0, .int .i64 0, .int .u64 0] (n * 4)).toList = smF (List.replicate n z0)
  | 0, _ => by kernel_rfl
  | 1, _ => by kernel_rfl
  | 2, _ => by kernel_rfl
  | 3, _ => by kernel_rfl
  | 4, _ => by kernel_rfl
  | 5, _ => by kernel_rfl
  | 6, _ => by kernel_rfl
  | 7, _ => by kernel_rfl
  | 8, _ => by kernel_rfl
  | n + 9, h => by omega
/-- make -/
theorem run_mk4 (w : World) (n : Nat) (hn : n ≤ 8) : ∃ w', (Instr.makeSlice 22 (.int .i64 (n : Int)) (.int .i64 (n : Int))).run Try.prog w = .ok (.slice (some ⟨w.heap.size, 0, none⟩) n n) w' ∧ O4 w' w.heap.size (.slice (some ⟨w.heap.size, 0, none⟩) n n) (List.replicate n z0) ∧ Below w.heap.size w w' := by
  obtain ⟨i, z, h1, h2, h3, h4, h5⟩ := ti4.info
  have hz : z = .agg #[.int .i64 0, .int .i64 0, .int .i64 0, .int .u64 0] := by
    have h : (Try.prog.info? 27).map (fun i => i.zero) = some (some (.agg #[.int .i64 0, .int .i64 0, .int .i64 0, .int .u64 0])) := by kernel_rfl
    rw [h1] at h
    simp [h2] at h
    exact h
  have hm := run_make (P := Try.prog) w 22 27 i z Try.underlying22 h1 h2 .i64 .i64 (n : Int) (n : Int) (by omega) (by omega) (by rw [h4]; omega) (by omega)
  rw [h3, hz] at hm
  refine ⟨_, hm, ?_, (Below.refl _ _).alloc (Nat.le_refl _) _⟩
  have hc := made_z n hn
  have e : (Value.agg #[.int .i64 0, .int .i64 0, .int .i64 0, .int .u64 0]).cells = #[.int .i64 0, .int .i64 0, .int .i64 0, .int .u64 0] := rfl
  rw [e]
  have hl : ((List.replicate n z0).map smL).length = n := by simp
  refine ⟨⟨?_, .inr ⟨w.heap.size, n, madeCells #[.int .i64 0, .int .i64 0, .int .i64 0, .int .u64 0] ((n : Int).toNat * 4), by rw [hl], Nat.le_refl _, alloc_at _ _, by rw [hl]; exact Nat.le_refl _, by unfold maxLen; omega, by rw [size_madeCells]; simp, ?_⟩⟩, smL_len _⟩
  · rw [flat_len (smL_len _)]
  · rw [hl]
    simp only [Int.toNat_natCast]
    rw [hc]
    unfold smF
    exact List.take_of_length_le (by rw [flat_len (smL_len _), hl]; exact Nat.le_refl _)
set_option maxRecDepth 20000 in
set_option maxHeartbeats 1000000 in
theorem fsamples_any {w : World} {p : Nat} {xs : List Smp} {t : Bool} {la : Int} (h : Fl w p xs t la) :
    Calls Try.prog 15 #[.pointer (some ⟨p, 0, none⟩)] w fun e w' => ∃ v, e = .returned v ∧ O4 w' w.heap.size v xs ∧ Below w.heap.size w w' := by
  have hc := h.c
  obtain ⟨n, hn⟩ : ∃ n, n = xs.length := ⟨_, rfl⟩
  rw [← hn] at hc
  have HN : Hid (n = xs.length) := hn
  have hn8 : (n : Int) ≤ 8 := by have := h.len; omega
  have H : Hid (Fl w p xs t la) := h
  clear h hn
  go_enter Try.func15, Try.ntmps15
  refine post_hid fun Q hQ => ?_
  obtain ⟨W1, hmk, ho1, hb1⟩ := run_mk4 w n (by omega)
  obtain ⟨mb, hmb⟩ : ∃ mb, mb = w.heap.size := ⟨_, rfl⟩
  have H1 : Hid (O4 W1 w.heap.size (.slice (some ⟨mb, 0, none⟩) n n) (List.replicate n z0) ∧ Below w.heap.size w W1) := ⟨by rw [hmb]; exact ho1, hb1⟩
  rw [← hmb] at hmk
  have Hmb : Hid (mb = w.heap.size) := hmb
  clear ho1 hb1 hmb
  go_wp2
  go_loopw [12] (fun i wr => ∃ (k : Nat), i = .int .i64 k ∧ (k : Int) ≤ n ∧ Hid ((∃ zs : List Smp, zs.length = n ∧ zs.take k = xs.take k ∧ O4 wr w.heap.size (.slice (some ⟨mb, 0, none⟩) n n) zs) ∧ Below w.heap.size w wr)) (fun i _ => n - (intOf i).toNat)
  case atStart => exact ⟨0, rfl, by omega, ⟨⟨List.replicate n z0, by simp, rfl, H1.out.1⟩, H1.out.2⟩⟩
  case round =>
    clear H1 hmk
    obtain ⟨k, rfl, hk, HK⟩ := hrel
    by_cases hlt : (k : Int) < n
    · obtain ⟨zs, hz1, hz2, hz3⟩ := HK.out.1
      have hkx : k < xs.length := by have := HN.out; omega
      have HSm : Hid _ := sample_any p xs t la k wr (H.out.below HK.out.2 H.out.lt) hkx
      obtain ⟨y, hy⟩ : ∃ y, y = xs.getD k z0 := ⟨_, rfl⟩
      rw [← hy] at HSm
      have HZ : Hid (zs.length = n ∧ zs.take k = xs.take k ∧ O4 wr w.heap.size (.slice (some ⟨mb, 0, none⟩) n n) zs ∧ y = xs.getD k z0) := ⟨hz1, hz2, hz3, hy⟩
      have hix := ix_sl mb n n k hlt
      have HKX : Hid (k < xs.length) := hkx
      clear hz1 hz2 hz3 hy hkx
      go_wp2_with fail
      refine Calls.mono HSm.out ?_
      rintro e w3 ⟨rfl, hb3⟩
      have hl3 : (zs.map smL).length = n := by rw [List.length_map]; exact HZ.out.1
      have ho3 : OR w3 w.heap.size 27 4 (.slice (some ⟨mb, 0, none⟩) (zs.map smL).length n) (zs.map smL) := by rw [hl3]; exact OR.below HZ.out.2.2.1 hb3 (Nat.le_refl _)
      have HO3 : Hid _ := ho3
      have H3 : Hid (Below w.heap.size w w3 ∧ k < (zs.map smL).length) := ⟨HK.out.2.trans (hb3.mono HK.out.2.size), by omega⟩
      clear hb3 ho3 HSm
      go_wp2_with (refine wpList_stk rfl 27 _ _ rfl k (smL y) HO3.out (by kernel_rfl) (by rfl) (by rfl) H3.out.2 rfl (smL_one _) ?_; intro w4 ho4 hg4 hz4)
      have H4 : Hid ((∃ zs : List Smp, zs.length = n ∧ zs.take (k + 1) = xs.take (k + 1) ∧ O4 w4 w.heap.size (.slice (some ⟨mb, 0, none⟩) n n) zs) ∧ Below w.heap.size w w4) := by
        refine ⟨⟨zs.set k y, by rw [List.length_set]; exact HZ.out.1, ?_, ?_⟩, below_grown H3.out.1 hg4 (Nat.le_of_eq Hmb.out.symm)⟩
        · have hkz : k < zs.length := by rw [HZ.out.1]; omega
          have hkx := HKX.out
          rw [List.take_succ_eq_append_getElem (by rw [List.length_set]; exact hkz), List.take_succ_eq_append_getElem hkx, List.take_set_of_le (Nat.le_refl _), HZ.out.2.1, List.getElem_set_self, HZ.out.2.2.2, getD_lt xs k hkx]
        · unfold O4
          rw [hl3] at ho4
          rw [List.map_set]
          exact ho4
      clear ho4 hg4 hz4 HO3 H3 HZ
      go_wp2_with fail
      go_roundw
      case rel => exact ⟨k + 1, by go_num, by omega, H4⟩
      case measure => simp [intOf]; omega
    · have hkn : k = n := by omega
      subst hkn
      obtain ⟨zs, hz1, hz2, hz3⟩ := HK.out.1
      have e : zs = xs := by rw [← List.take_of_length_le (Nat.le_of_eq hz1), hz2, HN.out, List.take_length]
      rw [e] at hz3
      have HE : Hid (O4 wr w.heap.size (.slice (some ⟨mb, 0, none⟩) k k) xs ∧ Below w.heap.size w wr) := ⟨hz3, HK.out.2⟩
      clear hz1 hz2 hz3 e HK
      go_wp2_with fail
      rw [hQ.out]
      go_ret
      exact ⟨_, rfl, HE.out⟩
end Go.Proofs.Ytgkjgkdlcmmpoaa
/- Both filters beside one another; steps that came in. -/
namespace Go.Proofs.Ytgkjgkdlcmmpoaa
open Go Go.RowKit Fi
/-- Best of both: one answer -/
theorem two_best (xs : List Smp) (t : Bool) (la now : Int) (ok : ∀ s ∈ xs, okS s) : ∃ (o d q j a : Int) (n t2 : Bool) (la2 : Int),
    (∀ w p, Fl w p xs t la → Calls Try.prog 10 #[.pointer (some ⟨p, 0, none⟩), .int .u64 now] w fun e w' => e = .returned (.agg (bsL o d q j a n).toArray) ∧ Fl w' p xs t2 la2 ∧ w.grownBy w' (some p)) ∧
    (∀ w g B la', Rf w g B xs t la' → (t = true → la = la') → ∃ la2', (t2 = true → la2 = la2') ∧ Calls Try.prog 12 #[.pointer (some ⟨g, 0, none⟩), .int .u64 now] w fun e w' => e = .returned (.agg (bsL o d q j a n).toArray) ∧ Rf w' g B xs t2 la2' ∧ w.grownBy w' (some g)) := by
  cases xs with
  | nil =>
    refine ⟨0, 0, 68719476736, 0, 0, false, t, la, fun w p h => ?_, fun w g B la' h hla => ⟨la', hla, ?_⟩⟩
    · refine (best_none p t la now w h).mono ?_
      rintro e w' ⟨rfl, hb⟩
      exact ⟨rfl, h.below hb h.lt, grownBy_below hb _⟩
    · refine (rbest_none now h).mono ?_
      rintro e w' ⟨rfl, hb⟩
      exact ⟨rfl, h.below hb (Nat.le_refl _), grownBy_below hb _⟩
  | cons x r =>
    refine ⟨_, _, _, _, _, _, _, _, fun w p h => best_any p (x :: r) t la now w h (by simp) ok, fun w g B la' h hla => ?_⟩
    have q := rbest_any now h (by simp) ok
    obtain ⟨a, ha⟩ : ∃ a, a = (fst (srt (x :: r))).a := ⟨_, rfl⟩
    rw [← ha] at q ⊢
    have e : nwB t la' a = nwB t la a := by
      cases t with
      | false => rfl
      | true => rw [hla rfl]
    rw [e] at q
    refine ⟨_, fun ht => ?_, q⟩
    unfold nwL
    rw [e]
    by_cases hn : nwB t la a = true
    · rw [if_pos hn, if_pos hn]
    · rw [if_neg hn, if_neg hn]
      cases t with
      | false => exact absurd rfl hn
      | true => exact hla rfl
/-- a call -/
structure Stp9 where
  kd : Int
  s : Smp
  now : Int
def sl9 (x : Stp9) : List Value := [.int .i64 x.kd, .int .i64 x.s.o, .int .i64 x.s.d, .int .i64 x.s.p, .int .u64 x.s.a, .int .u64 x.now]
def z9 : Stp9 := ⟨0, z0, 0⟩
/-- a slice below block N that reads as these calls -/
structure St9 (N : Nat) (w : World) (v : Value) (ss : List Stp9) : Prop where
  ex : ∃ ao cap, v = .slice ao ss.length cap ∧ ∀ k, k < ss.length → ∃ ad, ao = some ad ∧ ad.block < N ∧ ∀ j u, (sl9 (ss.getD k z9))[j]? = some u → w.cell? ((ad.add (k * 6)).add j) = some u
  ok : ∀ x ∈ ss, okS x.s
theorem St9.below {N B : Nat} {w w' : World} {v : Value} {ss : List Stp9} (h : St9 N w v ss) (hb : Below B w w') (hN : N ≤ B) : St9 N w' v ss := by
  obtain ⟨⟨ao, cap, h1, h2⟩, h3⟩ := h
  refine ⟨⟨ao, cap, h1, fun k hk => ?_⟩, h3⟩
  obtain ⟨ad, k1, k2, k3⟩ := h2 k hk
  exact ⟨ad, k1, k2, fun j u hu => (hb.cell (p := (ad.add (k * 6)).add j) (by rw [add_block, add_block]; omega)).trans (k3 j u hu)⟩
theorem St9.at {N : Nat} {w : World} {ao : Option Addr} {n cap : Nat} {ss : List Stp9} (h : St9 N w (.slice ao n cap) ss) (k : Nat) (hk : k < ss.length) : ∃ ad : Addr, (∀ u, Sem.run Try.prog (Instr.indexAt 36 (.slice ao n cap) (.int .i64 (k : Int))) u = .ok (.pointer (some ad)) u) ∧ ad.block < N ∧ ∀ j u, (sl9 (ss.getD k z9))[j]? = some u → w.cell? (ad.add j) = some u := by
  obtain ⟨⟨ao', cap', h1, h2⟩, _⟩ := h
  injection h1 with e1 e2 e3
  subst e1 e2 e3
  obtain ⟨ad, k1, k2, k3⟩ := h2 k hk
  refine ⟨ad.add (k * 6), fun u => ?_, by rw [add_block]; exact k2, k3⟩
  subst k1
  have u' := Try.underlying36
  have c3 : Try.prog.cellsOf 41 = 6 := by kernel_rfl
  have h0 : (0 : Int) ≤ k := Int.natCast_nonneg k
  have h1 : (k : Int) < ss.length := by omega
  go_simp
set_option maxRecDepth 20000 in
set_option maxHeartbeats 2000000 in
theorem FilterScript_row (v : Value) (ss : List Stp9) (w : World) (hv : St9 w.heap.size w v ss) :
    Calls Try.prog 4 #[v] w fun e w' => e = .returned (.bool true) ∧ Below w.heap.size w w' := by
  obtain ⟨ao, cap, rfl, -⟩ := hv.ex
  obtain ⟨n, hn⟩ : ∃ n, n = ss.length := ⟨_, rfl⟩
  rw [← hn] at hv ⊢
  have HV : Hid (St9 w.heap.size w (.slice ao n cap) ss ∧ n = ss.length) := ⟨hv, hn⟩
  clear hv hn
  by_cases h1 : 65536 < (n : Int)
  · go_enter Try.func4, Try.ntmps4
    go_wp2
    go_ret
    exact ⟨rfl, (by repeat' (first | with_reducible exact Below.refl _ _ | with_reducible refine Below.setCell ?_ (by first | (simp; done) | (simp; omega) | omega) _ | with_reducible refine below_drewN ?_ _ | with_reducible refine Below.drew ?_ | with_reducible refine Below.alloc ?_ (by first | (simp; done) | (simp; omega) | omega) _))⟩
  go_enter Try.func4, Try.ntmps4
  refine post_hid fun Q hQ => ?_
  go_wp2_with fail
  refine (new_any w).mono ?_
  rintro e w1 ⟨rfl, hl1, hb1, hz1⟩
  obtain ⟨p, hp⟩ : ∃ p, p = w.heap.size := ⟨_, rfl⟩
  rw [← hp] at hl1 ⊢
  obtain ⟨g, hg⟩ : ∃ g, w1.heap.size = g := ⟨_, rfl⟩
  have HP : Hid (p = w.heap.size ∧ g = p + 1) := ⟨hp, by rw [← hg, hz1, hp]⟩
  have H1 : Hid (Fl w1 p [] false 0 ∧ Below w.heap.size w w1) := ⟨hl1, hb1⟩
  clear hl1 hb1 hz1 hp
  go_wp2_with fail
  have HG0 : Hid (Rf (w1.alloc (.cells #[.slice none 0 0, .bool false, .int .u64 0] 39)) g (p + 2) [] false 0 ∧ Fl (w1.alloc (.cells #[.slice none 0 0, .bool false, .int .u64 0] 39)) p [] false 0 ∧ Below w.heap.size w (w1.alloc (.cells #[.slice none 0 0, .bool false, .int .u64 0] 39))) := by
    have hb : Below w1.heap.size w1 (w1.alloc (.cells #[.slice none 0 0, .bool false, .int .u64 0] 39)) := (Below.refl _ _).alloc (Nat.le_refl _) _
    have e := HP.out.2
    refine ⟨⟨by omega, by simp [hg]; omega, by simp, .slice none 0 0, ?_, Sv4.nil _ _⟩, H1.out.1.below hb H1.out.1.lt, H1.out.2.alloc H1.out.2.size _⟩
    rw [← hg]; exact Bk.new _ _ _
  clear H1
  go_loopw [5] (fun i wr => ∃ (k : Nat) (xs : List Smp) (t : Bool) (la lb : Int), i = .int .i64 k ∧ (k : Int) ≤ n ∧ Hid (Fl wr p xs t la ∧ Rf wr g (p + 2) xs t lb ∧ (t = true → la = lb) ∧ (∀ s ∈ xs, okS s) ∧ Below w.heap.size w wr)) (fun i _ => n - (intOf i).toNat)
  case atStart => exact ⟨0, [], false, 0, 0, rfl, by omega, ⟨HG0.out.2.1, HG0.out.1, fun h => (by cases h), fun s hs => (by cases hs), HG0.out.2.2⟩⟩
  case round =>
    clear HG0
    obtain ⟨k, xs, t, la, lb, rfl, hk, HK⟩ := hrel
    by_cases hlt : (k : Int) < n
    · have hkx : k < ss.length := by have := HV.out.2; omega
      obtain ⟨ad, hix, hab, hac⟩ := (HV.out.1.below HK.out.2.2.2.2 (Nat.le_refl _)).at k hkx
      have oky : okS (ss.getD k z9).s := HV.out.1.ok _ (by rw [List.getD_eq_getElem?_getD, List.getElem?_eq_getElem hkx]; exact List.getElem_mem hkx)
      obtain ⟨y, hy⟩ : ∃ y, y = ss.getD k z9 := ⟨_, rfl⟩
      rw [← hy] at hac oky
      obtain ⟨kd, ⟨so, sd, sp, sa⟩, now⟩ := y
      have HC : Hid (∀ j u, ([.int .i64 kd, .int .i64 so, .int .i64 sd, .int .i64 sp, .int .u64 sa, .int .u64 now] : List Value)[j]? = some u → wr.cell? (ad.add j) = some u) := hac
      have HO : Hid (okS ⟨so, sd, sp, sa⟩) := oky
      obtain ⟨ob, hob⟩ : ∃ ob, wr.heap.size = ob := ⟨_, rfl⟩
      have HT : Hid ((wr.alloc (.cells #[.int .i64 0, .int .i64 0, .int .i64 0, .int .i64 0, .int .u64 0, .int .u64 0] 41)).heap[ob]? = some (.cells #[.int .i64 0, .int .i64 0, .int .i64 0, .int .i64 0, .int .u64 0, .int .u64 0] 41 (0, 0))) := by
        have h0 := alloc_at wr (.cells #[.int .i64 0, .int .i64 0, .int .i64 0, .int .i64 0, .int .u64 0, .int .u64 0] 41)
        rw [hob] at h0
        exact h0
      obtain ⟨W3, hW3⟩ : ∃ W3, W3 = (wr.alloc (.cells #[.int .i64 0, .int .i64 0, .int .i64 0, .int .i64 0, .int .u64 0, .int .u64 0] 41)).setRow ob #[.int .i64 kd, .int .i64 so, .int .i64 sd, .int .i64 sp, .int .u64 sa, .int .u64 now] := ⟨_, rfl⟩
      have hB3 : Bk ob W3 #[.int .i64 kd, .int .i64 so, .int .i64 sd, .int .i64 sp, .int .u64 sa, .int .u64 now] 41 := by rw [hW3]; exact setRow_heap _ _ _ _ _ _ HT.out
      have hb3 : Below wr.heap.size wr W3 := by rw [hW3]; exact below_row ((Below.refl _ _).alloc (Nat.le_refl _) _) (Nat.le_of_eq hob) _
      have H3 : Hid (Bk ob W3 #[.int .i64 kd, .int .i64 so, .int .i64 sd, .int .i64 sp, .int .u64 sa, .int .u64 now] 41 ∧ Fl W3 p xs t la ∧ Rf W3 g (p + 2) xs t lb ∧ Below w.heap.size w W3 ∧ p + 2 ≤ ob) := ⟨hB3, HK.out.1.below hb3 HK.out.1.lt, HK.out.2.1.below hb3 (Nat.le_refl _), HK.out.2.2.2.2.trans (hb3.mono HK.out.2.2.2.2.size), by rw [← hob]; exact HK.out.2.1.le⟩
      have o0 : W3.cell? ⟨ob, 0, none⟩ = some (.int .i64 kd) := hB3.cell 0
      have o5 : W3.cell? ⟨ob, 5, none⟩ = some (.int .u64 now) := hB3.cell 5
      have HC3 : Hid (∀ j u, ([.int .i64 so, .int .i64 sd, .int .i64 sp, .int .u64 sa] : List Value)[j]? = some u → W3.cell? ((⟨ob, 1, none⟩ : Addr).add j) = some u) := fun j u hu => by
        rw [add_at, hB3.cell]
        match j, hu with
        | 0, hu => exact hu
        | 1, hu => exact hu
        | 2, hu => exact hu
        | 3, hu => exact hu
      have HW3 : Hid (W3 = (wr.alloc (.cells #[.int .i64 0, .int .i64 0, .int .i64 0, .int .i64 0, .int .u64 0, .int .u64 0] 41)).setRow ob #[.int .i64 kd, .int .i64 so, .int .i64 sd, .int .i64 sp, .int .u64 sa, .int .u64 now]) := hW3
      clear hac hkx hab hy oky hB3 hb3 hW3
      by_cases k0 : kd = 0
      · subst k0
        have HA : Hid _ := fadd_any p xs t la ⟨so, sd, sp, sa⟩ W3 H3.out.2.1
        go_wp2_with (first | (refine step_ldat 41 _ rfl rfl ad (by rfl) [.int .i64 0, .int .i64 so, .int .i64 sd, .int .i64 sp, .int .u64 sa, .int .u64 now] _ Try.underlying41 rfl (by kernel_rfl) HC.out ?_) | (refine step_stR (by rfl) _ _ rfl ob #[.int .i64 0, .int .i64 so, .int .i64 sd, .int .i64 sp, .int .u64 sa, .int .u64 now] (by rfl) (by rfl) #[.int .i64 0, .int .i64 0, .int .i64 0, .int .i64 0, .int .u64 0, .int .u64 0] (by kernel_rfl) (by rfl) (by kernel_rfl) HT.out ?_; rw [← HW3.out]) | (refine step_ldat 27 _ rfl rfl ⟨ob, 1, none⟩ (by rfl) [.int .i64 so, .int .i64 sd, .int .i64 sp, .int .u64 sa] _ Try.underlying27 rfl (by kernel_rfl) HC3.out ?_))
        refine Calls.mono HA.out ?_
        rintro e w4 ⟨rfl, hl4, hg4⟩
        have hR4 := H3.out.2.2.1.grown hg4 (by omega) (by have := HP.out.2; omega)
        have hB4 : Bk ob w4 #[.int .i64 0, .int .i64 so, .int .i64 sd, .int .i64 sp, .int .u64 sa, .int .u64 now] 41 := H3.out.1.kept (hg4.block _ H3.out.1.lt (fun e => by have := H3.out.2.2.2.2; injection e with e; omega))
        have HC4 : Hid (∀ j u, ([.int .i64 so, .int .i64 sd, .int .i64 sp, .int .u64 sa] : List Value)[j]? = some u → w4.cell? ((⟨ob, 1, none⟩ : Addr).add j) = some u) := fun j u hu => by
          rw [add_at, hB4.cell]
          match j, hu with
          | 0, hu => exact hu
          | 1, hu => exact hu
          | 2, hu => exact hu
          | 3, hu => exact hu
        have HA2 : Hid _ := rfadd_any ⟨so, sd, sp, sa⟩ hR4
        have H4 : Hid (Fl w4 p (adS xs ⟨so, sd, sp, sa⟩) t la ∧ Below w.heap.size w w4) := ⟨hl4, below_grown H3.out.2.2.2.1 hg4 (Nat.le_of_eq HP.out.1.symm)⟩
        clear hl4 hg4 hR4 hB4 HA
        go_wp2_with (refine step_ldat 27 _ rfl rfl ⟨ob, 1, none⟩ (by rfl) [.int .i64 so, .int .i64 sd, .int .i64 sp, .int .u64 sa] _ Try.underlying27 rfl (by kernel_rfl) HC4.out ?_)
        refine Calls.mono HA2.out ?_
        rintro e w5 ⟨rfl, hr5, hg5⟩
        have HU : Hid (Fl w5 p (adS xs ⟨so, sd, sp, sa⟩) t la ∧ Rf w5 g (p + 2) (adS xs ⟨so, sd, sp, sa⟩) t lb ∧ (t = true → la = lb) ∧ (∀ s ∈ adS xs ⟨so, sd, sp, sa⟩, okS s) ∧ Below w.heap.size w w5) := ⟨H4.out.1.grown hg5 (fun e => by have := HP.out.2; injection e with e; omega), hr5, HK.out.2.2.1, adS_ok HK.out.2.2.2.1 HO.out, below_grown H4.out.2 hg5 (by have := HP.out; omega)⟩
        clear hr5 hg5 HA2 H4 H3 HC HC3 HC4 HT HW3 o0 o5
        go_wp2_with fail
        refine (fsamples_any HU.out.1).mono ?_
        rintro e w3 ⟨lv, rfl, ho3, hb3⟩
        obtain ⟨lo, ln, lc, rfl⟩ : ∃ ao n cap, lv = .slice ao n cap := by obtain ⟨ao, cap, e, _⟩ := ho3.sv.ex; exact ⟨ao, _, cap, e⟩
        have hlen := ho3.sv.len
        obtain ⟨m, hm⟩ : ∃ m, m = (adS xs ⟨so, sd, sp, sa⟩).length := ⟨_, rfl⟩
        rw [← hm] at hlen
        have hm8 : (m : Int) ≤ 8 := by have := HU.out.1.len; omega
        obtain ⟨r1, r2, r3, dv, r4, r5⟩ := HU.out.2.1.below hb3 (Nat.le_refl _)
        have cd : w3.cell? ⟨g, 0, none⟩ = some dv := r4.cell 0
        have HSa : Hid (Calls Try.prog 16 #[.slice lo ln lc, dv] w3 fun e w' => e = .returned (.bool true) ∧ ∃ n, w' = w3.drewN n) := same_any _ _ _ _ (adS xs ⟨so, sd, sp, sa⟩) w3 ho3.sv r5 (by have := HU.out.1.len; omega)
        have HM : Hid (m = (adS xs ⟨so, sd, sp, sa⟩).length) := hm
        have H3 : Hid (O4 w3 w5.heap.size (.slice lo ln lc) (adS xs ⟨so, sd, sp, sa⟩) ∧ Below w5.heap.size w5 w3) := ⟨ho3, hb3⟩
        clear ho3 hb3 hm r1 r2 r3 r4 r5
        go_wp2_with fail
        refine HSa.out.mono ?_
        rintro e w6 ⟨rfl, nq, hw6⟩
        have H6 : Hid (O4 w6 w5.heap.size (.slice lo ln lc) (adS xs ⟨so, sd, sp, sa⟩) ∧ Below w5.heap.size w5 w6) := by
          rw [hw6]; exact ⟨OR.drewN H3.out.1 nq, below_dr H3.out.2 nq⟩
        clear hw6 HSa H3 cd
        go_wp2_with fail
        go_loopw [8] (fun i wi => ∃ (j : Nat), i = .int .i64 j ∧ (j : Int) ≤ m ∧ Hid ((∃ zs : List Smp, zs.length = m ∧ O4 wi w5.heap.size (.slice lo ln lc) zs) ∧ Below w5.heap.size w5 wi)) (fun i _ => m - (intOf i).toNat)
        case atStart => exact ⟨0, rfl, by omega, ⟨⟨_, HM.out.symm, H6.out.1⟩, H6.out.2⟩⟩
        case round =>
          clear H6
          obtain ⟨j, rfl, hj, HJ⟩ := hrel
          by_cases hjm : (j : Int) < m
          · obtain ⟨zs, hz1, hz2⟩ := HJ.out.1
            obtain ⟨lg, cp, hform, hcap, hlg, hlt6⟩ := OR.form hz2 (by rw [List.length_map]; omega)
            injection hform with f1 f2 f3
            subst f1 f3
            have hix6 := ix_sl lg ln lc j (by rw [f2, List.length_map, hz1]; exact hjm)
            have hz3 : OR wr w5.heap.size 27 4 (.slice (some ⟨lg, 0, none⟩) (zs.map smL).length lc) (zs.map smL) := by rw [← f2]; exact hz2
            have HO6 : Hid _ := hz3
            have HZ : Hid (zs.length = m ∧ j < (zs.map smL).length ∧ w5.heap.size ≤ lg ∧ ln = (zs.map smL).length) := ⟨hz1, by rw [List.length_map, hz1]; omega, hlg, f2⟩
            clear hz1 hz2 hz3 hcap hlg hlt6 f2
            go_wp2_with (refine wpList_stk rfl 27 _ _ rfl j (smL ⟨77, 0, 0, 0⟩) HO6.out (by kernel_rfl) (by rfl) (by rfl) HZ.out.2.1 rfl (smL_one _) ?_; intro w7 ho7 hg7 hz7)
            have H7 : Hid ((∃ zs : List Smp, zs.length = m ∧ O4 w7 w5.heap.size (.slice (some ⟨lg, 0, none⟩) ln lc) zs) ∧ Below w5.heap.size w5 w7) := by
              refine ⟨⟨zs.set j ⟨77, 0, 0, 0⟩, by rw [List.length_set]; exact HZ.out.1, ?_⟩, below_grown HJ.out.2 hg7 HZ.out.2.2.1⟩
              unfold O4
              rw [List.map_set, HZ.out.2.2.2]
              exact ho7
            clear ho7 hg7 hz7 HO6
            go_wp2_with fail
            go_roundw
            case rel => exact ⟨j + 1, by go_num, by omega, H7⟩
            case measure => simp [intOf]; omega
          · have hjm' : j = m := by omega
            subst hjm'
            have HE : Hid (Fl wr p (adS xs ⟨so, sd, sp, sa⟩) t la ∧ Rf wr g (p + 2) (adS xs ⟨so, sd, sp, sa⟩) t lb ∧ (t = true → la = lb) ∧ (∀ s ∈ (adS xs ⟨so, sd, sp, sa⟩), okS s) ∧ Below w.heap.size w wr) := ⟨HU.out.1.below HJ.out.2 HU.out.1.lt, HU.out.2.1.below HJ.out.2 (Nat.le_refl _), HU.out.2.2.1, HU.out.2.2.2.1, HU.out.2.2.2.2.trans (HJ.out.2.mono HU.out.2.2.2.2.size)⟩
            clear HJ
            go_wp2_with fail
            go_roundw
            case rel => exact ⟨k + 1, (adS xs ⟨so, sd, sp, sa⟩), t, la, lb, by go_num, by omega, HE⟩
            case measure => simp [intOf]; omega
      · have k0' : (kd == 0) = false := by simpa using k0
        by_cases k1 : kd = 1
        · subst k1
          obtain ⟨bo, bd, bq, bj, ba, bn, t2, la2, hF, hR⟩ := two_best xs t la now HK.out.2.2.2.1
          unfold bsL at hF hR
          have HF : Hid _ := hF
          have HRr : Hid _ := hR
          have hob5 : ob < W3.heap.size := H3.out.1.lt
          clear hF hR k0
          go_wp2_with (first | (refine step_ldat 41 _ rfl rfl ad (by rfl) [.int .i64 1, .int .i64 so, .int .i64 sd, .int .i64 sp, .int .u64 sa, .int .u64 now] _ Try.underlying41 rfl (by kernel_rfl) HC.out ?_) | (refine step_stR (by rfl) _ _ rfl ob #[.int .i64 1, .int .i64 so, .int .i64 sd, .int .i64 sp, .int .u64 sa, .int .u64 now] (by rfl) (by rfl) #[.int .i64 0, .int .i64 0, .int .i64 0, .int .i64 0, .int .u64 0, .int .u64 0] (by kernel_rfl) (by rfl) (by kernel_rfl) HT.out ?_; rw [← HW3.out]))
          go_region_held3 (fun w' => w'.cell? ⟨ob, 5, none⟩ = some (.int .u64 now)) (first | with_reducible exact o5 | with_reducible exact d5 | with_reducible exact e5 | go_keep) (first
            | (go_at_call 10; refine Calls.mono (HF.out _ p (H3.out.2.1.kept rfl)) ?_; rintro e w4 ⟨rfl, hl4, hg4⟩; have HG4 : Hid (Fl w4 p xs t2 la2 ∧ W3.grownBy w4 (some p)) := ⟨hl4, (by first | exact hg4 | exact grownBy_trans (grownBy_drew W3 _) hg4)⟩; have hk4 := H3.out.1.kept (HG4.out.2.block _ H3.out.1.lt (fun e => by have := H3.out.2.2.2.2; injection e with e; omega)); have d5 : w4.cell? ⟨ob, 5, none⟩ = some (.int .u64 now) := hk4.cell 5)
            | (go_at_call 12; obtain ⟨lb2, hlb2, hcc⟩ := HRr.out w4 g (p + 2) lb (H3.out.2.2.1.grown HG4.out.2 (by omega) (by have := HP.out.2; omega)) HK.out.2.2.1; refine hcc.mono ?_; rintro e w5 ⟨rfl, hr5, hg5⟩; have HU : Hid (Fl w5 p xs t2 la2 ∧ Rf w5 g (p + 2) xs t2 lb2 ∧ (t2 = true → la2 = lb2) ∧ (∀ s ∈ xs, okS s) ∧ Below w.heap.size w w5) := ⟨HG4.out.1.grown hg5 (fun e => by have := HP.out.2; injection e with e; omega), hr5, hlb2, HK.out.2.2.2.1, below_grown (below_grown H3.out.2.2.2.1 HG4.out.2 (Nat.le_of_eq HP.out.1.symm)) hg5 (by have := HP.out; omega)⟩; have hk5 := hk4.kept (hg5.block _ hk4.lt (fun e => by have := H3.out.2.2.2.2; have := HP.out.2; injection e with e; omega)); have e5 : w5.cell? ⟨ob, 5, none⟩ = some (.int .u64 now) := hk5.cell 5))
          clear hl4 hg4 HG4 hk4 d5 hcc hr5 hg5 hk5 e5 hlb2 H3 HC HC3 HT HW3 o0 o5 HF HRr hob5
          go_wp2_with fail
          refine (fsamples_any HU.out.1).mono ?_
          rintro e w3 ⟨lv, rfl, ho3, hb3⟩
          obtain ⟨lo, ln, lc, rfl⟩ : ∃ ao n cap, lv = .slice ao n cap := by obtain ⟨ao, cap, e, _⟩ := ho3.sv.ex; exact ⟨ao, _, cap, e⟩
          have hlen := ho3.sv.len
          obtain ⟨m, hm⟩ : ∃ m, m = xs.length := ⟨_, rfl⟩
          rw [← hm] at hlen
          have hm8 : (m : Int) ≤ 8 := by have := HU.out.1.len; omega
          obtain ⟨r1, r2, r3, dv, r4, r5⟩ := HU.out.2.1.below hb3 (Nat.le_refl _)
          have cd : w3.cell? ⟨g, 0, none⟩ = some dv := r4.cell 0
          have HSa : Hid (Calls Try.prog 16 #[.slice lo ln lc, dv] w3 fun e w' => e = .returned (.bool true) ∧ ∃ n, w' = w3.drewN n) := same_any _ _ _ _ xs w3 ho3.sv r5 (by have := HU.out.1.len; omega)
          have HM : Hid (m = xs.length) := hm
          have H3 : Hid (O4 w3 w5.heap.size (.slice lo ln lc) xs ∧ Below w5.heap.size w5 w3) := ⟨ho3, hb3⟩
          clear ho3 hb3 hm r1 r2 r3 r4 r5
          go_wp2_with fail
          refine HSa.out.mono ?_
          rintro e w6 ⟨rfl, nq, hw6⟩
          have H6 : Hid (O4 w6 w5.heap.size (.slice lo ln lc) xs ∧ Below w5.heap.size w5 w6) := by
            rw [hw6]; exact ⟨OR.drewN H3.out.1 nq, below_dr H3.out.2 nq⟩
          clear hw6 HSa H3 cd
          go_wp2_with fail
          go_loopw [8] (fun i wi => ∃ (j : Nat), i = .int .i64 j ∧ (j : Int) ≤ m ∧ Hid ((∃ zs : List Smp, zs.length = m ∧ O4 wi w5.heap.size (.slice lo ln lc) zs) ∧ Below w5.heap.size w5 wi)) (fun i _ => m - (intOf i).toNat)
          case atStart => exact ⟨0, rfl, by omega, ⟨⟨_, HM.out.symm, H6.out.1⟩, H6.out.2⟩⟩
          case round =>
            clear H6
            obtain ⟨j, rfl, hj, HJ⟩ := hrel
            by_cases hjm : (j : Int) < m
            · obtain ⟨zs, hz1, hz2⟩ := HJ.out.1
              obtain ⟨lg, cp, hform, hcap, hlg, hlt6⟩ := OR.form hz2 (by rw [List.length_map]; omega)
              injection hform with f1 f2 f3
              subst f1 f3
              have hix6 := ix_sl lg ln lc j (by rw [f2, List.length_map, hz1]; exact hjm)
              have hz3 : OR wr w5.heap.size 27 4 (.slice (some ⟨lg, 0, none⟩) (zs.map smL).length lc) (zs.map smL) := by rw [← f2]; exact hz2
              have HO6 : Hid _ := hz3
              have HZ : Hid (zs.length = m ∧ j < (zs.map smL).length ∧ w5.heap.size ≤ lg ∧ ln = (zs.map smL).length) := ⟨hz1, by rw [List.length_map, hz1]; omega, hlg, f2⟩
              clear hz1 hz2 hz3 hcap hlg hlt6 f2
              go_wp2_with (refine wpList_stk rfl 27 _ _ rfl j (smL ⟨77, 0, 0, 0⟩) HO6.out (by kernel_rfl) (by rfl) (by rfl) HZ.out.2.1 rfl (smL_one _) ?_; intro w7 ho7 hg7 hz7)
              have H7 : Hid ((∃ zs : List Smp, zs.length = m ∧ O4 w7 w5.heap.size (.slice (some ⟨lg, 0, none⟩) ln lc) zs) ∧ Below w5.heap.size w5 w7) := by
                refine ⟨⟨zs.set j ⟨77, 0, 0, 0⟩, by rw [List.length_set]; exact HZ.out.1, ?_⟩, below_grown HJ.out.2 hg7 HZ.out.2.2.1⟩
                unfold O4
                rw [List.map_set, HZ.out.2.2.2]
                exact ho7
              clear ho7 hg7 hz7 HO6
              go_wp2_with fail
              go_roundw
              case rel => exact ⟨j + 1, by go_num, by omega, H7⟩
              case measure => simp [intOf]; omega
            · have hjm' : j = m := by omega
              subst hjm'
              have HE : Hid (Fl wr p xs t2 la2 ∧ Rf wr g (p + 2) xs t2 lb2 ∧ (t2 = true → la2 = lb2) ∧ (∀ s ∈ xs, okS s) ∧ Below w.heap.size w wr) := ⟨HU.out.1.below HJ.out.2 HU.out.1.lt, HU.out.2.1.below HJ.out.2 (Nat.le_refl _), HU.out.2.2.1, HU.out.2.2.2.1, HU.out.2.2.2.2.trans (HJ.out.2.mono HU.out.2.2.2.2.size)⟩
              clear HJ
              go_wp2_with fail
              go_roundw
              case rel => exact ⟨k + 1, xs, t2, la2, lb2, by go_num, by omega, HE⟩
              case measure => simp [intOf]; omega
        · have k1' : (kd == 1) = false := by simpa using k1
          by_cases k2 : kd = 2
          · subst k2
            have HCl : Hid _ := fclear_any H3.out.2.1
            clear k0 k1
            go_wp2_with (first | (refine step_ldat 41 _ rfl rfl ad (by rfl) [.int .i64 2, .int .i64 so, .int .i64 sd, .int .i64 sp, .int .u64 sa, .int .u64 now] _ Try.underlying41 rfl (by kernel_rfl) HC.out ?_) | (refine step_stR (by rfl) _ _ rfl ob #[.int .i64 2, .int .i64 so, .int .i64 sd, .int .i64 sp, .int .u64 sa, .int .u64 now] (by rfl) (by rfl) #[.int .i64 0, .int .i64 0, .int .i64 0, .int .i64 0, .int .u64 0, .int .u64 0] (by kernel_rfl) (by rfl) (by kernel_rfl) HT.out ?_; rw [← HW3.out]))
            refine Calls.mono HCl.out ?_
            rintro e w4 ⟨rfl, hl4, hg4⟩
            have HR4 : Hid _ := rclear_any (H3.out.2.2.1.grown hg4 (by omega) (by have := HP.out.2; omega))
            have H4 : Hid (Fl w4 p [] false 0 ∧ Below w.heap.size w w4) := ⟨hl4, below_grown H3.out.2.2.2.1 hg4 (Nat.le_of_eq HP.out.1.symm)⟩
            clear hl4 hg4 HCl
            go_wp2_with fail
            refine Calls.mono HR4.out ?_
            rintro e w5 ⟨rfl, hr5, hg5⟩
            obtain ⟨ys, hys⟩ : ∃ ys : List Smp, ys = [] := ⟨_, rfl⟩
            have HU : Hid (Fl w5 p ys false 0 ∧ Rf w5 g (p + 2) ys false lb ∧ (false = true → (0 : Int) = lb) ∧ (∀ s ∈ ys, okS s) ∧ Below w.heap.size w w5) := by
              rw [hys]
              exact ⟨H4.out.1.grown hg5 (fun e => by have := HP.out.2; injection e with e; omega), hr5, fun h => (by cases h), fun s hs => (by cases hs), below_grown H4.out.2 hg5 (by have := HP.out; omega)⟩
            clear hr5 hg5 HR4 H4 H3 HC HC3 HT HW3 o0 o5 hys
            go_wp2_with fail
            refine (fsamples_any HU.out.1).mono ?_
            rintro e w3 ⟨lv, rfl, ho3, hb3⟩
            obtain ⟨lo, ln, lc, rfl⟩ : ∃ ao n cap, lv = .slice ao n cap := by obtain ⟨ao, cap, e, _⟩ := ho3.sv.ex; exact ⟨ao, _, cap, e⟩
            have hlen := ho3.sv.len
            obtain ⟨m, hm⟩ : ∃ m, m = ys.length := ⟨_, rfl⟩
            rw [← hm] at hlen
            have hm8 : (m : Int) ≤ 8 := by have := HU.out.1.len; omega
            obtain ⟨r1, r2, r3, dv, r4, r5⟩ := HU.out.2.1.below hb3 (Nat.le_refl _)
            have cd : w3.cell? ⟨g, 0, none⟩ = some dv := r4.cell 0
            have HSa : Hid (Calls Try.prog 16 #[.slice lo ln lc, dv] w3 fun e w' => e = .returned (.bool true) ∧ ∃ n, w' = w3.drewN n) := same_any _ _ _ _ ys w3 ho3.sv r5 (by have := HU.out.1.len; omega)
            have HM : Hid (m = ys.length) := hm
            have H3 : Hid (O4 w3 w5.heap.size (.slice lo ln lc) ys ∧ Below w5.heap.size w5 w3) := ⟨ho3, hb3⟩
            clear ho3 hb3 hm r1 r2 r3 r4 r5
            go_wp2_with fail
            refine HSa.out.mono ?_
            rintro e w6 ⟨rfl, nq, hw6⟩
            have H6 : Hid (O4 w6 w5.heap.size (.slice lo ln lc) ys ∧ Below w5.heap.size w5 w6) := by
              rw [hw6]; exact ⟨OR.drewN H3.out.1 nq, below_dr H3.out.2 nq⟩
            clear hw6 HSa H3 cd
            go_wp2_with fail
            go_loopw [8] (fun i wi => ∃ (j : Nat), i = .int .i64 j ∧ (j : Int) ≤ m ∧ Hid ((∃ zs : List Smp, zs.length = m ∧ O4 wi w5.heap.size (.slice lo ln lc) zs) ∧ Below w5.heap.size w5 wi)) (fun i _ => m - (intOf i).toNat)
            case atStart => exact ⟨0, rfl, by omega, ⟨⟨_, HM.out.symm, H6.out.1⟩, H6.out.2⟩⟩
            case round =>
              clear H6
              obtain ⟨j, rfl, hj, HJ⟩ := hrel
              by_cases hjm : (j : Int) < m
              · obtain ⟨zs, hz1, hz2⟩ := HJ.out.1
                obtain ⟨lg, cp, hform, hcap, hlg, hlt6⟩ := OR.form hz2 (by rw [List.length_map]; omega)
                injection hform with f1 f2 f3
                subst f1 f3
                have hix6 := ix_sl lg ln lc j (by rw [f2, List.length_map, hz1]; exact hjm)
                have hz3 : OR wr w5.heap.size 27 4 (.slice (some ⟨lg, 0, none⟩) (zs.map smL).length lc) (zs.map smL) := by rw [← f2]; exact hz2
                have HO6 : Hid _ := hz3
                have HZ : Hid (zs.length = m ∧ j < (zs.map smL).length ∧ w5.heap.size ≤ lg ∧ ln = (zs.map smL).length) := ⟨hz1, by rw [List.length_map, hz1]; omega, hlg, f2⟩
                clear hz1 hz2 hz3 hcap hlg hlt6 f2
                go_wp2_with (refine wpList_stk rfl 27 _ _ rfl j (smL ⟨77, 0, 0, 0⟩) HO6.out (by kernel_rfl) (by rfl) (by rfl) HZ.out.2.1 rfl (smL_one _) ?_; intro w7 ho7 hg7 hz7)
                have H7 : Hid ((∃ zs : List Smp, zs.length = m ∧ O4 w7 w5.heap.size (.slice (some ⟨lg, 0, none⟩) ln lc) zs) ∧ Below w5.heap.size w5 w7) := by
                  refine ⟨⟨zs.set j ⟨77, 0, 0, 0⟩, by rw [List.length_set]; exact HZ.out.1, ?_⟩, below_grown HJ.out.2 hg7 HZ.out.2.2.1⟩
                  unfold O4
                  rw [List.map_set, HZ.out.2.2.2]
                  exact ho7
                clear ho7 hg7 hz7 HO6
                go_wp2_with fail
                go_roundw
                case rel => exact ⟨j + 1, by go_num, by omega, H7⟩
                case measure => simp [intOf]; omega
              · have hjm' : j = m := by omega
                subst hjm'
                have HE : Hid (Fl wr p ys false 0 ∧ Rf wr g (p + 2) ys false lb ∧ (false = true → 0 = lb) ∧ (∀ s ∈ ys, okS s) ∧ Below w.heap.size w wr) := ⟨HU.out.1.below HJ.out.2 HU.out.1.lt, HU.out.2.1.below HJ.out.2 (Nat.le_refl _), HU.out.2.2.1, HU.out.2.2.2.1, HU.out.2.2.2.2.trans (HJ.out.2.mono HU.out.2.2.2.2.size)⟩
                clear HJ
                go_wp2_with fail
                go_roundw
                case rel => exact ⟨k + 1, ys, false, 0, lb, by go_num, by omega, HE⟩
                case measure => simp [intOf]; omega
          · have k2' : (kd == 2) = false := by simpa using k2
            have HU : Hid (Fl W3 p xs t la ∧ Rf W3 g (p + 2) xs t lb ∧ (t = true → la = lb) ∧ (∀ s ∈ xs, okS s) ∧ Below w.heap.size w W3) := ⟨H3.out.2.1, H3.out.2.2.1, HK.out.2.2.1, HK.out.2.2.2.1, H3.out.2.2.2.1⟩
            clear k0 k1 k2
            go_wp2_with (first | (refine step_ldat 41 _ rfl rfl ad (by rfl) [.int .i64 kd, .int .i64 so, .int .i64 sd, .int .i64 sp, .int .u64 sa, .int .u64 now] _ Try.underlying41 rfl (by kernel_rfl) HC.out ?_) | (refine step_stR (by rfl) _ _ rfl ob #[.int .i64 kd, .int .i64 so, .int .i64 sd, .int .i64 sp, .int .u64 sa, .int .u64 now] (by rfl) (by rfl) #[.int .i64 0, .int .i64 0, .int .i64 0, .int .i64 0, .int .u64 0, .int .u64 0] (by kernel_rfl) (by rfl) (by kernel_rfl) HT.out ?_; rw [← HW3.out]))
            clear H3 HC HC3 HT HW3 o0 o5
            refine (fsamples_any HU.out.1).mono ?_
            rintro e w3 ⟨lv, rfl, ho3, hb3⟩
            obtain ⟨lo, ln, lc, rfl⟩ : ∃ ao n cap, lv = .slice ao n cap := by obtain ⟨ao, cap, e, _⟩ := ho3.sv.ex; exact ⟨ao, _, cap, e⟩
            have hlen := ho3.sv.len
            obtain ⟨m, hm⟩ : ∃ m, m = xs.length := ⟨_, rfl⟩
            rw [← hm] at hlen
            have hm8 : (m : Int) ≤ 8 := by have := HU.out.1.len; omega
            obtain ⟨r1, r2, r3, dv, r4, r5⟩ := HU.out.2.1.below hb3 (Nat.le_refl _)
            have cd : w3.cell? ⟨g, 0, none⟩ = some dv := r4.cell 0
            have HSa : Hid (Calls Try.prog 16 #[.slice lo ln lc, dv] w3 fun e w' => e = .returned (.bool true) ∧ ∃ n, w' = w3.drewN n) := same_any _ _ _ _ xs w3 ho3.sv r5 (by have := HU.out.1.len; omega)
            have HM : Hid (m = xs.length) := hm
            have H3 : Hid (O4 w3 W3.heap.size (.slice lo ln lc) xs ∧ Below W3.heap.size W3 w3) := ⟨ho3, hb3⟩
            clear ho3 hb3 hm r1 r2 r3 r4 r5
            go_wp2_with fail
            refine HSa.out.mono ?_
            rintro e w6 ⟨rfl, nq, hw6⟩
            have H6 : Hid (O4 w6 W3.heap.size (.slice lo ln lc) xs ∧ Below W3.heap.size W3 w6) := by
              rw [hw6]; exact ⟨OR.drewN H3.out.1 nq, below_dr H3.out.2 nq⟩
            clear hw6 HSa H3 cd
            go_wp2_with fail
            go_loopw [8] (fun i wi => ∃ (j : Nat), i = .int .i64 j ∧ (j : Int) ≤ m ∧ Hid ((∃ zs : List Smp, zs.length = m ∧ O4 wi W3.heap.size (.slice lo ln lc) zs) ∧ Below W3.heap.size W3 wi)) (fun i _ => m - (intOf i).toNat)
            case atStart => exact ⟨0, rfl, by omega, ⟨⟨_, HM.out.symm, H6.out.1⟩, H6.out.2⟩⟩
            case round =>
              clear H6
              obtain ⟨j, rfl, hj, HJ⟩ := hrel
              by_cases hjm : (j : Int) < m
              · obtain ⟨zs, hz1, hz2⟩ := HJ.out.1
                obtain ⟨lg, cp, hform, hcap, hlg, hlt6⟩ := OR.form hz2 (by rw [List.length_map]; omega)
                injection hform with f1 f2 f3
                subst f1 f3
                have hix6 := ix_sl lg ln lc j (by rw [f2, List.length_map, hz1]; exact hjm)
                have hz3 : OR wr W3.heap.size 27 4 (.slice (some ⟨lg, 0, none⟩) (zs.map smL).length lc) (zs.map smL) := by rw [← f2]; exact hz2
                have HO6 : Hid _ := hz3
                have HZ : Hid (zs.length = m ∧ j < (zs.map smL).length ∧ W3.heap.size ≤ lg ∧ ln = (zs.map smL).length) := ⟨hz1, by rw [List.length_map, hz1]; omega, hlg, f2⟩
                clear hz1 hz2 hz3 hcap hlg hlt6 f2
                go_wp2_with (refine wpList_stk rfl 27 _ _ rfl j (smL ⟨77, 0, 0, 0⟩) HO6.out (by kernel_rfl) (by rfl) (by rfl) HZ.out.2.1 rfl (smL_one _) ?_; intro w7 ho7 hg7 hz7)
                have H7 : Hid ((∃ zs : List Smp, zs.length = m ∧ O4 w7 W3.heap.size (.slice (some ⟨lg, 0, none⟩) ln lc) zs) ∧ Below W3.heap.size W3 w7) := by
                  refine ⟨⟨zs.set j ⟨77, 0, 0, 0⟩, by rw [List.length_set]; exact HZ.out.1, ?_⟩, below_grown HJ.out.2 hg7 HZ.out.2.2.1⟩
                  unfold O4
                  rw [List.map_set, HZ.out.2.2.2]
                  exact ho7
                clear ho7 hg7 hz7 HO6
                go_wp2_with fail
                go_roundw
                case rel => exact ⟨j + 1, by go_num, by omega, H7⟩
                case measure => simp [intOf]; omega
              · have hjm' : j = m := by omega
                subst hjm'
                have HE : Hid (Fl wr p xs t la ∧ Rf wr g (p + 2) xs t lb ∧ (t = true → la = lb) ∧ (∀ s ∈ xs, okS s) ∧ Below w.heap.size w wr) := ⟨HU.out.1.below HJ.out.2 HU.out.1.lt, HU.out.2.1.below HJ.out.2 (Nat.le_refl _), HU.out.2.2.1, HU.out.2.2.2.1, HU.out.2.2.2.2.trans (HJ.out.2.mono HU.out.2.2.2.2.size)⟩
                clear HJ
                go_wp2_with fail
                go_roundw
                case rel => exact ⟨k + 1, xs, t, la, lb, by go_num, by omega, HE⟩
                case measure => simp [intOf]; omega
    · have hkn : k = n := by omega
      subst hkn
      go_wp2_with fail
      rw [hQ.out]
      go_ret
      exact ⟨rfl, HK.out.2.2.2.2⟩
end Go.Proofs.Ytgkjgkdlcmmpoaa
/- FilterLeast, walked. -/
namespace Go.Proofs.Ytgkjgkdlcmmpoaa
open Go Go.RowKit Fi
theorem lst_rev (xs : List Smp) : lst xs = xs.reverse.take 8 := by
  induction xs using snoc_ind with
  | h0 => rfl
  | h1 r s ih =>
    rw [lst_snoc, ih, List.reverse_append]
    unfold adS
    simp [List.take_take]
theorem lst_mem (xs : List Smp) (x : Smp) : x ∈ lst xs ↔ ∃ i, ∃ _ : i < xs.length, xs.length - 8 ≤ i ∧ xs[i] = x := by
  rw [lst_rev]
  constructor
  · intro h
    obtain ⟨j, hj, e⟩ := List.getElem_of_mem h
    rw [List.length_take, List.length_reverse] at hj
    rw [List.getElem_take, List.getElem_reverse] at e
    exact ⟨xs.length - 1 - j, by omega, by omega, e⟩
  · rintro ⟨i, hi, h8, rfl⟩
    have : xs[i] = (xs.reverse.take 8)[xs.length - 1 - i]'(by rw [List.length_take, List.length_reverse]; omega) := by
      rw [List.getElem_take, List.getElem_reverse]
      congr 1
      omega
    rw [this]
    exact List.getElem_mem _
theorem jt_ge (l : List Smp) : 4096 ≤ jt l := by unfold jt; omega
set_option maxRecDepth 20000 in
set_option maxHeartbeats 2000000 in
theorem FilterLeast_row (v : Value) (now : Int) (xs : List Smp) (w : World) (hv : Sr w.heap.size w v xs) (_n0 : 0 ≤ now) (_n1 : now < 18446744073709551616) :
    Calls Try.prog 5 #[v, .int .u64 now] w fun e w' => e = .returned (.bool true) ∧ Below w.heap.size w w' := by
  obtain ⟨ao, cap, rfl, -⟩ := hv.ex
  obtain ⟨n, hn⟩ : ∃ n, n = xs.length := ⟨_, rfl⟩
  rw [← hn] at hv ⊢
  have HV : Hid (Sr w.heap.size w (.slice ao n cap) xs ∧ n = xs.length) := ⟨hv, hn⟩
  clear hv hn
  by_cases h1 : 65536 < (n : Int)
  · go_enter Try.func5, Try.ntmps5
    go_wp2
    go_ret
    exact ⟨rfl, (by repeat' (first | with_reducible exact Below.refl _ _ | with_reducible refine Below.setCell ?_ (by first | (simp; done) | (simp; omega) | omega) _ | with_reducible refine below_drewN ?_ _ | with_reducible refine Below.drew ?_ | with_reducible refine Below.alloc ?_ (by first | (simp; done) | (simp; omega) | omega) _))⟩
  by_cases h2 : (n : Int) = 0
  · go_enter Try.func5, Try.ntmps5
    go_wp2
    go_ret
    exact ⟨rfl, (by repeat' (first | with_reducible exact Below.refl _ _ | with_reducible refine Below.setCell ?_ (by first | (simp; done) | (simp; omega) | omega) _ | with_reducible refine below_drewN ?_ _ | with_reducible refine Below.drew ?_ | with_reducible refine Below.alloc ?_ (by first | (simp; done) | (simp; omega) | omega) _))⟩
  have h2' : ((n : Int) == 0) = false := by simpa using h2
  have h3 : 1 ≤ (n : Int) := by omega
  go_enter Try.func5, Try.ntmps5
  refine post_hid fun Q hQ => ?_
  go_wp2_with fail
  refine (new_any w).mono ?_
  rintro e w1 ⟨rfl, hl1, hb1, hz1⟩
  obtain ⟨p, hp⟩ : ∃ p, p = w.heap.size := ⟨_, rfl⟩
  rw [← hp] at hl1 ⊢
  have HP : Hid (p = w.heap.size) := hp
  have H1 : Hid (Fl w1 p [] false 0 ∧ Below w.heap.size w w1) := ⟨hl1, hb1⟩
  clear hl1 hb1 hz1 hp
  go_wp2_with fail
  go_loopw [6] (fun i wr => ∃ (k : Nat), i = .int .i64 k ∧ (k : Int) ≤ n ∧ Hid (Fl wr p (lst (xs.take k)) false 0 ∧ Below w.heap.size w wr)) (fun i _ => n - (intOf i).toNat)
  case atStart => exact ⟨0, rfl, by omega, H1⟩
  case round =>
    clear H1
    obtain ⟨k, rfl, hk, HK⟩ := hrel
    by_cases hlt : (k : Int) < n
    · have hkx : k < xs.length := by have := HV.out.2; omega
      obtain ⟨ad, hix, hab, hac⟩ := (HV.out.1.below HK.out.2 (Nat.le_refl _)).at k hkx
      have HE : Hid (lst (xs.take (k + 1)) = adS (lst (xs.take k)) (xs.getD k z0)) := lst_succ xs k hkx
      obtain ⟨y, hy⟩ : ∃ y, y = xs.getD k z0 := ⟨_, rfl⟩
      rw [← hy] at hac HE
      have HC : Hid (∀ j u, (smL y)[j]? = some u → wr.cell? (ad.add j) = some u) := hac
      have HA : Hid _ := fadd_any p _ _ _ y wr HK.out.1
      clear hac hkx hab hy
      go_wp2_with (first | (refine step_ldat 27 _ rfl rfl ad (by rfl) (smL y) _ Try.underlying27 rfl (by kernel_rfl) HC.out ?_) | (go_at_call 9; refine Calls.mono HA.out ?_; rintro e w3 ⟨rfl, hl3, hg3⟩))
      go_roundw
      case rel => exact ⟨k + 1, by go_num, by omega, ⟨by rw [HE.out]; exact hl3, below_grown HK.out.2 hg3 (Nat.le_of_eq HP.out.symm)⟩⟩
      case measure => simp [intOf]; omega
    · have hkn : k = n := by omega
      subst hkn
      have hF : Fl wr p (lst xs) false 0 := by have := HK.out.1; rw [HV.out.2, List.take_length] at this; exact this
      have hll : 0 < (lst xs).length := by rw [lst_rev, List.length_take, List.length_reverse]; have := HV.out.2; omega
      have q := best_any p (lst xs) false 0 now wr hF hll (lst_ok HV.out.1.ok)
      obtain ⟨hm, hle⟩ := least (lst xs) hll
      obtain ⟨x, hx⟩ : ∃ x, x = fst (srt (lst xs)) := ⟨_, rfl⟩
      rw [← hx] at q hm hle
      obtain ⟨D, hD⟩ : ∃ D, D = ds (srt (lst xs)) now 8 := ⟨_, rfl⟩
      have bD : 0 ≤ D ∧ D ≤ 68719476736 := by rw [hD]; exact ⟨(ds_bd _ _ 8 (by omega)).1, ds_le _ _⟩
      obtain ⟨J, hJ⟩ : ∃ J, J = jt (srt (lst xs)) := ⟨_, rfl⟩
      have bJ : 4096 ≤ J := by rw [hJ]; exact jt_ge _
      rw [← hD, ← hJ] at q
      have e1 : nwB false 0 x.a = true := rfl
      rw [e1] at q
      have HBe : Hid (Calls Try.prog 10 #[.pointer (some ⟨p, 0, none⟩), .int .u64 now] wr fun e w' => e = .returned (.agg (bsL x.o x.d D J x.a true).toArray) ∧ wr.grownBy w' (some p)) := q.mono fun e w' h => ⟨h.1, h.2.2⟩
      obtain ⟨i0, hi0, hi8, hxi⟩ := (lst_mem xs x).1 hm
      have HX : Hid (i0 < k ∧ k - 8 ≤ i0 ∧ xs.getD i0 z0 = x ∧ ∀ i, i < k → k - 8 ≤ i → x.d ≤ (xs.getD i z0).d) := by
        have e := HV.out.2
        refine ⟨by omega, by omega, by rw [getD_lt xs i0 hi0]; exact hxi, fun i h1 h2 => ?_⟩
        rw [getD_lt xs i (by omega)]
        exact hle _ ((lst_mem xs _).2 ⟨i, by omega, by omega, rfl⟩)
      have H2 : Hid (Below w.heap.size w wr) := HK.out.2
      clear q hm hle hx hD hJ e1 hi0 hi8 hxi hll hF HK
      go_wp2_with fail
      refine Calls.mono HBe.out ?_
      rintro e w3 ⟨rfl, hg3⟩
      obtain ⟨bb, hbb⟩ : ∃ bb, w3.heap.size = bb := ⟨_, rfl⟩
      have HT : Hid ((w3.alloc (.cells #[.int .i64 0, .int .i64 0, .int .i64 0, .int .i64 0, .int .u64 0, .bool false] 33)).heap[bb]? = some (.cells #[.int .i64 0, .int .i64 0, .int .i64 0, .int .i64 0, .int .u64 0, .bool false] 33 (0, 0))) := by
        have h0 := alloc_at w3 (.cells #[.int .i64 0, .int .i64 0, .int .i64 0, .int .i64 0, .int .u64 0, .bool false] 33)
        rw [hbb] at h0
        exact h0
      have H3 : Hid (Below w.heap.size w w3 ∧ w.heap.size ≤ bb) := ⟨below_grown H2.out hg3 (Nat.le_of_eq HP.out.symm), by rw [← hbb]; exact Nat.le_trans H2.out.size hg3.size⟩
      clear hg3 HBe
      obtain ⟨s0, hs0⟩ : ∃ s0, s0 = k - 8 := ⟨_, rfl⟩
      have m3 : ∀ u, (Builtin.max_ #[3, 3] 3 #[.int .i64 0, .int .i64 ((k : Int) - 8)]).run Try.prog u = .ok (.int .i64 (s0 : Int)) u := fun u => by
        have : (Builtin.max_ #[3, 3] 3 #[.int .i64 0, .int .i64 ((k : Int) - 8)]).run Try.prog u = .ok (.int .i64 (if (0 : Int) < (k : Int) - 8 then (k : Int) - 8 else 0)) u := by simp [go_sem]
        rw [this, hs0]; congr 2; split <;> omega
      have Hs0 : Hid (s0 = k - 8) := hs0
      clear hs0
      go_wp2_with (refine step_stR (by rfl) _ _ rfl bb (bsL x.o x.d D J x.a true).toArray (by rfl) (by rfl) #[.int .i64 0, .int .i64 0, .int .i64 0, .int .i64 0, .int .u64 0, .bool false] (by kernel_rfl) (by rfl) (by kernel_rfl) HT.out ?_)
      go_loopw [8, 9] (fun f i wi => ∃ (j : Nat) (fv : Bool), f = .bool fv ∧ i = .int .i64 j ∧ (s0 : Int) ≤ j ∧ (j : Int) ≤ k ∧ Hid ((i0 < j → fv = true) ∧ Bk bb wi (bsL x.o x.d D J x.a true).toArray 33 ∧ Below w.heap.size w wi)) (fun _ i _ => k - (intOf i).toNat)
      case atStart => exact ⟨s0, false, rfl, rfl, by omega, by have := Hs0.out; omega, ⟨fun h => by have := HX.out.2.1; have := Hs0.out; omega, setRow_heap _ _ _ _ _ _ HT.out, below_row (H3.out.1.alloc H3.out.1.size _) H3.out.2 _⟩⟩
      case round =>
        clear HT m3
        obtain ⟨j, fv, rfl, rfl, hj0, hj, HJ⟩ := hrel
        have b0 : wr.cell? ⟨bb, 0, none⟩ = some (.int .i64 x.o) := HJ.out.2.1.cell 0
        have b1 : wr.cell? ⟨bb, 1, none⟩ = some (.int .i64 x.d) := HJ.out.2.1.cell 1
        have b2 : wr.cell? ⟨bb, 2, none⟩ = some (.int .i64 D) := HJ.out.2.1.cell 2
        have b3 : wr.cell? ⟨bb, 3, none⟩ = some (.int .i64 J) := HJ.out.2.1.cell 3
        have b4 : wr.cell? ⟨bb, 4, none⟩ = some (.int .u64 x.a) := HJ.out.2.1.cell 4
        have b5 : wr.cell? ⟨bb, 5, none⟩ = some (.bool true) := HJ.out.2.1.cell 5
        by_cases hlt : (j : Int) < k
        · have hjx : j < xs.length := by have := HV.out.2; omega
          obtain ⟨ad, hix, hab, hac⟩ := (HV.out.1.below HJ.out.2.2 (Nat.le_refl _)).at j hjx
          have hY := HX.out.2.2.2 j (by omega) (by have := Hs0.out; omega)
          have hY2 : i0 = j → xs.getD j z0 = x := fun e => by rw [← e]; exact HX.out.2.2.1
          obtain ⟨y, hy⟩ : ∃ y, y = xs.getD j z0 := ⟨_, rfl⟩
          rw [← hy] at hac hY hY2
          have c0 : wr.cell? ad = some (.int .i64 y.o) := by have := hac 0 _ rfl; rw [show ad.add 0 = ad from by unfold Addr.add; rw [if_pos rfl]] at this; exact this
          have c1 : wr.cell? ⟨ad.block, ad.off + 1, none⟩ = some (.int .i64 y.d) := hac 1 _ rfl
          have c3 : wr.cell? ⟨ad.block, ad.off + 3, none⟩ = some (.int .u64 y.a) := hac 3 _ rfl
          have hnl : ¬ (y.d < x.d) := by omega
          have HY2 : Hid (i0 = j → y = x) := hY2
          clear hac hab hy hjx hY hY2
          have HN : Hid (¬ (y.d = x.d ∧ y.o = x.o ∧ y.a = x.a) → i0 < j + 1 → fv = true) := fun h1 h2 => by
            rcases Nat.lt_or_ge i0 j with h3 | h3
            · exact HJ.out.1 h3
            · have e := HY2.out (by omega)
              exact absurd ⟨by rw [e], by rw [e], by rw [e]⟩ h1
          rcases fv with _ | _
          · by_cases e1 : y.d = x.d
            · by_cases e2 : y.o = x.o
              · by_cases e3 : y.a = x.a
                · rw [e1] at c1
                  rw [e2] at c0
                  rw [e3] at c3
                  clear e1 e2 e3 hnl
                  go_wp2_with fail
                  go_quiet (fail)
                  go_wp2_with fail
                  go_quiet (fail)
                  go_wp2_with fail
                  go_roundw
                  case rel => exact ⟨j + 1, true, rfl, by go_num, by omega, by omega, ⟨fun _ => rfl, HJ.out.2.1, below_dr HJ.out.2.2 _⟩⟩
                  case measure => simp [intOf]; omega
                · have e3' : (y.a == x.a) = false := by simpa using e3
                  have HN2 : Hid (i0 < j + 1 → false = true) := HN.out (fun h => e3 h.2.2)
                  rw [e1] at c1
                  rw [e2] at c0
                  clear e1 e2 e3 hnl HN
                  go_wp2_with fail
                  go_quiet (fail)
                  go_wp2_with fail
                  go_quiet (fail)
                  go_wp2_with fail
                  go_roundw
                  case rel => exact ⟨j + 1, false, rfl, by go_num, by omega, by omega, ⟨HN2.out, HJ.out.2.1, below_dr HJ.out.2.2 _⟩⟩
                  case measure => simp [intOf]; omega
              · have e2' : (y.o == x.o) = false := by simpa using e2
                have HN2 : Hid (i0 < j + 1 → false = true) := HN.out (fun h => e2 h.2.1)
                rw [e1] at c1
                clear e1 e2 hnl HN
                go_wp2_with fail
                go_quiet (fail)
                go_wp2_with fail
                go_quiet (fail)
                go_wp2_with fail
                go_roundw
                case rel => exact ⟨j + 1, false, rfl, by go_num, by omega, by omega, ⟨HN2.out, HJ.out.2.1, below_dr HJ.out.2.2 _⟩⟩
                case measure => simp [intOf]; omega
            · have e1' : (y.d == x.d) = false := by simpa using e1
              have HN2 : Hid (i0 < j + 1 → false = true) := HN.out (fun h => e1 h.1)
              clear e1 HN
              go_wp2_with fail
              go_quiet (fail)
              go_wp2_with fail
              go_quiet (fail)
              go_wp2_with fail
              go_roundw
              case rel => exact ⟨j + 1, false, rfl, by go_num, by omega, by omega, ⟨HN2.out, HJ.out.2.1, below_dr HJ.out.2.2 _⟩⟩
              case measure => simp [intOf]; omega
          · clear HN
            go_wp2_with fail
            go_quiet (fail)
            go_wp2_with fail
            go_quiet (fail)
            go_wp2_with fail
            go_roundw
            case rel => exact ⟨j + 1, true, rfl, by go_num, by omega, by omega, ⟨fun _ => rfl, HJ.out.2.1, below_dr HJ.out.2.2 _⟩⟩
            case measure => simp [intOf]; omega
        · have hjk : j = k := by omega
          subst hjk
          have hfv : fv = true := HJ.out.1 HX.out.1
          subst hfv
          go_wp2_with fail
          rw [hQ.out]
          go_ret
          exact ⟨rfl, HJ.out.2.2⟩
end Go.Proofs.Ytgkjgkdlcmmpoaa
/- A region of readers alone, the quiet walk shut. -/
namespace Go.Proofs.Ytgkjgkdlcmmpoaa
open Go Go.RowKit Go.Sort
theorem wp_region_quietW {P : Program} {id : Nat} {Q : Exit → Act → World → Prop} {a : Act} {w : World} {l : List Oper} (hm : P.follows .mixedOrders = true) (hB : Region.lexB .any l.toArray = true)
    (h : QW P l.toArray (fun w' => ∃ n, w' = w.drewN n) (fun a' => ∀ w', (∃ n, w' = w.drewN n) → Q .normal a' w') l a) : (Code.region id l.toArray true).wp P Q a w :=
  wp_region_quiet_lit hm hB h.out
end Go.Proofs.Ytgkjgkdlcmmpoaa
/- FilterForgets, walked. -/
namespace Go.Proofs.Ytgkjgkdlcmmpoaa
open Go Go.RowKit Fi
/-- eight or more make one forget what came ahead -/
theorem lst_late (ps bs : List Smp) (h : 8 ≤ bs.length) : lst (ps ++ bs) = lst bs := by
  rw [lst_rev, lst_rev, List.reverse_append, List.take_append_of_le_length (by rw [List.length_reverse]; exact h)]
set_option maxRecDepth 20000 in
set_option maxHeartbeats 2000000 in
theorem FilterForgets_row (u v : Value) (now : Int) (us xs : List Smp) (w : World) (hu : Sr w.heap.size w u us) (hv : Sr w.heap.size w v xs) (_n0 : 0 ≤ now) (_n1 : now < 18446744073709551616) :
    Calls Try.prog 7 #[u, v, .int .u64 now] w fun e w' => e = .returned (.bool true) ∧ Below w.heap.size w w' := by
  obtain ⟨uo, uc, rfl, -⟩ := hu.ex
  obtain ⟨ao, cap, rfl, -⟩ := hv.ex
  obtain ⟨m, hm⟩ : ∃ m, m = us.length := ⟨_, rfl⟩
  obtain ⟨n, hn⟩ : ∃ n, n = xs.length := ⟨_, rfl⟩
  rw [← hm] at hu ⊢
  rw [← hn] at hv ⊢
  have HU : Hid (Sr w.heap.size w (.slice uo m uc) us ∧ m = us.length) := ⟨hu, hm⟩
  have HV : Hid (Sr w.heap.size w (.slice ao n cap) xs ∧ n = xs.length) := ⟨hv, hn⟩
  clear hu hv hm hn
  by_cases h1 : 4096 < (m : Int)
  · go_enter Try.func7, Try.ntmps7
    go_wp2
    go_ret
    exact ⟨rfl, (by repeat' (first | with_reducible exact Below.refl _ _ | with_reducible refine Below.setCell ?_ (by first | (simp; done) | (simp; omega) | omega) _ | with_reducible refine below_drewN ?_ _ | with_reducible refine Below.drew ?_ | with_reducible refine Below.alloc ?_ (by first | (simp; done) | (simp; omega) | omega) _))⟩
  by_cases h2 : 4096 < (n : Int)
  · go_enter Try.func7, Try.ntmps7
    go_wp2
    go_ret
    exact ⟨rfl, (by repeat' (first | with_reducible exact Below.refl _ _ | with_reducible refine Below.setCell ?_ (by first | (simp; done) | (simp; omega) | omega) _ | with_reducible refine below_drewN ?_ _ | with_reducible refine Below.drew ?_ | with_reducible refine Below.alloc ?_ (by first | (simp; done) | (simp; omega) | omega) _))⟩
  go_enter Try.func7, Try.ntmps7
  refine post_hid fun Q hQ => ?_
  go_wp2_with fail
  refine (new_any w).mono ?_
  rintro e w1 ⟨rfl, hl1, hb1, hz1⟩
  obtain ⟨a, ha⟩ : ∃ a, a = w.heap.size := ⟨_, rfl⟩
  rw [← ha] at hl1 ⊢
  have HA : Hid (a = w.heap.size ∧ w1.heap.size = a + 1) := ⟨ha, by omega⟩
  have H1 : Hid (Fl w1 a [] false 0 ∧ Below w.heap.size w w1) := ⟨hl1, hb1⟩
  clear hl1 hb1 hz1 ha
  go_wp2_with fail
  refine (new_any w1).mono ?_
  rintro e w2 ⟨rfl, hl2, hb2, hz2⟩
  obtain ⟨b, hb⟩ : ∃ b, b = w1.heap.size := ⟨_, rfl⟩
  rw [← hb] at hl2 ⊢
  have HB : Hid (b = a + 1 ∧ w2.heap.size = b + 1) := ⟨by have := HA.out.2; omega, by omega⟩
  have H2 : Hid (Fl w2 a [] false 0 ∧ Fl w2 b [] false 0 ∧ Below w.heap.size w w2) := ⟨H1.out.1.below hb2 H1.out.1.lt, hl2, H1.out.2.trans (hb2.mono H1.out.2.size)⟩
  clear hl2 hb2 hz2 hb H1
  go_wp2_with fail
  refine (new_any w2).mono ?_
  rintro e w3 ⟨rfl, hl3, hb3, hz3⟩
  obtain ⟨c, hc⟩ : ∃ c, c = w2.heap.size := ⟨_, rfl⟩
  rw [← hc] at hl3 ⊢
  have HC' : Hid (c = b + 1) := by show c = b + 1; have := HB.out.2; omega
  have HP : Hid (a = w.heap.size ∧ b = a + 1 ∧ c = a + 2) := ⟨HA.out.1, HB.out.1, by have := HB.out.1; have := HC'.out; omega⟩
  have H3 : Hid (Fl w3 a [] false 0 ∧ Fl w3 b [] false 0 ∧ Fl w3 c [] false 0 ∧ Below w.heap.size w w3) := ⟨H2.out.1.below hb3 H2.out.1.lt, H2.out.2.1.below hb3 H2.out.2.1.lt, hl3, H2.out.2.2.trans (hb3.mono H2.out.2.2.size)⟩
  clear hl3 hb3 hz3 hc H2 HA HB HC'
  go_wp2_with fail
  go_loopw [10] (fun i wr => ∃ (k : Nat), i = .int .i64 k ∧ (k : Int) ≤ m ∧ Hid (Fl wr a (lst (us.take k)) false 0 ∧ Fl wr b [] false 0 ∧ Fl wr c (lst (us.take k)) false 0 ∧ Below w.heap.size w wr)) (fun i _ => m - (intOf i).toNat)
  case atStart => exact ⟨0, rfl, by omega, H3⟩
  case round =>
    clear H3
    obtain ⟨k, rfl, hk, HK⟩ := hrel
    by_cases hlt : (k : Int) < m
    · have hkx : k < us.length := by have := HU.out.2; omega
      obtain ⟨ad, hix, hab, hac⟩ := (HU.out.1.below HK.out.2.2.2 (Nat.le_refl _)).at k hkx
      have HE : Hid (lst (us.take (k + 1)) = adS (lst (us.take k)) (us.getD k z0)) := lst_succ us k hkx
      obtain ⟨y, hy⟩ : ∃ y, y = us.getD k z0 := ⟨_, rfl⟩
      rw [← hy] at hac HE
      have HC : Hid (∀ j u, (smL y)[j]? = some u → wr.cell? (ad.add j) = some u) := hac
      have HAa : Hid _ := fadd_any a _ _ _ y wr HK.out.1
      have HAB : Hid (ad.block < w.heap.size) := hab
      clear hac hkx hab hy
      go_wp2_with (refine step_ldat 27 _ rfl rfl ad (by rfl) (smL y) _ Try.underlying27 rfl (by kernel_rfl) HC.out ?_)
      refine Calls.mono HAa.out ?_
      rintro e w4 ⟨rfl, hl4, hg4⟩
      have hb4 := below_grown HK.out.2.2.2 hg4 (Nat.le_of_eq HP.out.1.symm)
      have HC4 : Hid (∀ j u, (smL y)[j]? = some u → w4.cell? (ad.add j) = some u) := fun j u hu => (cell_same (by rw [add_block]; exact hg4.block _ (Nat.lt_of_lt_of_le HAB.out HK.out.2.2.2.size) (fun e => by have := HP.out.1; have := HAB.out; injection e with e; omega))).trans (HC.out j u hu)
      have HAc : Hid _ := fadd_any c _ _ _ y w4 (HK.out.2.2.1.grown hg4 (fun e => by have := HP.out; injection e with e; omega))
      have H4 : Hid (Fl w4 a (adS (lst (us.take k)) y) false 0 ∧ Fl w4 b [] false 0 ∧ Below w.heap.size w w4) := ⟨hl4, HK.out.2.1.grown hg4 (fun e => by have := HP.out; injection e with e; omega), hb4⟩
      clear hl4 hg4 hb4 HAa
      go_wp2_with (refine step_ldat 27 _ rfl rfl ad (by rfl) (smL y) _ Try.underlying27 rfl (by kernel_rfl) HC4.out ?_)
      refine Calls.mono HAc.out ?_
      rintro e w5 ⟨rfl, hl5, hg5⟩
      have H5 : Hid (Fl w5 a (lst (us.take (k + 1))) false 0 ∧ Fl w5 b [] false 0 ∧ Fl w5 c (lst (us.take (k + 1))) false 0 ∧ Below w.heap.size w w5) := by
        rw [HE.out]
        exact ⟨H4.out.1.grown hg5 (fun e => by have := HP.out; injection e with e; omega), H4.out.2.1.grown hg5 (fun e => by have := HP.out; injection e with e; omega), hl5, below_grown H4.out.2.2 hg5 (by have := HP.out; omega)⟩
      clear hl5 hg5 HAc H4
      go_wp2_with fail
      go_roundw
      case rel => exact ⟨k + 1, by go_num, by omega, H5⟩
      case measure => simp [intOf]; omega
    · have hkn : k = m := by omega
      subst hkn
      have ht : us.take k = us := by rw [HU.out.2, List.take_length]
      rw [ht] at HK
      obtain ⟨bo, bd, bq, bj, ba, bn, t2, la2, hF, -⟩ := two_best (lst us) false 0 now (lst_ok HU.out.1.ok)
      have HBe : Hid _ := hF wr c HK.out.2.2.1
      clear hF ht
      go_wp2_with fail
      refine Calls.mono HBe.out ?_
      rintro e w4 ⟨rfl, hl4, hg4⟩
      have HCl : Hid _ := fclear_any hl4
      have H4 : Hid (Fl w4 a (lst us) false 0 ∧ Fl w4 b [] false 0 ∧ Below w.heap.size w w4) := ⟨HK.out.1.grown hg4 (fun e => by have := HP.out; injection e with e; omega), HK.out.2.1.grown hg4 (fun e => by have := HP.out; injection e with e; omega), below_grown HK.out.2.2.2 hg4 (by have := HP.out; omega)⟩
      clear hl4 hg4 HBe HK
      go_wp2_with fail
      refine Calls.mono HCl.out ?_
      rintro e w5 ⟨rfl, hl5, hg5⟩
      have H5 : Hid (Fl w5 a (lst us) false 0 ∧ Fl w5 b [] false 0 ∧ Fl w5 c [] false 0 ∧ Below w.heap.size w w5) := ⟨H4.out.1.grown hg5 (fun e => by have := HP.out; injection e with e; omega), H4.out.2.1.grown hg5 (fun e => by have := HP.out; injection e with e; omega), hl5, below_grown H4.out.2.2 hg5 (by have := HP.out; omega)⟩
      clear hl5 hg5 HCl H4
      go_wp2_with fail
      go_loopw [11] (fun i wr => ∃ (k : Nat), i = .int .i64 k ∧ (k : Int) ≤ n ∧ Hid (Fl wr a (lst (us ++ xs.take k)) false 0 ∧ Fl wr b (lst (xs.take k)) false 0 ∧ Fl wr c (lst (xs.take k)) false 0 ∧ Below w.heap.size w wr)) (fun i _ => n - (intOf i).toNat)
      case atStart => exact ⟨0, rfl, by omega, ⟨by rw [List.take_zero, List.append_nil]; exact H5.out.1, H5.out.2⟩⟩
      case round =>
        clear H5
        obtain ⟨i2, rfl, hk2, HK⟩ := hrel
        by_cases hlt2 : (i2 : Int) < n
        · have hkx : i2 < xs.length := by have := HV.out.2; omega
          obtain ⟨ad, hix, hab, hac⟩ := (HV.out.1.below HK.out.2.2.2 (Nat.le_refl _)).at i2 hkx
          have HE : Hid (lst (xs.take (i2 + 1)) = adS (lst (xs.take i2)) (xs.getD i2 z0) ∧ lst (us ++ xs.take (i2 + 1)) = adS (lst (us ++ xs.take i2)) (xs.getD i2 z0)) := by
            refine ⟨lst_succ xs i2 hkx, ?_⟩
            rw [List.take_succ_eq_append_getElem hkx, ← List.append_assoc, lst_snoc, getD_lt xs i2 hkx]
          obtain ⟨y, hy⟩ : ∃ y, y = xs.getD i2 z0 := ⟨_, rfl⟩
          rw [← hy] at hac HE
          have HC : Hid (∀ j u, (smL y)[j]? = some u → wr.cell? (ad.add j) = some u) := hac
          have HAa : Hid _ := fadd_any a _ _ _ y wr HK.out.1
          have HAB : Hid (ad.block < w.heap.size) := hab
          clear hac hkx hab hy
          go_wp2_with (refine step_ldat 27 _ rfl rfl ad (by rfl) (smL y) _ Try.underlying27 rfl (by kernel_rfl) HC.out ?_)
          refine Calls.mono HAa.out ?_
          rintro e w4 ⟨rfl, hl4, hg4⟩
          have hb4 := below_grown HK.out.2.2.2 hg4 (Nat.le_of_eq HP.out.1.symm)
          have HC4 : Hid (∀ j u, (smL y)[j]? = some u → w4.cell? (ad.add j) = some u) := fun j u hu => (cell_same (by rw [add_block]; exact hg4.block _ (Nat.lt_of_lt_of_le HAB.out HK.out.2.2.2.size) (fun e => by have := HP.out.1; have := HAB.out; injection e with e; omega))).trans (HC.out j u hu)
          have HAb : Hid _ := fadd_any b _ _ _ y w4 (HK.out.2.1.grown hg4 (fun e => by have := HP.out; injection e with e; omega))
          have H4 : Hid (Fl w4 a (adS (lst (us ++ xs.take i2)) y) false 0 ∧ Fl w4 c (lst (xs.take i2)) false 0 ∧ Below w.heap.size w w4) := ⟨hl4, HK.out.2.2.1.grown hg4 (fun e => by have := HP.out; injection e with e; omega), hb4⟩
          clear hl4 hg4 hb4 HAa HK
          go_wp2_with (refine step_ldat 27 _ rfl rfl ad (by rfl) (smL y) _ Try.underlying27 rfl (by kernel_rfl) HC4.out ?_)
          refine Calls.mono HAb.out ?_
          rintro e w5 ⟨rfl, hl5, hg5⟩
          have hb5 := below_grown H4.out.2.2 hg5 (by have := HP.out; omega)
          have HC5 : Hid (∀ j u, (smL y)[j]? = some u → w5.cell? (ad.add j) = some u) := fun j u hu => (cell_same (by rw [add_block]; exact hg5.block _ (Nat.lt_of_lt_of_le HAB.out H4.out.2.2.size) (fun e => by have := HP.out; have := HAB.out; injection e with e; omega))).trans (HC4.out j u hu)
          have HAc : Hid _ := fadd_any c _ _ _ y w5 (H4.out.2.1.grown hg5 (fun e => by have := HP.out; injection e with e; omega))
          have H5 : Hid (Fl w5 a (adS (lst (us ++ xs.take i2)) y) false 0 ∧ Fl w5 b (adS (lst (xs.take i2)) y) false 0 ∧ Below w.heap.size w w5) := ⟨H4.out.1.grown hg5 (fun e => by have := HP.out; injection e with e; omega), hl5, hb5⟩
          clear hl5 hg5 hb5 HAb H4
          go_wp2_with (refine step_ldat 27 _ rfl rfl ad (by rfl) (smL y) _ Try.underlying27 rfl (by kernel_rfl) HC5.out ?_)
          refine Calls.mono HAc.out ?_
          rintro e w6 ⟨rfl, hl6, hg6⟩
          have H6 : Hid (Fl w6 a (lst (us ++ xs.take (i2 + 1))) false 0 ∧ Fl w6 b (lst (xs.take (i2 + 1))) false 0 ∧ Fl w6 c (lst (xs.take (i2 + 1))) false 0 ∧ Below w.heap.size w w6) := by
            rw [HE.out.1, HE.out.2]
            exact ⟨H5.out.1.grown hg6 (fun e => by have := HP.out; injection e with e; omega), H5.out.2.1.grown hg6 (fun e => by have := HP.out; injection e with e; omega), hl6, below_grown H5.out.2.2 hg6 (by have := HP.out; omega)⟩
          clear hl6 hg6 HAc H5
          go_wp2_with fail
          go_roundw
          case rel => exact ⟨i2 + 1, by go_num, by omega, H6⟩
          case measure => simp [intOf]; omega
        · have hkn : i2 = n := by omega
          subst hkn
          have ht : xs.take i2 = xs := by rw [HV.out.2, List.take_length]
          rw [ht] at HK
          obtain ⟨g, hg⟩ : ∃ g, wr.heap.size = g := ⟨_, rfl⟩
          have HW7 : Hid (Rf (wr.alloc (.cells #[.slice none 0 0, .bool false, .int .u64 0] 39)) g (g + 1) [] false 0 ∧ Fl (wr.alloc (.cells #[.slice none 0 0, .bool false, .int .u64 0] 39)) a (lst (us ++ xs)) false 0 ∧ Fl (wr.alloc (.cells #[.slice none 0 0, .bool false, .int .u64 0] 39)) b (lst xs) false 0 ∧ Fl (wr.alloc (.cells #[.slice none 0 0, .bool false, .int .u64 0] 39)) c (lst xs) false 0 ∧ Below w.heap.size w (wr.alloc (.cells #[.slice none 0 0, .bool false, .int .u64 0] 39))) := by
            have hb : Below wr.heap.size wr (wr.alloc (.cells #[.slice none 0 0, .bool false, .int .u64 0] 39)) := (Below.refl _ _).alloc (Nat.le_refl _) _
            refine ⟨⟨by omega, by simp [hg], by simp, .slice none 0 0, ?_, Sv4.nil _ _⟩, HK.out.1.below hb HK.out.1.lt, HK.out.2.1.below hb HK.out.2.1.lt, HK.out.2.2.1.below hb HK.out.2.2.1.lt, HK.out.2.2.2.alloc HK.out.2.2.2.size _⟩
            rw [← hg]; exact Bk.new _ _ _
          have HGc : Hid (c < g) := by show c < g; rw [← hg]; exact HK.out.2.2.1.lt
          clear HK ht
          go_wp2_with fail
          go_loopw [13] (fun i wr => ∃ (k : Nat), i = .int .i64 k ∧ (k : Int) ≤ i2 ∧ Hid (Rf wr g (g + 1) (lst (xs.take k)) false 0 ∧ Fl wr a (lst (us ++ xs)) false 0 ∧ Fl wr b (lst xs) false 0 ∧ Fl wr c (lst xs) false 0 ∧ Below w.heap.size w wr)) (fun i _ => i2 - (intOf i).toNat)
          case atStart => exact ⟨0, rfl, by omega, HW7⟩
          case round =>
            clear HW7
            obtain ⟨i3, rfl, hk3, HK⟩ := hrel
            by_cases hlt3 : (i3 : Int) < i2
            · have hkx : i3 < xs.length := by have := HV.out.2; omega
              obtain ⟨ad, hix, hab, hac⟩ := (HV.out.1.below HK.out.2.2.2.2 (Nat.le_refl _)).at i3 hkx
              have HE : Hid (lst (xs.take (i3 + 1)) = adS (lst (xs.take i3)) (xs.getD i3 z0)) := lst_succ xs i3 hkx
              obtain ⟨y, hy⟩ : ∃ y, y = xs.getD i3 z0 := ⟨_, rfl⟩
              rw [← hy] at hac HE
              have HC : Hid (∀ j u, (smL y)[j]? = some u → wr.cell? (ad.add j) = some u) := hac
              have HAr : Hid _ := rfadd_any y HK.out.1
              clear hac hkx hab hy
              go_wp2_with (refine step_ldat 27 _ rfl rfl ad (by rfl) (smL y) _ Try.underlying27 rfl (by kernel_rfl) HC.out ?_)
              refine Calls.mono HAr.out ?_
              rintro e w4 ⟨rfl, hr4, hg4⟩
              have H4 : Hid (Rf w4 g (g + 1) (lst (xs.take (i3 + 1))) false 0 ∧ Fl w4 a (lst (us ++ xs)) false 0 ∧ Fl w4 b (lst xs) false 0 ∧ Fl w4 c (lst xs) false 0 ∧ Below w.heap.size w w4) := by
                rw [HE.out]
                have h0 := HP.out; have h1 := HGc.out
                exact ⟨hr4, HK.out.2.1.grown hg4 (fun e => by injection e with e; omega), HK.out.2.2.1.grown hg4 (fun e => by injection e with e; omega), HK.out.2.2.2.1.grown hg4 (fun e => by injection e with e; omega), below_grown HK.out.2.2.2.2 hg4 (by omega)⟩
              clear hr4 hg4 HAr HK
              go_wp2_with fail
              go_roundw
              case rel => exact ⟨i3 + 1, by go_num, by omega, H4⟩
              case measure => simp [intOf]; omega
            · have hkn : i3 = i2 := by omega
              subst hkn
              have ht : xs.take i3 = xs := by rw [HV.out.2, List.take_length]
              rw [ht] at HK
              obtain ⟨bo, bd, bq, bj, ba, bn, t2, la2, hF, hR⟩ := two_best (lst xs) false 0 now (lst_ok HV.out.1.ok)
              unfold bsL at hF hR
              have HF : Hid _ := hF
              have HRr : Hid _ := hR
              clear hF hR ht
              go_wp2_with fail
              refine Calls.mono (HF.out wr b HK.out.2.2.1) ?_
              rintro e w4 ⟨rfl, hl4, hg4⟩
              obtain ⟨xb, hxb⟩ : ∃ xb, w4.heap.size = xb := ⟨_, rfl⟩
              have HT : Hid ((w4.alloc (.cells #[.int .i64 0, .int .i64 0, .int .i64 0, .int .i64 0, .int .u64 0, .bool false] 33)).heap[xb]? = some (.cells #[.int .i64 0, .int .i64 0, .int .i64 0, .int .i64 0, .int .u64 0, .bool false] 33 (0, 0))) := by
                have h0 := alloc_at w4 (.cells #[.int .i64 0, .int .i64 0, .int .i64 0, .int .i64 0, .int .u64 0, .bool false] 33)
                rw [hxb] at h0
                exact h0
              obtain ⟨W8, hW8⟩ : ∃ W8, W8 = (w4.alloc (.cells #[.int .i64 0, .int .i64 0, .int .i64 0, .int .i64 0, .int .u64 0, .bool false] 33)).setRow xb #[.int .i64 bo, .int .i64 bd, .int .i64 bq, .int .i64 bj, .int .u64 ba, .bool bn] := ⟨_, rfl⟩
              have hb8 : Below w4.heap.size w4 W8 := by rw [hW8]; exact below_row ((Below.refl _ _).alloc (Nat.le_refl _) _) (Nat.le_of_eq hxb) _
              have H8 : Hid (Bk xb W8 #[.int .i64 bo, .int .i64 bd, .int .i64 bq, .int .i64 bj, .int .u64 ba, .bool bn] 33 ∧ Rf W8 g (g + 1) (lst xs) false 0 ∧ Fl W8 a (lst (us ++ xs)) false 0 ∧ Fl W8 b (lst xs) t2 la2 ∧ Fl W8 c (lst xs) false 0 ∧ Below w.heap.size w W8 ∧ g < xb ∧ xb < W8.heap.size) := by
                have h0 := HP.out; have h1 := HGc.out
                have hb4 := below_grown HK.out.2.2.2.2 hg4 (by omega)
                have r4 := HK.out.1.grown hg4 (by omega) (by omega)
                have a4 := HK.out.2.1.grown hg4 (fun e => by injection e with e; omega)
                have c4 := HK.out.2.2.2.1.grown hg4 (fun e => by injection e with e; omega)
                have k8 : Bk xb W8 #[.int .i64 bo, .int .i64 bd, .int .i64 bq, .int .i64 bj, .int .u64 ba, .bool bn] 33 := by rw [hW8]; exact setRow_heap _ _ _ _ _ _ HT.out
                refine ⟨k8, r4.below hb8 (Nat.le_refl _), a4.below hb8 a4.lt, hl4.below hb8 hl4.lt, c4.below hb8 c4.lt, hb4.trans (hb8.mono hb4.size), ?_, k8.lt⟩
                have := r4.le; omega
              have HW8 : Hid (W8 = (w4.alloc (.cells #[.int .i64 0, .int .i64 0, .int .i64 0, .int .i64 0, .int .u64 0, .bool false] 33)).setRow xb #[.int .i64 bo, .int .i64 bd, .int .i64 bq, .int .i64 bj, .int .u64 ba, .bool bn]) := hW8
              have q0 : W8.cell? ⟨xb, 0, none⟩ = some (.int .i64 bo) := H8.out.1.cell 0
              have q1 : W8.cell? ⟨xb, 1, none⟩ = some (.int .i64 bd) := H8.out.1.cell 1
              have q2 : W8.cell? ⟨xb, 2, none⟩ = some (.int .i64 bq) := H8.out.1.cell 2
              have q3 : W8.cell? ⟨xb, 3, none⟩ = some (.int .i64 bj) := H8.out.1.cell 3
              have q4 : W8.cell? ⟨xb, 4, none⟩ = some (.int .u64 ba) := H8.out.1.cell 4
              have q5 : W8.cell? ⟨xb, 5, none⟩ = some (.bool bn) := H8.out.1.cell 5
              clear hl4 hg4 hb8 hW8 HK
              go_wp2_with (refine step_stR (by rfl) _ _ rfl xb #[.int .i64 bo, .int .i64 bd, .int .i64 bq, .int .i64 bj, .int .u64 ba, .bool bn] (by rfl) (by rfl) #[.int .i64 0, .int .i64 0, .int .i64 0, .int .i64 0, .int .u64 0, .bool false] (by kernel_rfl) (by rfl) (by kernel_rfl) HT.out ?_; rw [← HW8.out])
              simp only [Act.put]
              go_region_held3 (fun w' => w'.cell? ⟨xb, 0, none⟩ = some (.int .i64 bo) ∧ w'.cell? ⟨xb, 1, none⟩ = some (.int .i64 bd) ∧ w'.cell? ⟨xb, 2, none⟩ = some (.int .i64 bq) ∧ w'.cell? ⟨xb, 3, none⟩ = some (.int .i64 bj) ∧ w'.cell? ⟨xb, 4, none⟩ = some (.int .u64 ba) ∧ w'.cell? ⟨xb, 5, none⟩ = some (.bool bn)) (first | with_reducible exact ⟨zz0, zz1, zz2, zz3, zz4, zz5⟩ | with_reducible exact ⟨y0, y1, y2, y3, y4, y5⟩ | with_reducible exact ⟨x0, x1, x2, x3, x4, x5⟩ | with_reducible exact ⟨tt0, tt1, tt2, tt3, tt4, tt5⟩ | with_reducible exact ⟨s0, s1, s2, s3, s4, s5⟩ | with_reducible exact ⟨q0, q1, q2, q3, q4, q5⟩ | go_keep) (first
                | (go_at_call 12; obtain ⟨lb2, hlb2, hcc⟩ := HRr.out _ g (g + 1) 0 (H8.out.2.1.below (below_dr (Below.refl W8.heap.size W8) 1) (Nat.le_refl _)) (fun h => by cases h); refine hcc.mono ?_; rintro e w5 ⟨rfl, hr5, hg5⟩; have HG5 : Hid (W8.grownBy w5 (some g)) := (by first | exact hg5 | exact grownBy_trans (grownBy_drew W8 _) hg5); have k5 := H8.out.1.kept (HG5.out.block _ H8.out.1.lt (fun e => by have := H8.out.2.2.2.2.2.2.1; injection e with e; omega)); have s0 : w5.cell? ⟨xb, 0, none⟩ = some (.int .i64 bo) := k5.cell 0; have s1 : w5.cell? ⟨xb, 1, none⟩ = some (.int .i64 bd) := k5.cell 1; have s2 : w5.cell? ⟨xb, 2, none⟩ = some (.int .i64 bq) := k5.cell 2; have s3 : w5.cell? ⟨xb, 3, none⟩ = some (.int .i64 bj) := k5.cell 3; have s4 : w5.cell? ⟨xb, 4, none⟩ = some (.int .u64 ba) := k5.cell 4; have s5 : w5.cell? ⟨xb, 5, none⟩ = some (.bool bn) := k5.cell 5)
                | (go_at_call 10; refine Calls.mono (HF.out w5 c (H8.out.2.2.2.2.1.grown HG5.out (fun e => by have := HP.out; have := HGc.out; injection e with e; omega))) ?_; rintro e w6 ⟨rfl, hl6, hg6⟩; have H6 : Hid (Fl w6 c (lst xs) t2 la2 ∧ Fl w6 b (lst xs) t2 la2 ∧ Fl w6 a (lst (us ++ xs)) false 0 ∧ Below w.heap.size w w6) := ⟨hl6, (H8.out.2.2.2.1.grown HG5.out (fun e => by have := HP.out; have := HGc.out; injection e with e; omega)).grown hg6 (fun e => by have := HP.out; have := HGc.out; injection e with e; omega), (H8.out.2.2.1.grown HG5.out (fun e => by have := HP.out; have := HGc.out; injection e with e; omega)).grown hg6 (fun e => by have := HP.out; have := HGc.out; injection e with e; omega), below_grown (below_grown H8.out.2.2.2.2.2.1 HG5.out (by have := HP.out; have := HGc.out; omega)) hg6 (by have := HP.out; omega)⟩; have k6 := k5.kept (hg6.block _ k5.lt (fun e => by have := H8.out.2.2.2.2.2.2.1; have := HGc.out; injection e with e; omega)); have tt0 : w6.cell? ⟨xb, 0, none⟩ = some (.int .i64 bo) := k6.cell 0; have tt1 : w6.cell? ⟨xb, 1, none⟩ = some (.int .i64 bd) := k6.cell 1; have tt2 : w6.cell? ⟨xb, 2, none⟩ = some (.int .i64 bq) := k6.cell 2; have tt3 : w6.cell? ⟨xb, 3, none⟩ = some (.int .i64 bj) := k6.cell 3; have tt4 : w6.cell? ⟨xb, 4, none⟩ = some (.int .u64 ba) := k6.cell 4; have tt5 : w6.cell? ⟨xb, 5, none⟩ = some (.bool bn) := k6.cell 5)
                | (go_at_call 15; refine Calls.mono (fsamples_any H6.out.2.1) ?_; rintro e w7 ⟨lv, rfl, ho7, hb7⟩; have H7 : Hid (O4 w7 w6.heap.size lv (lst xs) ∧ Below w6.heap.size w6 w7) := ⟨ho7, hb7⟩; have k7 := k6.kept (hb7.block _ k6.lt); have x0 : w7.cell? ⟨xb, 0, none⟩ = some (.int .i64 bo) := k7.cell 0; have x1 : w7.cell? ⟨xb, 1, none⟩ = some (.int .i64 bd) := k7.cell 1; have x2 : w7.cell? ⟨xb, 2, none⟩ = some (.int .i64 bq) := k7.cell 2; have x3 : w7.cell? ⟨xb, 3, none⟩ = some (.int .i64 bj) := k7.cell 3; have x4 : w7.cell? ⟨xb, 4, none⟩ = some (.int .u64 ba) := k7.cell 4; have x5 : w7.cell? ⟨xb, 5, none⟩ = some (.bool bn) := k7.cell 5)
                | (go_at_call 15; refine Calls.mono (fsamples_any (H6.out.1.below H7.out.2 H6.out.1.lt)) ?_; rintro e w9 ⟨mv, rfl, ho9, hb9⟩; have H9 : Hid (O4 w9 w7.heap.size mv (lst xs) ∧ Below w7.heap.size w7 w9) := ⟨ho9, hb9⟩; have k9 := k7.kept (hb9.block _ k7.lt); have y0 : w9.cell? ⟨xb, 0, none⟩ = some (.int .i64 bo) := k9.cell 0; have y1 : w9.cell? ⟨xb, 1, none⟩ = some (.int .i64 bd) := k9.cell 1; have y2 : w9.cell? ⟨xb, 2, none⟩ = some (.int .i64 bq) := k9.cell 2; have y3 : w9.cell? ⟨xb, 3, none⟩ = some (.int .i64 bj) := k9.cell 3; have y4 : w9.cell? ⟨xb, 4, none⟩ = some (.int .u64 ba) := k9.cell 4; have y5 : w9.cell? ⟨xb, 5, none⟩ = some (.bool bn) := k9.cell 5)
                | (go_at_call 16; refine Calls.mono (same_any lv mv w6.heap.size w7.heap.size (lst xs) w9 (H7.out.1.sv.below H9.out.2 (Nat.le_refl _)) H9.out.1.sv (by have := lst_len xs; omega)) ?_; rintro e w10 ⟨rfl, nq, hw10⟩; have H10 : Hid (Below w9.heap.size w9 w10) := (by rw [hw10]; exact below_dr (Below.refl _ _) nq); have k10 := k9.kept (H10.out.block _ k9.lt); have zz0 : w10.cell? ⟨xb, 0, none⟩ = some (.int .i64 bo) := k10.cell 0; have zz1 : w10.cell? ⟨xb, 1, none⟩ = some (.int .i64 bd) := k10.cell 1; have zz2 : w10.cell? ⟨xb, 2, none⟩ = some (.int .i64 bq) := k10.cell 2; have zz3 : w10.cell? ⟨xb, 3, none⟩ = some (.int .i64 bj) := k10.cell 3; have zz4 : w10.cell? ⟨xb, 4, none⟩ = some (.int .u64 ba) := k10.cell 4; have zz5 : w10.cell? ⟨xb, 5, none⟩ = some (.bool bn) := k10.cell 5))
              have HGX : Hid (g < xb) := H8.out.2.2.2.2.2.2.1
              refine Exit.then_hid fun W11 hW11 => ?_
              have HE : Hid (Bk xb W11 #[.int .i64 bo, .int .i64 bd, .int .i64 bq, .int .i64 bj, .int .u64 ba, .bool bn] 33 ∧ Fl W11 a (lst (us ++ xs)) false 0 ∧ Below w.heap.size w W11) := by
                rw [hW11.out]
                have h7 := H7.out.2
                have h9 := H9.out.2
                have h69 : Below w6.heap.size w6 w9 := Below.then h7 h9
                exact ⟨k9.kept rfl, (H6.out.2.2.1.below h69 H6.out.2.2.1.lt).kept rfl, below_dr (H6.out.2.2.2.trans (h69.mono H6.out.2.2.2.size)) nq⟩
              have p0 : W11.cell? ⟨xb, 0, none⟩ = some (.int .i64 bo) := HE.out.1.cell 0
              have p1 : W11.cell? ⟨xb, 1, none⟩ = some (.int .i64 bd) := HE.out.1.cell 1
              have p2 : W11.cell? ⟨xb, 2, none⟩ = some (.int .i64 bq) := HE.out.1.cell 2
              have p3 : W11.cell? ⟨xb, 3, none⟩ = some (.int .i64 bj) := HE.out.1.cell 3
              have p4 : W11.cell? ⟨xb, 4, none⟩ = some (.int .u64 ba) := HE.out.1.cell 4
              have p5 : W11.cell? ⟨xb, 5, none⟩ = some (.bool bn) := HE.out.1.cell 5
              clear hW11 k5 k6 k7 k9 k10 H6 H7 H9 H10 H8 HG5 hr5 hg5 hl6 hg6 ho7 hb7 ho9 hb9 hcc hlb2 HW8 HT
              by_cases hn8 : (i3 : Int) < 8
              · go_wp2_with fail
                refine wp_region_quietW (by kernel_rfl) (by kernel_rfl) ?_
                repeat (refine qw_step (fun K hK => ?_); go_simp; refine hK _ ?_; clear hK K)
                refine qw_nil ?_
                intro _ hw'
                obtain ⟨nr, hw''⟩ := hw'
                subst hw''
                go_wp2_with fail
                rw [hQ.out]
                go_ret
                exact ⟨rfl, below_dr HE.out.2.2 nr⟩
              · have hxl : 8 ≤ xs.length := by have := HV.out.2; omega
                have HFa : Hid (Fl W11 a (lst xs) false 0) := by have := HE.out.2.1; rw [lst_late us xs hxl] at this; exact this
                have HLT : Hid (a ≠ xb) := by have h0 := HP.out; have h1 := HGc.out; show a ≠ xb; have := HGX.out; omega
                clear hxl
                go_wp2_with fail
                have hd8 : decide ((i3 : Int) < 8) = false := decide_eq_false (by omega)
                have hd9 : ¬ ((i3 : Int) < 8) := by omega
                go_region_held3 (fun w' => w'.cell? ⟨xb, 0, none⟩ = some (.int .i64 bo) ∧ w'.cell? ⟨xb, 1, none⟩ = some (.int .i64 bd) ∧ w'.cell? ⟨xb, 2, none⟩ = some (.int .i64 bq) ∧ w'.cell? ⟨xb, 3, none⟩ = some (.int .i64 bj) ∧ w'.cell? ⟨xb, 4, none⟩ = some (.int .u64 ba) ∧ w'.cell? ⟨xb, 5, none⟩ = some (.bool bn)) (first | with_reducible exact ⟨m0, m1, m2, m3, m4, m5⟩ | with_reducible exact ⟨p0, p1, p2, p3, p4, p5⟩ | go_keep) ((go_at_call 10; refine Calls.mono (HF.out _ a (HFa.out.kept rfl)) ?_; rintro e w12 ⟨rfl, hl12, hg12⟩; have HG12 : Hid (W11.grownBy w12 (some a)) := (by first | exact hg12 | exact grownBy_trans (grownBy_drew W11 _) hg12); have k12 := HE.out.1.kept (HG12.out.block _ HE.out.1.lt (fun e => HLT.out (Option.some.inj e).symm)); have m0 : w12.cell? ⟨xb, 0, none⟩ = some (.int .i64 bo) := k12.cell 0; have m1 : w12.cell? ⟨xb, 1, none⟩ = some (.int .i64 bd) := k12.cell 1; have m2 : w12.cell? ⟨xb, 2, none⟩ = some (.int .i64 bq) := k12.cell 2; have m3 : w12.cell? ⟨xb, 3, none⟩ = some (.int .i64 bj) := k12.cell 3; have m4 : w12.cell? ⟨xb, 4, none⟩ = some (.int .u64 ba) := k12.cell 4; have m5 : w12.cell? ⟨xb, 5, none⟩ = some (.bool bn) := k12.cell 5))
                go_wp2_with fail
                rw [hQ.out]
                go_ret
                exact ⟨rfl, below_grown HE.out.2.2 HG12.out (Nat.le_of_eq HP.out.1.symm)⟩
end Go.Proofs.Ytgkjgkdlcmmpoaa
/- Samples that came in, in slices and by value: opened. -/
namespace Go.Proofs.Ytgkjgkdlcmmpoaa
open Go.ChangeShapes Go.WideShapes Go.ChangeAt Go.RowKit Go.Deep Fi
theorem list4 {α : Type} {l : List α} (h : l.length = 4) : ∃ a b c d, l = [a, b, c, d] := by
  match l, h with
  | [a, b, c, d], _ => exact ⟨a, b, c, d, rfl⟩
theorem i64_wf {n : Int} (h : (Lit.int .i64 n).wf = true) : -9223372036854775808 ≤ n ∧ n ≤ 9223372036854775807 := by
  have e1 : IntKind.i64.min = -9223372036854775808 := by decide
  have e2 : IntKind.i64.max = 9223372036854775807 := by decide
  simp [Lit.wf, e1, e2] at h
  omega
theorem u64_wf {n : Int} (h : (Lit.int .u64 n).wf = true) : 0 ≤ n ∧ n < 18446744073709551616 := by
  have e1 : IntKind.u64.min = 0 := by decide
  have e2 : IntKind.u64.max = 18446744073709551615 := by decide
  simp [Lit.wf, e1, e2] at h
  omega
theorem u32_wf {n : Int} (h : (Lit.int .u32 n).wf = true) : 0 ≤ n ∧ n < 4294967296 := by
  have e1 : IntKind.u32.min = 0 := by decide
  have e2 : IntKind.u32.max = 4294967295 := by decide
  simp [Lit.wf, e1, e2] at h
  omega
/-- four cells that read as a sample -/
theorem open_four {H : Type} {enc : TypeId × Value → H} {w : World} {base : Nat} {spare : Nat → Bool} {held : Bool} {fuel : Nat} {cs : List Value} {x : DataW H × List MemPlace} (hlen : cs.length = 4)
    (h : DataW.trod enc Try.prog w base spare held fuel 27 cs = some x) : ∃ s : Smp, cs = smL s ∧ okS s := by
  obtain ⟨xs, k, hk, hxy, _, hxl, hf⟩ := DataW.trod_struct Try.underlying27 h
  obtain ⟨y0, y1, y2, y3, rfl⟩ := list4 (show xs.length = 4 from hxl)
  obtain ⟨v0, v1, v2, v3, rfl⟩ := list4 hlen
  have g0 := hf 0 _ rfl
  have g1 := hf 1 _ rfl
  have g2 := hf 2 _ rfl
  have g3 := hf 3 _ rfl
  have c0 : Try.prog.cellsOf 23 = 1 := by kernel_rfl
  have c3 : Try.prog.cellsOf 25 = 1 := by kernel_rfl
  simp [c0, c3] at g0 g1 g2 g3
  obtain ⟨n0, e0, -, w0⟩ := DataW.trod_int Try.underlying23 g0
  obtain ⟨n1, e1, -, w1⟩ := DataW.trod_int Try.underlying23 g1
  obtain ⟨n2, e2, -, w2⟩ := DataW.trod_int Try.underlying23 g2
  obtain ⟨n3, e3, -, w3⟩ := DataW.trod_int Try.underlying25 g3
  simp at e0 e1 e2 e3
  subst e0; subst e1; subst e2; subst e3
  exact ⟨⟨n0, n1, n2, n3⟩, rfl, i64_wf w0, i64_wf w1, i64_wf w2, u64_wf w3⟩
/-- a sample by value -/
theorem open_sample {H : Type} {enc : TypeId × Value → H} {w : World} {base : Nat} {spare : Nat → Bool} {held : Bool} {r : Reach} {b0 : Nat} {v : Value} {d : DataW H} {p : List MemPlace}
    (hv : Value.okWide Try.prog w r b0 27 v) (h : DataW.Trod enc Try.prog w base spare held 27 v d p) : ∃ s : Smp, v = .agg (smL s).toArray ∧ okS s := by
  obtain ⟨cs, rfl, hsz⟩ := okWide_struct Try.underlying27 hv
  obtain ⟨l⟩ := cs
  have hC : Try.prog.cellsOf 27 = 4 := by kernel_rfl
  obtain ⟨fuel, hf⟩ := h
  have hf : DataW.trod enc Try.prog w base spare held fuel 27 l = some (d, p) := hf
  obtain ⟨s, rfl, ok⟩ := open_four (show l.length = 4 from hsz.trans hC) hf
  exact ⟨s, rfl, ok⟩
/-- a slice of samples -/
theorem open_samples {H : Type} {enc : TypeId × Value → H} {w : World} {base : Nat} {spare : Nat → Bool} {held : Bool} {fuel : Nat} {c : Value} {x : DataW H × List MemPlace}
    (h : DataW.trod enc Try.prog w base spare held fuel 22 [c] = some x) : ∃ xs : List Smp, Sr w.heap.size w c xs := by
  have ht := Try.underlying22
  have ce : Try.prog.cellsOf 27 = 4 := by kernel_rfl
  rcases open_slice ht h with ⟨hcs, _⟩ | ⟨a, len, cap, m, n, D, Pl, hcs, hb, hl, hm, hmm, hxd, hx⟩
  · simp at hcs
    exact ⟨[], ⟨none, 0, by rw [hcs]; rfl, fun i hi => absurd hi (by simp)⟩, fun s hs => by cases hs⟩
  · simp at hcs
    have hlm : len ≤ m := by rw [hmm]; split <;> omega
    have each : ∀ i, ∃ r : Smp, i < len → (∀ j u, (smL r)[j]? = some u → w.cell? ((a.add (i * 4)).add j) = some u) ∧ okS r := fun i => by
      by_cases hi : i < len
      · obtain ⟨cs', h1, h2⟩ := hx i (by omega)
        rw [ce] at h1
        obtain ⟨_, hlen, hcell⟩ := World.cells?_some h1
        obtain ⟨s, rfl, ok⟩ := open_four hlen h2
        refine ⟨s, fun _ => ⟨fun j u hu => ?_, ok⟩⟩
        have hj : j < 4 := by
          rcases Nat.lt_or_ge j 4 with hlt | hge
          · exact hlt
          · rw [List.getElem?_eq_none (by simpa [smL] using hge)] at hu; cases hu
        rw [hcell j hj]
        first | exact hu | simpa using hu
      · exact ⟨z0, fun h => absurd h hi⟩
    obtain ⟨F, hF⟩ := Classical.axiomOfChoice each
    have hlen : ((List.range len).map F).length = len := by simp
    refine ⟨(List.range len).map F, ⟨some a, cap, by rw [hlen]; exact hcs, fun i hi => ?_⟩, fun s hs => ?_⟩
    · rw [hlen] at hi
      have e5 : ((List.map F (List.range len))).getD i z0 = F i := by
        rw [List.getD_eq_getElem?_getD, List.getElem?_map, List.getElem?_range hi]; rfl
      rw [e5]
      refine ⟨a, rfl, ?_, (hF i hi).1⟩
      have := World.block_lt_of_cell? w _ ((hF i hi).1 0 _ rfl)
      rwa [add_block, add_block] at this
    · obtain ⟨i, hi, rfl⟩ := List.mem_map.1 hs
      exact (hF i (List.mem_range.1 hi)).2
end Go.Proofs.Ytgkjgkdlcmmpoaa
/- Calls that came in: opened. -/
namespace Go.Proofs.Ytgkjgkdlcmmpoaa
open Go.ChangeShapes Go.WideShapes Go.ChangeAt Go.RowKit Go.Deep Fi
theorem list3' {α : Type} {l : List α} (h : l.length = 3) : ∃ a b c, l = [a, b, c] := by
  match l, h with
  | [a, b, c], _ => exact ⟨a, b, c, rfl⟩
theorem list6 {α : Type} {l : List α} (h : l.length = 6) : ∃ a b c d e f, l = [a, b, c, d, e, f] := by
  match l, h with
  | [a, b, c, d, e, f], _ => exact ⟨a, b, c, d, e, f, rfl⟩
theorem open_six {H : Type} {enc : TypeId × Value → H} {w : World} {base : Nat} {spare : Nat → Bool} {held : Bool} {fuel : Nat} {cs : List Value} {x : DataW H × List MemPlace} (hlen : cs.length = 6)
    (h : DataW.trod enc Try.prog w base spare held fuel 41 cs = some x) : ∃ s : Stp9, cs = sl9 s ∧ okS s.s := by
  obtain ⟨xs, k, hk, hxy, _, hxl, hf⟩ := DataW.trod_struct Try.underlying41 h
  obtain ⟨y0, y1, y2, rfl⟩ := list3' (show xs.length = 3 from hxl)
  obtain ⟨v0, v1, v2, v3, v4, v5, rfl⟩ := list6 hlen
  have g0 := hf 0 _ rfl
  have g1 := hf 1 _ rfl
  have g2 := hf 2 _ rfl
  have c0 : Try.prog.cellsOf 3 = 1 := by kernel_rfl
  have c1 : Try.prog.cellsOf 27 = 4 := by kernel_rfl
  have c3 : Try.prog.cellsOf 25 = 1 := by kernel_rfl
  simp [c0, c1, c3] at g0 g1 g2
  obtain ⟨n0, e0, -, w0⟩ := DataW.trod_int Try.underlying3 g0
  obtain ⟨s, e1, ok⟩ := open_four rfl g1
  obtain ⟨n2, e2, -, w2⟩ := DataW.trod_int Try.underlying25 g2
  simp [smL] at e0 e1 e2
  obtain ⟨rfl, rfl, rfl, rfl⟩ := e1
  subst e0; subst e2
  exact ⟨⟨n0, s, n2⟩, rfl, ok⟩
theorem open_steps9 {H : Type} {enc : TypeId × Value → H} {w : World} {base : Nat} {spare : Nat → Bool} {held : Bool} {fuel : Nat} {c : Value} {x : DataW H × List MemPlace}
    (h : DataW.trod enc Try.prog w base spare held fuel 36 [c] = some x) : ∃ ss : List Stp9, St9 w.heap.size w c ss := by
  have ht := Try.underlying36
  have ce : Try.prog.cellsOf 41 = 6 := by kernel_rfl
  rcases open_slice ht h with ⟨hcs, _⟩ | ⟨a, len, cap, m, n, D, Pl, hcs, hb, hl, hm, hmm, hxd, hx⟩
  · simp at hcs
    exact ⟨[], ⟨none, 0, by rw [hcs]; rfl, fun i hi => absurd hi (by simp)⟩, fun s hs => by cases hs⟩
  · simp at hcs
    have hlm : len ≤ m := by rw [hmm]; split <;> omega
    have each : ∀ i, ∃ r : Stp9, i < len → (∀ j u, (sl9 r)[j]? = some u → w.cell? ((a.add (i * 6)).add j) = some u) ∧ okS r.s := fun i => by
      by_cases hi : i < len
      · obtain ⟨cs', h1, h2⟩ := hx i (by omega)
        rw [ce] at h1
        obtain ⟨_, hlen, hcell⟩ := World.cells?_some h1
        obtain ⟨s, rfl, ok⟩ := open_six hlen h2
        refine ⟨s, fun _ => ⟨fun j u hu => ?_, ok⟩⟩
        have hj : j < 6 := by
          rcases Nat.lt_or_ge j 6 with hlt | hge
          · exact hlt
          · rw [List.getElem?_eq_none (by simpa [sl9] using hge)] at hu; cases hu
        rw [hcell j hj]
        first | exact hu | simpa using hu
      · exact ⟨z9, fun h => absurd h hi⟩
    obtain ⟨F, hF⟩ := Classical.axiomOfChoice each
    have hlen : ((List.range len).map F).length = len := by simp
    refine ⟨(List.range len).map F, ⟨some a, cap, by rw [hlen]; exact hcs, fun i hi => ?_⟩, fun s hs => ?_⟩
    · rw [hlen] at hi
      have e5 : ((List.map F (List.range len))).getD i z9 = F i := by
        rw [List.getD_eq_getElem?_getD, List.getElem?_map, List.getElem?_range hi]; rfl
      rw [e5]
      refine ⟨a, rfl, ?_, (hF i hi).1⟩
      have := World.block_lt_of_cell? w _ ((hF i hi).1 0 _ rfl)
      rwa [add_block, add_block] at this
    · obtain ⟨i, hi, rfl⟩ := List.mem_map.1 hs
      exact (hF i (List.mem_range.1 hi)).2
end Go.Proofs.Ytgkjgkdlcmmpoaa
