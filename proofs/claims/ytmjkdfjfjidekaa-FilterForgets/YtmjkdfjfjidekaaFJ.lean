/- Samples that came in; FilterSteady, walked. -/
import Derived.Test.YtmjkdfjfjidekaaFI
namespace Go.Proofs.Ytmjkdfjfjidekaa
open Go Go.RowKit Fi
/-- a slice below block N that reads as these samples -/
structure Sr (N : Nat) (w : World) (v : Value) (xs : List Smp) : Prop where
  ex : ∃ ao cap, v = .slice ao xs.length cap ∧ ∀ k, k < xs.length → ∃ ad, ao = some ad ∧ ad.block < N ∧ ∀ j u, (smL (xs.getD k z0))[j]? = some u → w.cell? ((ad.add (k * 4)).add j) = some u
  ok : ∀ s ∈ xs, okS s
theorem Sr.below {N B : Nat} {w w' : World} {v : Value} {xs : List Smp} (h : Sr N w v xs) (hb : Below B w w') (hN : N ≤ B) : Sr N w' v xs := by
  obtain ⟨⟨ao, cap, h1, h2⟩, h3⟩ := h
  refine ⟨⟨ao, cap, h1, fun k hk => ?_⟩, h3⟩
  obtain ⟨ad, k1, k2, k3⟩ := h2 k hk
  exact ⟨ad, k1, k2, fun j u hu => (hb.cell (p := (ad.add (k * 4)).add j) (by rw [add_block, add_block]; omega)).trans (k3 j u hu)⟩
/-- an element: its index, its cells -/
theorem Sr.at {N : Nat} {w : World} {ao : Option Addr} {n cap : Nat} {xs : List Smp} (h : Sr N w (.slice ao n cap) xs) (k : Nat) (hk : k < xs.length) : ∃ ad : Addr, (∀ u, Sem.run Try.prog (Instr.indexAt 22 (.slice ao n cap) (.int .i64 (k : Int))) u = .ok (.pointer (some ad)) u) ∧ ad.block < N ∧ ∀ j u, (smL (xs.getD k z0))[j]? = some u → w.cell? (ad.add j) = some u := by
  obtain ⟨⟨ao', cap', h1, h2⟩, _⟩ := h
  injection h1 with e1 e2 e3
  subst e1 e2 e3
  obtain ⟨ad, k1, k2, k3⟩ := h2 k hk
  refine ⟨ad.add (k * 4), fun u => ?_, by rw [add_block]; exact k2, k3⟩
  subst k1
  have u' := Try.underlying22
  have c3 : Try.prog.cellsOf 27 = 4 := by kernel_rfl
  have h0 : (0 : Int) ≤ k := Int.natCast_nonneg k
  have h1 : (k : Int) < xs.length := by omega
  go_simp
theorem Sr.len {N : Nat} {w : World} {ao : Option Addr} {n cap : Nat} {xs : List Smp} (h : Sr N w (.slice ao n cap) xs) : n = xs.length := by
  obtain ⟨⟨ao', cap', h1, h2⟩, _⟩ := h
  injection h1 with e1 e2 e3
theorem below_grown {w a b : World} {p : Nat} (h : Below w.heap.size w a) (hg : a.grownBy b (some p)) (hp : w.heap.size ≤ p) : Below w.heap.size w b := h.grown hg h.size (fun k hk => by injection hk with hk; omega)
theorem adS_ok {xs : List Smp} {s : Smp} (h : ∀ x ∈ xs, okS x) (hs : okS s) : ∀ x ∈ adS xs s, okS x := fun x hx => by
  rcases List.mem_cons.1 (List.mem_of_mem_take hx) with rfl | hx
  · exact hs
  · exact h x hx
/-- what is left of a row of samples that were added, in their order -/
def lst (xs : List Smp) : List Smp := xs.foldl adS []
theorem lst_snoc (xs : List Smp) (s : Smp) : lst (xs ++ [s]) = adS (lst xs) s := by unfold lst; rw [List.foldl_append]; rfl
theorem lst_succ (xs : List Smp) (k : Nat) (h : k < xs.length) : lst (xs.take (k + 1)) = adS (lst (xs.take k)) (xs.getD k z0) := by
  rw [List.take_succ_eq_append_getElem h, lst_snoc, getD_lt xs k h]
theorem lst_len (xs : List Smp) : (lst xs).length ≤ 8 := by
  induction xs using snoc_ind with
  | h0 => simp [lst]
  | h1 r s ih => rw [lst_snoc]; unfold adS; rw [List.length_take]; omega
theorem lst_ok {xs : List Smp} (h : ∀ x ∈ xs, okS x) : ∀ x ∈ lst xs, okS x := by
  induction xs using snoc_ind with
  | h0 => intro x hx; cases hx
  | h1 r s ih => rw [lst_snoc]; exact adS_ok (ih (fun x hx => h x (List.mem_append_left _ hx))) (h s (by simp))
theorem sum_zero (n : Nat) : Sq.sum (List.replicate n 0) = 0 := by
  induction n with
  | zero => rfl
  | succ n ih => rw [List.replicate_succ, Sq.sum, ih]; rfl
theorem rms_zero (n : Nat) : Sq.rms (List.replicate n 0) = 0 := by
  unfold Sq.rms
  rw [List.take_replicate, sum_zero, Nat.zero_div]
  rfl
theorem steady (L : List Smp) (O D : Int) (h : ∀ s ∈ L, s.o = O ∧ s.d = D) (hl : 0 < L.length) : srt L = L ∧ (fst L).o = O ∧ (fst L).d = D ∧ jt L = 4096 := by
  cases L with
  | nil => simp at hl
  | cons x r =>
    have h0 := h x (List.mem_cons_self ..)
    refine ⟨srt_one _ D (fun s hs => (h s hs).2), h0.1, h0.2, ?_⟩
    have e : dfs (x :: r) = List.replicate r.length 0 := by
      unfold dfs fst
      apply List.ext_getElem
      · simp
      · intro i h1 h2
        simp only [List.headD_cons, List.getElem_map, List.getElem_drop, List.getElem_replicate]
        have h3 := h ((x :: r)[1 + i]'(by simp at h2; simp; omega)) (List.getElem_mem _)
        rw [h3.1, h0.1, Int.sub_self]
        rfl
    unfold jt
    rw [e, rms_zero]
    rfl
set_option maxRecDepth 20000 in
set_option maxHeartbeats 1000000 in
theorem FilterSteady_row (v : Value) (gap : Int) (xs : List Smp) (x : Smp) (w : World) (hv : Sr w.heap.size w v xs) (hx : okS x) (g0 : 0 ≤ gap) (g1 : gap < 4294967296) :
    Calls Try.prog 3 #[v, .agg (smL x).toArray, .int .u32 gap] w fun e w' => e = .returned (.bool true) ∧ Below w.heap.size w w' := by
  obtain ⟨ao, cap, rfl, -⟩ := hv.ex
  obtain ⟨n, hn⟩ : ∃ n, n = xs.length := ⟨_, rfl⟩
  rw [← hn] at hv ⊢
  have HV : Hid (Sr w.heap.size w (.slice ao n cap) xs ∧ n = xs.length) := ⟨hv, hn⟩
  obtain ⟨so, sd, sp, sa⟩ := x
  obtain ⟨⟨o0, o1⟩, ⟨d0, d1⟩, ⟨p0, p1⟩, ⟨a0, a1⟩⟩ := hx
  simp only at o0 o1 d0 d1 p0 p1 a0 a1
  clear hv hn
  unfold smL
  simp only
  by_cases h1 : 4096 < (n : Int)
  · go_enter Try.func3, Try.ntmps3
    go_wp2
    go_ret
    exact ⟨rfl, (by repeat' (first | with_reducible exact Below.refl _ _ | with_reducible refine Below.setCell ?_ (by first | (simp; done) | (simp; omega) | omega) _ | with_reducible refine below_drewN ?_ _ | with_reducible refine Below.drew ?_ | with_reducible refine Below.alloc ?_ (by first | (simp; done) | (simp; omega) | omega) _))⟩
  by_cases h2 : gap = 0
  · subst h2
    go_enter Try.func3, Try.ntmps3
    go_wp2
    go_ret
    exact ⟨rfl, (by repeat' (first | with_reducible exact Below.refl _ _ | with_reducible refine Below.setCell ?_ (by first | (simp; done) | (simp; omega) | omega) _ | with_reducible refine below_drewN ?_ _ | with_reducible refine Below.drew ?_ | with_reducible refine Below.alloc ?_ (by first | (simp; done) | (simp; omega) | omega) _))⟩
  have h2' : (gap == 0) = false := by simpa using h2
  go_enter Try.func3, Try.ntmps3
  refine post_hid fun Q hQ => ?_
  refine seq_hid fun R hR => ?_
  go_wp2
  refine world_hid fun W0 hW0 => ?_
  have HW0 : Hid (Bk w.heap.size W0 #[.int .i64 so, .int .i64 sd, .int .i64 sp, .int .u64 sa] 27 ∧ Below w.heap.size w W0 ∧ W0.heap.size = w.heap.size + 1) := by
    refine ⟨?_, ?_, ?_⟩
    · rw [hW0.out]; exact Bk.new _ _ _
    · rw [hW0.out]; exact (Below.refl _ _).alloc (Nat.le_refl _) _
    · rw [hW0.out]; simp
  clear hW0
  rw [hR.out]
  clear hR
  go_wp2_with fail
  refine (new_any W0).mono ?_
  rintro e w1 ⟨rfl, hl1, hb1, hz1⟩
  obtain ⟨p, hp⟩ : ∃ p, p = W0.heap.size := ⟨_, rfl⟩
  rw [← hp] at hl1 hb1 ⊢
  have HP : Hid (p = w.heap.size + 1) := hp.trans HW0.out.2.2
  have H1 : Hid (Fl w1 p [] false 0 ∧ Bk w.heap.size w1 #[.int .i64 so, .int .i64 sd, .int .i64 sp, .int .u64 sa] 27 ∧ Below w.heap.size w w1) := ⟨hl1, HW0.out.1.kept (hb1.block _ (by have := HP.out; omega)), HW0.out.2.1.trans (hb1.mono (by have := HP.out; omega))⟩
  clear hl1 hb1 hz1 hp HW0
  go_wp2_with fail
  go_loopw [8] (fun i wr => ∃ (k : Nat), i = .int .i64 k ∧ (k : Int) ≤ n ∧ Hid (Fl wr p (lst (xs.take k)) false 0 ∧ Bk w.heap.size wr #[.int .i64 so, .int .i64 sd, .int .i64 sp, .int .u64 sa] 27 ∧ Below w.heap.size w wr)) (fun i _ => n - (intOf i).toNat)
  case atStart => exact ⟨0, rfl, by omega, H1⟩
  case round =>
    clear H1
    obtain ⟨k, rfl, hk, HK⟩ := hrel
    by_cases hlt : (k : Int) < n
    · have hkx : k < xs.length := by have := HV.out.2; omega
      obtain ⟨ad, hix, hab, hac⟩ := (HV.out.1.below HK.out.2.2 (Nat.le_refl _)).at k hkx
      have HE : Hid (lst (xs.take (k + 1)) = adS (lst (xs.take k)) (xs.getD k z0)) := lst_succ xs k hkx
      obtain ⟨y, hy⟩ : ∃ y, y = xs.getD k z0 := ⟨_, rfl⟩
      rw [← hy] at hac HE
      have HC : Hid (∀ j u, (smL y)[j]? = some u → wr.cell? (ad.add j) = some u) := hac
      have HA : Hid _ := fadd_any p _ _ _ y wr HK.out.1
      clear hac hkx hab hy
      go_wp2_with (first | (refine step_ldat 27 _ rfl rfl ad (by rfl) (smL y) _ Try.underlying27 rfl (by kernel_rfl) HC.out ?_) | (go_at_call 9; refine Calls.mono HA.out ?_; rintro e w3 ⟨rfl, hl3, hg3⟩))
      go_roundw
      case rel => exact ⟨k + 1, by go_num, by omega, ⟨by rw [HE.out]; exact hl3, HK.out.2.1.kept (hg3.block _ HK.out.2.1.lt (fun e => by have := HP.out; injection e with e; omega)), below_grown HK.out.2.2 hg3 (by have := HP.out; omega)⟩⟩
      case measure => simp [intOf]; omega
    · have hkn : k = n := by omega
      subst hkn
      have H2 : Hid (Fl wr p (lst xs) false 0 ∧ Bk w.heap.size wr #[.int .i64 so, .int .i64 sd, .int .i64 sp, .int .u64 sa] 27 ∧ Below w.heap.size w wr ∧ ∀ s ∈ lst xs, okS s) := ⟨by have := HK.out.1; rw [HV.out.2, List.take_length] at this; exact this, HK.out.2.1, HK.out.2.2, lst_ok HV.out.1.ok⟩
      clear HK
      go_wp2_with fail
      go_loopw [9] (fun i wi => ∃ (j : Nat) (a : Int) (L : List Smp), i = .int .i64 j ∧ (j : Int) ≤ 8 ∧ 0 ≤ a ∧ a < 18446744073709551616 ∧ Hid (Fl wi p L false 0 ∧ j ≤ L.length ∧ (∀ s ∈ L.take j, s.o = so ∧ s.d = sd) ∧ (0 < j → (fst L).a = a) ∧ (∀ s ∈ L, okS s) ∧ Bk w.heap.size wi #[.int .i64 so, .int .i64 sd, .int .i64 sp, .int .u64 a] 27 ∧ Below w.heap.size w wi)) (fun i _ => 8 - (intOf i).toNat)
      case atStart => exact ⟨0, sa, lst xs, rfl, by omega, a0, a1, ⟨H2.out.1, Nat.zero_le _, fun s hs => by simp at hs, fun h => by omega, H2.out.2.2.2, H2.out.2.1, H2.out.2.2.1⟩⟩
      case round =>
        clear H2
        obtain ⟨j, a, L, rfl, hj, ha0, ha1, HJ⟩ := hrel
        have hB := HJ.out.2.2.2.2.2.1
        by_cases hlt2 : (j : Int) < 8
        · have c3 : wr.cell? ⟨w.heap.size, 3, none⟩ = some (.int .u64 a) := hB.cell 3
          have cf := hB.frozen
          obtain ⟨b, hb⟩ : ∃ b, b = IntKind.u64.wrap (a + gap) := ⟨_, rfl⟩
          have hb' : IntKind.u64.wrap (a + gap) = b := hb.symm
          have hb0 : 0 ≤ b ∧ b < 18446744073709551616 := by rw [hb, IntKind.wrap_u64]; omega
          have hB2 : Bk w.heap.size (wr.setCell ⟨w.heap.size, 3, none⟩ (.int .u64 b)) (smL ⟨so, sd, sp, b⟩).toArray 27 := hB.set (j := 3) (.int .u64 b)
          have hg2 : wr.grownBy (wr.setCell ⟨w.heap.size, 3, none⟩ (.int .u64 b)) (some w.heap.size) := grownBy_set wr ⟨w.heap.size, 3, none⟩ _
          have hF2 : Fl (wr.setCell ⟨w.heap.size, 3, none⟩ (.int .u64 b)) p L false 0 := HJ.out.1.setNew _ (by have := HP.out; show w.heap.size ≠ p; omega) _
          have H3 : Hid (Bk w.heap.size (wr.setCell ⟨w.heap.size, 3, none⟩ (.int .u64 b)) (smL ⟨so, sd, sp, b⟩).toArray 27 ∧ Below w.heap.size w (wr.setCell ⟨w.heap.size, 3, none⟩ (.int .u64 b))) := ⟨hB2, below_grown HJ.out.2.2.2.2.2.2 hg2 (Nat.le_refl _)⟩
          have HC : Hid (∀ i u, (smL ⟨so, sd, sp, b⟩)[i]? = some u → (wr.setCell ⟨w.heap.size, 3, none⟩ (.int .u64 b)).cell? ((⟨w.heap.size, 0, none⟩ : Addr).add i) = some u) := cells_of (l := smL ⟨so, sd, sp, b⟩) hB2
          have HA : Hid _ := fadd_any p L false 0 ⟨so, sd, sp, b⟩ _ hF2
          clear hb hB hB2 hg2 hF2
          go_wp2_with (first | (refine step_ldat 27 _ rfl rfl ⟨w.heap.size, 0, none⟩ (by rfl) (smL ⟨so, sd, sp, b⟩) _ Try.underlying27 rfl (by kernel_rfl) HC.out ?_) | (go_at_call 9; refine Calls.mono HA.out ?_; rintro e w3 ⟨rfl, hl3, hg3⟩))
          go_roundw
          case rel =>
            have hne : some w.heap.size ≠ some p := fun e => by have := HP.out; injection e with e; omega
            refine ⟨j + 1, b, adS L ⟨so, sd, sp, b⟩, by go_num, by omega, hb0.1, hb0.2, ⟨hl3, ?_, ?_, fun _ => rfl, adS_ok HJ.out.2.2.2.2.1 ⟨⟨o0, o1⟩, ⟨d0, d1⟩, ⟨p0, p1⟩, hb0⟩, H3.out.1.kept (hg3.block _ H3.out.1.lt hne), below_grown H3.out.2 hg3 (by have := HP.out; omega)⟩⟩
            · rw [adS_len _ _ HJ.out.1.len]; have := HJ.out.2.1; omega
            · intro s hs
              unfold adS at hs
              rw [List.take_take, Nat.min_eq_left (by omega), List.take_succ_cons] at hs
              rcases List.mem_cons.1 hs with rfl | hs
              · exact ⟨rfl, rfl⟩
              · exact HJ.out.2.2.1 s hs
          case measure => simp [intOf]; omega
        · have hj8 : j = 8 := by omega
          subst hj8
          have hl8 : L.length = 8 := by have := HJ.out.2.1; have := HJ.out.1.len; omega
          obtain ⟨s1, s2, s3, s4⟩ := steady L so sd (fun s hs => HJ.out.2.2.1 s (by rw [List.take_of_length_le (by omega)]; exact hs)) (by omega)
          have s5 := HJ.out.2.2.2.1 (by omega)
          have q := best_any p L false 0 a wr HJ.out.1 (by omega) HJ.out.2.2.2.2.1
          rw [s1, s2, s3, s4, s5] at q
          have e1 : nwB false 0 a = true := rfl
          rw [e1] at q
          have HBe : Hid (∃ D, Calls Try.prog 10 #[.pointer (some ⟨p, 0, none⟩), .int .u64 a] wr fun e w' => e = .returned (.agg (bsL so sd D 4096 a true).toArray) ∧ wr.grownBy w' (some p)) := ⟨_, q.mono fun e w' h => ⟨h.1, h.2.2⟩⟩
          obtain ⟨D, HBe⟩ := HBe.out
          have HBe : Hid _ := HBe
          have c0 : wr.cell? ⟨w.heap.size, 0, none⟩ = some (.int .i64 so) := hB.cell 0
          have c1 : wr.cell? ⟨w.heap.size, 1, none⟩ = some (.int .i64 sd) := hB.cell 1
          have c3 : wr.cell? ⟨w.heap.size, 3, none⟩ = some (.int .u64 a) := hB.cell 3
          clear q s1 s2 s3 s4 s5 e1 hB hl8
          go_wp2_with fail
          refine Calls.mono HBe.out ?_
          rintro e w3 ⟨rfl, hg3⟩
          obtain ⟨bb, hbb⟩ : ∃ bb, w3.heap.size = bb := ⟨_, rfl⟩
          have HT : Hid ((w3.alloc (.cells #[.int .i64 0, .int .i64 0, .int .i64 0, .int .i64 0, .int .u64 0, .bool false] 33)).heap[bb]? = some (.cells #[.int .i64 0, .int .i64 0, .int .i64 0, .int .i64 0, .int .u64 0, .bool false] 33 (0, 0))) := by
            have h0 := alloc_at w3 (.cells #[.int .i64 0, .int .i64 0, .int .i64 0, .int .i64 0, .int .u64 0, .bool false] 33)
            rw [hbb] at h0
            exact h0
          have H3 : Hid (Bk w.heap.size w3 #[.int .i64 so, .int .i64 sd, .int .i64 sp, .int .u64 a] 27 ∧ Below w.heap.size w w3) := by
            have hne : some w.heap.size ≠ some p := fun e => by have := HP.out; injection e with e; omega
            exact ⟨HJ.out.2.2.2.2.2.1.kept (hg3.block _ HJ.out.2.2.2.2.2.1.lt hne), below_grown HJ.out.2.2.2.2.2.2 hg3 (by have := HP.out; omega)⟩
          have hT : Bk bb ((w3.alloc (.cells #[.int .i64 0, .int .i64 0, .int .i64 0, .int .i64 0, .int .u64 0, .bool false] 33)).setRow bb (bsL so sd D 4096 a true).toArray) (bsL so sd D 4096 a true).toArray 33 := setRow_heap _ _ _ _ _ _ HT.out
          have hb : w.heap.size < bb := by rw [← hbb]; exact H3.out.1.lt
          have hX : Bk w.heap.size ((w3.alloc (.cells #[.int .i64 0, .int .i64 0, .int .i64 0, .int .i64 0, .int .u64 0, .bool false] 33)).setRow bb (bsL so sd D 4096 a true).toArray) #[.int .i64 so, .int .i64 sd, .int .i64 sp, .int .u64 a] 27 := H3.out.1.kept ((setRow_other _ _ _ _ (by omega)).trans (((Below.refl w3.heap.size w3).alloc (Nat.le_refl _) _).block _ H3.out.1.lt))
          have HB : Hid (Below w.heap.size w ((w3.alloc (.cells #[.int .i64 0, .int .i64 0, .int .i64 0, .int .i64 0, .int .u64 0, .bool false] 33)).setRow bb (bsL so sd D 4096 a true).toArray)) := below_row (H3.out.2.alloc H3.out.2.size _) (Nat.le_of_lt hb) _
          have b0 : ((w3.alloc (.cells #[.int .i64 0, .int .i64 0, .int .i64 0, .int .i64 0, .int .u64 0, .bool false] 33)).setRow bb (bsL so sd D 4096 a true).toArray).cell? ⟨bb, 0, none⟩ = some (.int .i64 so) := hT.cell 0
          have b1 : ((w3.alloc (.cells #[.int .i64 0, .int .i64 0, .int .i64 0, .int .i64 0, .int .u64 0, .bool false] 33)).setRow bb (bsL so sd D 4096 a true).toArray).cell? ⟨bb, 1, none⟩ = some (.int .i64 sd) := hT.cell 1
          have b3 : ((w3.alloc (.cells #[.int .i64 0, .int .i64 0, .int .i64 0, .int .i64 0, .int .u64 0, .bool false] 33)).setRow bb (bsL so sd D 4096 a true).toArray).cell? ⟨bb, 3, none⟩ = some (.int .i64 4096) := hT.cell 3
          have b4 : ((w3.alloc (.cells #[.int .i64 0, .int .i64 0, .int .i64 0, .int .i64 0, .int .u64 0, .bool false] 33)).setRow bb (bsL so sd D 4096 a true).toArray).cell? ⟨bb, 4, none⟩ = some (.int .u64 a) := hT.cell 4
          have b5 : ((w3.alloc (.cells #[.int .i64 0, .int .i64 0, .int .i64 0, .int .i64 0, .int .u64 0, .bool false] 33)).setRow bb (bsL so sd D 4096 a true).toArray).cell? ⟨bb, 5, none⟩ = some (.bool true) := hT.cell 5
          have x0 : ((w3.alloc (.cells #[.int .i64 0, .int .i64 0, .int .i64 0, .int .i64 0, .int .u64 0, .bool false] 33)).setRow bb (bsL so sd D 4096 a true).toArray).cell? ⟨w.heap.size, 0, none⟩ = some (.int .i64 so) := hX.cell 0
          have x1 : ((w3.alloc (.cells #[.int .i64 0, .int .i64 0, .int .i64 0, .int .i64 0, .int .u64 0, .bool false] 33)).setRow bb (bsL so sd D 4096 a true).toArray).cell? ⟨w.heap.size, 1, none⟩ = some (.int .i64 sd) := hX.cell 1
          have x3 : ((w3.alloc (.cells #[.int .i64 0, .int .i64 0, .int .i64 0, .int .i64 0, .int .u64 0, .bool false] 33)).setRow bb (bsL so sd D 4096 a true).toArray).cell? ⟨w.heap.size, 3, none⟩ = some (.int .u64 a) := hX.cell 3
          clear hg3 HBe c0 c1 c3 hT hX hb
          go_wp2_with (refine step_stR (by rfl) _ _ rfl bb (bsL so sd D 4096 a true).toArray (by rfl) (by rfl) #[.int .i64 0, .int .i64 0, .int .i64 0, .int .i64 0, .int .u64 0, .bool false] (by kernel_rfl) (by rfl) (by kernel_rfl) HT.out ?_)
          rw [hQ.out]
          go_ret
          exact ⟨rfl, HB.out⟩
end Go.Proofs.Ytmjkdfjfjidekaa
