/- The reference's filter: Clear, Add, Grown. -/
import Derived.Test.YtgkjgkdlcmmpoaaFM
namespace Go.Proofs.Ytgkjgkdlcmmpoaa
open Go Go.RowKit Fi
/-- the reference's filter in block g, its samples from block B on -/
structure Rf (w : World) (g B : Nat) (xs : List Smp) (t : Bool) (la : Int) : Prop where
  lt : g < B
  le : B ≤ w.heap.size
  len : xs.length ≤ 8
  ex : ∃ v, Bk g w #[v, .bool t, .int .u64 la] 39 ∧ Sv4 w B v xs
theorem Rf.grown {w w' : World} {g B q : Nat} {xs : List Smp} {t : Bool} {la : Int} (h : Rf w g B xs t la) (hg : w.grownBy w' (some q)) (hq : q < B) (hne : g ≠ q) : Rf w' g B xs t la := by
  obtain ⟨h1, h2, h3, v, h4, h5⟩ := h
  exact ⟨h1, Nat.le_trans h2 hg.size, h3, v, h4.kept (hg.block _ h4.lt (fun e => hne (Option.some.inj e))), h5.grown hg hq⟩
theorem Rf.below {w w' : World} {g B C : Nat} {xs : List Smp} {t : Bool} {la : Int} (h : Rf w g B xs t la) (hb : Below C w w') (hC : w.heap.size ≤ C) : Rf w' g B xs t la := by
  obtain ⟨h1, h2, h3, v, h4, h5⟩ := h
  exact ⟨h1, Nat.le_trans h2 hb.size, h3, v, h4.kept (hb.block _ (by omega)), h5.below hb hC⟩
set_option maxHeartbeats 400000 in
theorem rclear_any {w : World} {g B : Nat} {xs : List Smp} {t : Bool} {la : Int} (h : Rf w g B xs t la) :
    Calls Try.prog 14 #[.pointer (some ⟨g, 0, none⟩)] w fun e w' => e = .returned (.tuple #[]) ∧ Rf w' g B [] false la ∧ w.grownBy w' (some g) := by
  obtain ⟨h1, h2, h3, v, h4, h5⟩ := h
  have c0 : w.cell? ⟨g, 0, none⟩ = some v := h4.cell 0
  have c1 : w.cell? ⟨g, 1, none⟩ = some (.bool t) := h4.cell 1
  have cf := h4.frozen
  have H : Hid (g < B ∧ B ≤ w.heap.size ∧ Bk g w #[v, .bool t, .int .u64 la] 39) := ⟨h1, h2, h4⟩
  clear h1 h2 h3 h4 h5
  go_enter Try.func14, Try.ntmps14
  go_wp2
  go_end0
  refine ⟨rfl, ⟨H.out.1, by simpa using H.out.2.1, by simp, .slice none 0 0, (H.out.2.2.set (j := 0) (.slice none 0 0)).set (j := 1) (.bool false), Sv4.nil _ _⟩, grownBy_trans (grownBy_set w ⟨g, 0, none⟩ _) (grownBy_set _ ⟨g, 1, none⟩ _)⟩
theorem o4_fresh (w : World) (B : Nat) (hB : B ≤ w.heap.size) : O4 (w.alloc (.cells #[] 27)) B (.slice (some ⟨w.heap.size, 0, none⟩) 0 0) [] := OR.fresh w B _ 4 hB
set_option maxRecDepth 20000 in
set_option maxHeartbeats 1000000 in
theorem rfadd_any {w : World} {g B : Nat} {xs : List Smp} {t : Bool} {la : Int} (s : Smp) (h : Rf w g B xs t la) :
    Calls Try.prog 11 #[.pointer (some ⟨g, 0, none⟩), .agg (smL s).toArray] w fun e w' => e = .returned (.tuple #[]) ∧ Rf w' g B (adS xs s) t la ∧ w.grownBy w' (some g) := by
  obtain ⟨h1, h2, h3, v, h4, h5⟩ := h
  have H : Hid (g < B ∧ B ≤ w.heap.size ∧ xs.length ≤ 8 ∧ Bk g w #[v, .bool t, .int .u64 la] 39 ∧ Sv4 w B v xs) := ⟨h1, h2, h3, h4, h5⟩
  clear h1 h2 h3 h4 h5
  obtain ⟨so, sd, sp, sa⟩ := s
  unfold smL
  simp only
  go_enter Try.func11, Try.ntmps11
  refine post_hid fun Q hQ => ?_
  refine seq_hid fun R hR => ?_
  go_wp2
  refine world_hid fun W0 hW0 => ?_
  have HW0 : Hid (Bk w.heap.size W0 (smL ⟨so, sd, sp, sa⟩).toArray 27 ∧ Below w.heap.size w W0) := by
    refine ⟨?_, ?_⟩
    · rw [hW0.out]; exact Bk.new _ _ _
    · rw [hW0.out]; exact (Below.refl _ _).alloc (Nat.le_refl _) _
  clear hW0
  rw [hR.out]
  clear hR
  refine seq_hid fun R hR => ?_
  go_wp2
  refine world_hid fun W1 hW1 => ?_
  obtain ⟨lb, hlb⟩ : ∃ lb, lb = W0.heap.size := ⟨_, rfl⟩
  rw [← hlb]
  have HW1 : Hid (O4 W1 w.heap.size (.slice (some ⟨lb, 0, none⟩) 0 0) [] ∧ Bk w.heap.size W1 (smL ⟨so, sd, sp, sa⟩).toArray 27 ∧ Below w.heap.size w W1) := by
    refine ⟨?_, ?_, ?_⟩
    · rw [hW1.out, hlb]; exact o4_fresh W0 _ HW0.out.2.size
    · rw [hW1.out]; exact HW0.out.1.kept (((Below.refl W0.heap.size W0).alloc (Nat.le_refl _) _).block _ HW0.out.1.lt)
    · rw [hW1.out]; exact HW0.out.2.alloc HW0.out.2.size _
  clear hW1 HW0 hlb
  rw [hR.out]
  clear hR
  refine seq_hid fun R hR => ?_
  have HC : Hid (∀ j u, ([.int .i64 so, .int .i64 sd, .int .i64 sp, .int .u64 sa] : List Value)[j]? = some u → W1.cell? ((⟨w.heap.size, 0, none⟩ : Addr).add j) = some u) := cells_of (l := [.int .i64 so, .int .i64 sd, .int .i64 sp, .int .u64 sa]) HW1.out.2.1
  obtain ⟨v1, w2, hr1, ho1, hb1⟩ := run_app4 (W1.alloc (.cells (smL ⟨so, sd, sp, sa⟩).toArray 27)) w.heap.size _ _ _ _ _ (HW1.out.1.alloc _) (sv_one W1 ⟨so, sd, sp, sa⟩) (by simp) (by have := HW1.out.2.2.size; simp; omega)
  have HR1 : Hid ((Builtin.append_ #[22, 22] 22 #[.slice (some ⟨lb, 0, none⟩) 0 0, .slice (some ⟨W1.heap.size, 0, none⟩) 1 1]).run Try.prog (W1.alloc (.cells #[.int .i64 so, .int .i64 sd, .int .i64 sp, .int .u64 sa] 27)) = .ok v1 w2) := hr1
  have HO1 : Hid (O4 w2 w.heap.size v1 [⟨so, sd, sp, sa⟩] ∧ Below w.heap.size w w2) := ⟨ho1, (HW1.out.2.2.alloc HW1.out.2.2.size _).trans hb1⟩
  clear hr1 ho1 hb1
  go_wp2_with (first | (refine step_ldat 27 _ rfl rfl ⟨w.heap.size, 0, none⟩ (by rfl) [.int .i64 so, .int .i64 sd, .int .i64 sp, .int .u64 sa] _ Try.underlying27 rfl (by kernel_rfl) HC.out ?_) | (at_builtin; refine wpList_app4 rfl _ _ rfl rfl _ _ _ (by rfl) (by rfl) HR1.out ?_))
  have hBg : Bk g w2 #[v, .bool t, .int .u64 la] 39 := H.out.2.2.2.1.kept (HO1.out.2.block _ (by have := H.out.1; have := H.out.2.1; omega))
  have d0 : w2.cell? ⟨g, 0, none⟩ = some v := hBg.cell 0
  obtain ⟨v2, w3, hr2, ho2, hb2⟩ := run_app4 w2 w.heap.size B v1 v _ _ HO1.out.1 (H.out.2.2.2.2.below HO1.out.2 (Nat.le_refl _)) (by have := H.out.2.2.1; simp; omega) HO1.out.2.size
  have HR2 : Hid _ := hr2
  have HO2 : Hid (O4 w3 w.heap.size v2 (⟨so, sd, sp, sa⟩ :: xs) ∧ Below w.heap.size w w3) := ⟨ho2, HO1.out.2.trans hb2⟩
  clear hr2 ho2 hb2 hBg
  rw [hR.out]
  clear hR
  refine seq_hid fun R hR => ?_
  go_wp2_with (at_builtin; refine wpList_app4 rfl _ _ rfl rfl _ _ _ (by rfl) (by rfl) HR2.out ?_)
  have hBg : Bk g w3 #[v, .bool t, .int .u64 la] 39 := H.out.2.2.2.1.kept (HO2.out.2.block _ (by have := H.out.1; have := H.out.2.1; omega))
  have e0 : w3.cell? ⟨g, 0, none⟩ = some v := hBg.cell 0
  have ef := hBg.frozen
  have hlen := HO2.out.1.sv.len
  obtain ⟨n, hn⟩ : ∃ n, n = (({ o := so, d := sd, p := sp, a := sa } : Smp) :: xs).length := ⟨_, rfl⟩
  rw [← hn] at hlen
  obtain ⟨m, hm⟩ : ∃ m, m = min n 8 := ⟨_, rfl⟩
  have m3 : ∀ u, (Builtin.min_ #[3, 3] 3 #[.int .i64 (n : Int), .int .i64 8]).run Try.prog u = .ok (.int .i64 (m : Int)) u := fun u => by
    have : (Builtin.min_ #[3, 3] 3 #[.int .i64 (n : Int), .int .i64 8]).run Try.prog u = .ok (.int .i64 (if (8 : Int) < (n : Int) then 8 else (n : Int))) u := by simp [go_sem]
    rw [this, hm]; congr 2; split <;> omega
  obtain ⟨v3, hsl, hs3⟩ := HO2.out.1.sv.take m (by omega)
  have hs3 : Sv4 w3 B v3 (adS xs ⟨so, sd, sp, sa⟩) := by
    have e : (({ o := so, d := sd, p := sp, a := sa } : Smp) :: xs).take m = adS xs ⟨so, sd, sp, sa⟩ := by
      unfold adS
      rw [hm, hn, List.take_eq_take_iff]
      omega
    rw [e] at hs3
    exact hs3.mono H.out.2.1
  obtain ⟨ao3, n3, cap3, rfl⟩ : ∃ ao n cap, v3 = .slice ao n cap := by obtain ⟨ao, cap, e, _⟩ := hs3.ex; exact ⟨ao, _, cap, e⟩
  have HE : Hid (Sv4 w3 B (.slice ao3 n3 cap3) (adS xs ⟨so, sd, sp, sa⟩) ∧ Bk g w3 #[v, .bool t, .int .u64 la] 39) := ⟨hs3, hBg⟩
  clear hn hm hs3 hBg d0
  rw [hR.out, hQ.out]
  clear hR hQ
  go_wp2
  go_end0
  have hg : w.grownBy (w3.setCell ⟨g, 0, none⟩ (.slice ao3 n3 cap3)) (some g) := grownBy_trans (grownBy_below HO2.out.2 _) (grownBy_set w3 ⟨g, 0, none⟩ (.slice ao3 n3 cap3))
  refine ⟨rfl, ⟨H.out.1, Nat.le_trans H.out.2.1 hg.size, by rw [adS_len _ _ H.out.2.2.1]; omega, (.slice ao3 n3 cap3), HE.out.2.set (j := 0) (.slice ao3 n3 cap3), HE.out.1.grown (grownBy_set w3 ⟨g, 0, none⟩ (.slice ao3 n3 cap3)) H.out.1⟩, hg⟩
end Go.Proofs.Ytgkjgkdlcmmpoaa
