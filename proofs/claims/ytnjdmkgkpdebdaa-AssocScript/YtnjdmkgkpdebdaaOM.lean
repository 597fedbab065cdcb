/- assoc: the reference's Mobilise. -/
import Derived.Test.YtnjdmkgkpdebdaaOJ
namespace Go.Proofs.Ytnjdmkgkpdebdaa
open Go Go.RowKit Go.Sort
set_option linter.unusedVariables false
def rmA (l : List Mb) (act par poll key frm : Int) : Option (As × Int) :=
  if act = 3 then some (tdA poll key frm 7, 0) else if act = 4 then some (tdA poll key frm 8, 0) else if act = 5 then match idM par l with
    | none => none
    | some m => if srB m.ac = true then some (fdA m.ac frm, par) else none
  else none
def rmN (l : List Mb) (act par poll key frm : Int) (F : Nat) : Int := match rmA l act par poll key frm with
  | none => 0
  | some (a, p) => raN l a p F
def rmE (l : List Mb) (act par poll key frm : Int) : Int := match rmA l act par poll key frm with
  | none => if act = 5 then 121 else 1
  | some (a, p) => raE l a p
def rmR (l : List Mb) (act par poll key frm now : Int) (F : Nat) : List Mb := match rmA l act par poll key frm with
  | none => l
  | some (a, p) => raR l a p now F
theorem run_bdA (frm key mp : Int) (u : World) : (Instr.build 41 #[(1, .int .u32 frm), (2, .int .i64 key), (3, .int .i64 mp), (4, .int .i64 10)]).run Try.prog u = .ok (.agg (asL ⟨0, frm, key, mp, 10, false, false, false, 0, false, 0, 0⟩).toArray) u := by kernel_rfl
set_option maxRecDepth 40000 in
set_option maxHeartbeats 4000000 in
theorem rmobilise_any (d B : Nat) (l : List Mb) (pk : List Value) (act par mode poll key frm now : Int) (F : Nat) (w : World) (h : Rt w d B l) (hB : B ≤ w.heap.size) (hp : Pf pk mode poll key) (hn : -9223372036854775808 ≤ now) (hF : ∀ a p, raE l a p = 0 → Lf l F) : Calls Try.prog 33 #[.pointer (some ⟨d, 0, none⟩), .int .i64 act, .int .i64 par, .agg pk.toArray, .int .u32 frm, .int .i64 now] w fun e w' => e = .returned (.tuple #[.int .i64 (rmN l act par poll key frm F), .int .i64 (rmE l act par poll key frm)]) ∧ Rt w' d B (rmR l act par poll key frm now F) ∧ w.grownBy w' (some d) := by
  have HT : Hid (Rt w d B l ∧ B ≤ w.heap.size ∧ Pf pk mode poll key ∧ ∀ a p, raE l a p = 0 → Lf l F) := ⟨h, hB, hp, hF⟩
  clear h hB hp hF
  have mx := run_mx
  have mn := run_mn
  unfold rmN rmE rmR
  go_enter Try.func33, Try.ntmps33
  refine post_hid fun Q hQ => ?_
  refine seq_hid fun R hR => ?_
  go_wp2_with (refine step_boxL (by rfl) 47 _ rfl pk.toArray (by rfl) (fun u => by rfl) ?_; intro W g HW)
  rw [hR.out]
  clear hR
  have H1 : Hid (Rt W d B l ∧ Below w.heap.size w W) := ⟨HT.out.1.below HW.out.be, HW.out.be⟩
  by_cases h3 : act = 3 ∨ act = 4 ∨ act = 5
  · have hlo : ¬ act < 3 := by omega
    have hhi : ¬ 5 < act := by omega
    have p4 : W.cell? ⟨g, 4, none⟩ = some (.int .i64 poll) := by rw [HW.out.bk.cell 4, List.getElem?_toArray]; exact HT.out.2.2.1.poll
    have p14 : W.cell? ⟨g, 14, none⟩ = some (.int .i64 key) := by rw [HW.out.bk.cell 14, List.getElem?_toArray]; exact HT.out.2.2.1.key
    obtain ⟨mp, hmp⟩ : ∃ mp, max 3 (min 10 poll) = mp := ⟨_, rfl⟩
    have HMp : Hid (min (max poll 3) 10 = mp) := by show _ = _; rw [← hmp]; omega
    clear HW
    go_upto_region 4 with (first
      | (refine step_bdL (by rfl) 41 [(1, .tmp 23), (2, .tmp 25), (3, .tmp 29), (4, .const (.int .i64 10))] rfl [(1, .int .u32 frm), (2, .int .i64 key), (3, .int .i64 mp), (4, .int .i64 10)] (by first | rfl | (rw [← hmp]; rfl)) (.agg (asL ⟨0, frm, key, mp, 10, false, false, false, 0, false, 0, 0⟩).toArray) (run_bdA frm key mp _) ?_)
      | (refine step_alL (by rfl) 41 rfl (asL zAs).toArray (fun u => by kernel_rfl) ?_; intro w3 ga H3)
      | (refine step_stL (by rfl) _ _ rfl ga (asL ⟨0, frm, key, mp, 10, false, false, false, 0, false, 0, 0⟩).toArray (by rfl) (by rfl) (asL zAs).toArray (by kernel_rfl) (by kernel_rfl) (by kernel_rfl) H3.out.bk ?_; intro w4 H4))
    have H5 : Hid (Rt w4 d B l ∧ Below w.heap.size w w4 ∧ Bk ga w4 (asL ⟨0, frm, key, mp, 10, false, false, false, 0, false, 0, 0⟩).toArray 41 ∧ w.heap.size ≤ ga ∧ ga ≠ d) := by
      have hb := H4.out.below H3.out.be H3.out.be.size (Nat.le_of_eq H3.out.at'.symm)
      obtain ⟨v, hd, _⟩ := H1.out.1.ex
      have := hd.lt
      have e := H3.out.at'
      exact ⟨H1.out.1.below hb, below_thru H1.out.2 hb, H4.out.bk, by rw [e]; exact H1.out.2.size, by omega⟩
    clear H1 H3 H4 p4 p14 hlo hhi mx mn hmp
    -- Add at last
    have AD : Hid (∀ u a p, Below w.heap.size w u → Rt u d B l → Calls Try.prog 24 #[.pointer (some ⟨d, 0, none⟩), .agg (asL a).toArray, .int .i64 p, .int .i64 now] u fun e w' => e = .returned (.tuple #[.int .i64 (raN l a p F), .int .i64 (raE l a p)]) ∧ Rt w' d B (raR l a p now F) ∧ w.grownBy w' (some d)) := fun u a p hu ht => by
      refine (radd_any d B l a p now F u ht (Nat.le_trans HT.out.2.1 hu.size) hn (HT.out.2.2.2 a p)).mono ?_
      rintro e w' ⟨k1, k2, k3⟩
      exact ⟨k1, k2, grownBy_trans (grownBy_below hu _) k3⟩
    rcases h3 with rfl | rfl | rfl
    · have HM : Hid (rmA l 3 par poll key frm = some (⟨7, frm, key, mp, 10, false, false, false, 0, false, 0, 0⟩, 0)) := by show _ = _; unfold rmA tdA; rw [if_pos rfl, HMp.out]
      go_wp2_with (first
        | (refine step_st1 (by rfl) _ _ rfl ga 0 (.int .i64 7) (by rfl) (by rfl) rfl (by kernel_rfl) rfl (asL ⟨0, frm, key, mp, 10, false, false, false, 0, false, 0, 0⟩) (by simp [asL]) H5.out.2.2.1 ?_; intro w6 H6; have H7 : Hid (Below w.heap.size w w6 ∧ Rt w6 d B l ∧ Bk ga w6 (asL ⟨7, frm, key, mp, 10, false, false, false, 0, false, 0, 0⟩).toArray 41) := ⟨H6.out.below H5.out.2.1 H5.out.2.1.size H5.out.2.2.2.1, HT.out.1.below (H6.out.below H5.out.2.1 H5.out.2.1.size H5.out.2.2.2.1), H6.out.bk⟩)
        | (refine step_ldat 41 _ rfl rfl ⟨ga, 0, none⟩ (by rfl) (asL ⟨7, frm, key, mp, 10, false, false, false, 0, false, 0, 0⟩) _ Try.underlying41 rfl (by kernel_rfl) (cells_of (l := asL ⟨7, frm, key, mp, 10, false, false, false, 0, false, 0, 0⟩) H7.out.2.2) ?_)
        | (go_at_call 24; refine (AD.out w6 _ 0 H7.out.1 H7.out.2.1).mono ?_; rintro e w7 ⟨rfl, h8⟩; have H8 : Hid _ := h8; clear h8))
      rw [hQ.out]
      go_ret2
      rw [HM.out]
      exact ⟨rfl, H8.out⟩
    · have HM : Hid (rmA l 4 par poll key frm = some (⟨8, frm, key, mp, 10, false, false, false, 0, false, 0, 0⟩, 0)) := by show _ = _; unfold rmA tdA; rw [if_neg (by decide), if_pos rfl, HMp.out]
      go_wp2_with (first
        | (refine step_st1 (by rfl) _ _ rfl ga 0 (.int .i64 8) (by rfl) (by rfl) rfl (by kernel_rfl) rfl (asL ⟨0, frm, key, mp, 10, false, false, false, 0, false, 0, 0⟩) (by simp [asL]) H5.out.2.2.1 ?_; intro w6 H6; have H7 : Hid (Below w.heap.size w w6 ∧ Rt w6 d B l ∧ Bk ga w6 (asL ⟨8, frm, key, mp, 10, false, false, false, 0, false, 0, 0⟩).toArray 41) := ⟨H6.out.below H5.out.2.1 H5.out.2.1.size H5.out.2.2.2.1, HT.out.1.below (H6.out.below H5.out.2.1 H5.out.2.1.size H5.out.2.2.2.1), H6.out.bk⟩)
        | (refine step_ldat 41 _ rfl rfl ⟨ga, 0, none⟩ (by rfl) (asL ⟨8, frm, key, mp, 10, false, false, false, 0, false, 0, 0⟩) _ Try.underlying41 rfl (by kernel_rfl) (cells_of (l := asL ⟨8, frm, key, mp, 10, false, false, false, 0, false, 0, 0⟩) H7.out.2.2) ?_)
        | (go_at_call 24; refine (AD.out w6 _ 0 H7.out.1 H7.out.2.1).mono ?_; rintro e w7 ⟨rfl, h8⟩; have H8 : Hid _ := h8; clear h8))
      rw [hQ.out]
      go_ret2
      rw [HM.out]
      exact ⟨rfl, H8.out⟩
    · obtain ⟨y, hy⟩ : ∃ y, (idM par l).getD zMb = y := ⟨_, rfl⟩
      obtain ⟨is, his⟩ : ∃ i, (idM par l).isSome = i := ⟨_, rfl⟩
      have CG : Hid (Calls Try.prog 54 #[.pointer (some ⟨d, 0, none⟩), .int .i64 par] w4 fun e w' => e = .returned (.tuple #[.agg (enL y).toArray, .bool is]) ∧ Below w4.heap.size w4 w') := by rw [← hy, ← his]; exact rget_any d B l par w4 H5.out.1
      have HY : Hid ((idM par l).getD zMb = y ∧ (idM par l).isSome = is) := ⟨hy, his⟩
      clear hy his
      go_upto_region 6 with (first
        | (go_at_call 54; refine CG.out.mono ?_; rintro e w5 ⟨rfl, hb5⟩)
        | (refine step_alL (by rfl) 81 rfl (enL zMb).toArray (fun u => by kernel_rfl) ?_; intro w6 ge H6)
        | (refine step_stL (by rfl) _ _ rfl ge (enL y).toArray (by rfl) (by rfl) (enL zMb).toArray (by kernel_rfl) (by kernel_rfl) (by kernel_rfl) H6.out.bk ?_; intro w7 H7))
      have H8 : Hid (Below w.heap.size w w7 ∧ Bk ga w7 (asL ⟨0, frm, key, mp, 10, false, false, false, 0, false, 0, 0⟩).toArray 41 ∧ Bk ge w7 (enL y).toArray 81 ∧ w.heap.size ≤ ga ∧ ga < ge) := by
        have hb := below_thru hb5 (H7.out.below H6.out.be H6.out.be.size (Nat.le_of_eq H6.out.at'.symm))
        have e := H6.out.at'
        have l1 := H5.out.2.2.1.lt
        have l2 := hb5.size
        exact ⟨below_thru H5.out.2.1 hb, H5.out.2.2.1.kept (hb.block _ l1), H7.out.bk, H5.out.2.2.2.1, by omega⟩
      clear H5 H6 H7 hb5 CG
      have e1 : w7.cell? ⟨ge, 1, none⟩ = some (.int .i64 y.ac.kind) := H8.out.2.2.1.cell 1
      by_cases hs : is = true ∧ srB y.ac = true
      · obtain ⟨rfl, hb⟩ := hs
        have HM : Hid (rmA l 5 par poll key frm = some (⟨9, frm, y.ac.key, y.ac.minp, y.ac.maxp, false, true, false, 0, false, 0, 0⟩, par)) := by
          show _ = _
          have h1 := HY.out.1
          have h2 := HY.out.2
          unfold rmA
          rw [if_neg (by decide), if_neg (by decide), if_pos rfl]
          cases hm : idM par l with
          | none => rw [hm] at h2; cases h2
          | some m =>
            rw [hm] at h1
            have h3 : m = y := h1
            subst h3
            simp only
            rw [if_pos hb]
            rfl
        have hk : y.ac.kind = 4 ∨ y.ac.kind = 5 := by unfold srB at hb; simpa using hb
        have e3 : w7.cell? ⟨ge, 3, none⟩ = some (.int .i64 y.ac.key) := H8.out.2.2.1.cell 3
        have e4 : w7.cell? ⟨ge, 4, none⟩ = some (.int .i64 y.ac.minp) := H8.out.2.2.1.cell 4
        have e5 : w7.cell? ⟨ge, 5, none⟩ = some (.int .i64 y.ac.maxp) := H8.out.2.2.1.cell 5
        clear hb
        rcases hk with hk | hk <;> rw [hk] at e1 <;> clear hk
        all_goals
          go_upto_region 9 with (first
            | (refine step_st1 (by rfl) _ _ rfl ga 0 (.int .i64 9) (by rfl) (by rfl) rfl (by kernel_rfl) rfl (asL ⟨0, frm, key, mp, 10, false, false, false, 0, false, 0, 0⟩) (by simp [asL]) H8.out.2.1 ?_; intro w8 H9)
            | (refine step_st1 (by rfl) _ _ rfl ga 6 (.bool true) (by rfl) (by rfl) rfl (by kernel_rfl) rfl (asL ⟨9, frm, key, mp, 10, false, false, false, 0, false, 0, 0⟩) (by simp [asL]) H9.out.bk ?_; intro w9 H10))
          have H11 : Hid (Below w.heap.size w w9 ∧ Bk ga w9 (asL ⟨9, frm, key, mp, 10, false, true, false, 0, false, 0, 0⟩).toArray 41 ∧ Bk ge w9 (enL y).toArray 81 ∧ w.heap.size ≤ ga ∧ ga < ge) := by
            have hb1 := H9.out.below H8.out.1 H8.out.1.size H8.out.2.2.2.1
            have hne : ge ≠ ga := by have := H8.out.2.2.2.2; omega
            exact ⟨H10.out.below hb1 hb1.size H8.out.2.2.2.1, H10.out.bk, H10.out.other (H9.out.other H8.out.2.2.1 hne) hne, H8.out.2.2.2⟩
          clear H8 H9 H10 e1 e3 e4 e5
          have e3 : w9.cell? ⟨ge, 3, none⟩ = some (.int .i64 y.ac.key) := H11.out.2.2.1.cell 3
          have e4 : w9.cell? ⟨ge, 4, none⟩ = some (.int .i64 y.ac.minp) := H11.out.2.2.1.cell 4
          have e5 : w9.cell? ⟨ge, 5, none⟩ = some (.int .i64 y.ac.maxp) := H11.out.2.2.1.cell 5
          have a2 : w9.cell? ⟨ga, 2, none⟩ = some (.int .i64 key) := H11.out.2.1.cell 2
          have a3 : w9.cell? ⟨ga, 3, none⟩ = some (.int .i64 mp) := H11.out.2.1.cell 3
          have a4 : w9.cell? ⟨ga, 4, none⟩ = some (.int .i64 10) := H11.out.2.1.cell 4
          have f2 : w9.frozen? ⟨ga, 2, none⟩ = false := H11.out.2.1.frozen 2
          have f3 : w9.frozen? ⟨ga, 3, none⟩ = false := H11.out.2.1.frozen 3
          have f4 : w9.frozen? ⟨ga, 4, none⟩ = false := H11.out.2.1.frozen 4
          have hne : ¬ ga = ge := by have := H11.out.2.2.2.2; omega
          have hne2 : ¬ ge = ga := by have := H11.out.2.2.2.2; omega
          go_region_held3 (fun w' => w'.cell? ⟨ge, 3, none⟩ = some (.int .i64 y.ac.key) ∧ w'.cell? ⟨ge, 4, none⟩ = some (.int .i64 y.ac.minp) ∧ w'.cell? ⟨ge, 5, none⟩ = some (.int .i64 y.ac.maxp)) (first | exact ⟨e3, e4, e5⟩ | go_keep) (fail)
          rename_i KK hKK hSS
          clear hSS
          refine hKK _ _ ?_
          clear hKK
          refine world_hid fun W10 hW => ?_
          have H12 : Hid (Below w.heap.size w W10 ∧ Bk ga W10 (asL ⟨9, frm, y.ac.key, y.ac.minp, y.ac.maxp, false, true, false, 0, false, 0, 0⟩).toArray 41) := by
            rw [hW.out]
            have g1 := grownBy_trans (grownBy_trans (grownBy_set w9 ⟨ga, 2, none⟩ (.int .i64 y.ac.key)) (grownBy_set _ ⟨ga, 3, none⟩ (.int .i64 y.ac.minp))) (grownBy_set _ ⟨ga, 4, none⟩ (.int .i64 y.ac.maxp))
            refine ⟨below_drew (below_own' H11.out.1 g1 H11.out.2.2.2.1), ?_⟩
            exact ((H11.out.2.1.set (j := 2) (.int .i64 y.ac.key)).set (j := 3) (.int .i64 y.ac.minp)).set (j := 4) (.int .i64 y.ac.maxp)
          clear hW H11 e3 e4 e5 a2 a3 a4 f2 f3 f4
          go_wp2_with (first
            | (refine step_ldat 41 _ rfl rfl ⟨ga, 0, none⟩ (by rfl) (asL ⟨9, frm, y.ac.key, y.ac.minp, y.ac.maxp, false, true, false, 0, false, 0, 0⟩) _ Try.underlying41 rfl (by kernel_rfl) (cells_of (l := asL ⟨9, frm, y.ac.key, y.ac.minp, y.ac.maxp, false, true, false, 0, false, 0, 0⟩) H12.out.2) ?_)
            | (go_at_call 24; refine (AD.out W10 _ par H12.out.1 (HT.out.1.below H12.out.1)).mono ?_; rintro e w11 ⟨rfl, h13⟩; have H13 : Hid _ := h13; clear h13))
          rw [hQ.out]
          go_ret2
          rw [HM.out]
          exact ⟨rfl, H13.out⟩
      · have hcs : is = false ∨ (is = true ∧ y.ac.kind ≠ 4 ∧ y.ac.kind ≠ 5) := by
          cases is
          · exact .inl rfl
          · refine .inr ⟨rfl, fun h => hs ⟨rfl, by unfold srB; simp [h]⟩, fun h => hs ⟨rfl, by unfold srB; simp [h]⟩⟩
        have HM : Hid (rmA l 5 par poll key frm = none) := by
          show _ = _
          have h1 := HY.out.1
          have h2 := HY.out.2
          unfold rmA
          rw [if_neg (by decide), if_neg (by decide), if_pos rfl]
          cases hm : idM par l with
          | none => rfl
          | some m =>
            rw [hm] at h1 h2
            have h3 : m = y := h1
            subst h3
            simp only
            rw [if_neg (fun hh => hs ⟨h2.symm, hh⟩)]
        clear hs
        rcases hcs with rfl | ⟨rfl, k4, k5⟩
        · go_wp2_with fail
          rw [hQ.out]
          go_ret2
          rw [HM.out]
          exact ⟨rfl, HT.out.1.below H8.out.1, grownBy_below H8.out.1 _⟩
        · have k41 : (y.ac.kind == 4) = false := by simpa using k4
          have k51 : (y.ac.kind == 5) = false := by simpa using k5
          have k42 : (y.ac.kind != 4) = true := by simpa using k4
          have k52 : (y.ac.kind != 5) = true := by simpa using k5
          go_wp2_with fail
          rw [hQ.out]
          go_ret2
          rw [HM.out]
          exact ⟨rfl, HT.out.1.below H8.out.1, grownBy_below H8.out.1 _⟩
  · have HM : Hid (rmA l act par poll key frm = none) := by show _ = _; unfold rmA; rw [if_neg (by omega), if_neg (by omega), if_neg (by omega)]
    have HN5 : Hid (¬ act = 5) := by show ¬ _; omega
    have hcs : act < 3 ∨ (¬ act < 3 ∧ 5 < act) := by omega
    clear h3
    rcases hcs with hc | ⟨hc, hc2⟩
    all_goals
      go_wp2_with fail
      rw [hQ.out]
      go_ret2
      rw [HM.out]
      exact ⟨by simp only [if_neg HN5.out]; rfl, H1.out.1, grownBy_below H1.out.2 _⟩
end Go.Proofs.Ytnjdmkgkpdebdaa
