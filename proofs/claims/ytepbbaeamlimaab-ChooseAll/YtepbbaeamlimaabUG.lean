/- choose: Ends. -/
import Derived.Test.YtepbbaeamlimaabUE
namespace Go.Proofs.Ytepbbaeamlimaab
open Go Go.RowKit Go.Sort Ch Pu
set_option linter.unusedVariables false
theorem srt_nil : srt [] = [] := List.length_eq_zero_iff.1 (by rw [srt_len]; rfl)
theorem cells7 {w : World} {g : Nat} {ci co cd cj cs : Int} {cp cu : Bool} (h : Bk g w (cnL ⟨ci, co, cd, cj, cs, cp, cu⟩).toArray 25) : w.cell? ⟨g, 0, none⟩ = some (.int .i64 ci) ∧ w.cell? ⟨g, 1, none⟩ = some (.int .i64 co) ∧ w.cell? ⟨g, 2, none⟩ = some (.int .i64 cd) ∧ w.cell? ⟨g, 3, none⟩ = some (.int .i64 cj) ∧ w.cell? ⟨g, 4, none⟩ = some (.int .i64 cs) ∧ w.cell? ⟨g, 5, none⟩ = some (.bool cp) ∧ w.cell? ⟨g, 6, none⟩ = some (.bool cu) :=
  ⟨h.cell 0, h.cell 1, h.cell 2, h.cell 3, h.cell 4, h.cell 5, h.cell 6⟩
theorem rk3 (w : World) (x y z : Value) (e : TypeId) : Rk (w.heap.size + 1) (w.alloc (.cells #[x, y, z] e)) 1 (.slice (some ⟨w.heap.size, 0, none⟩) 3 3) [[x], [y], [z]] := by
  refine ⟨some ⟨w.heap.size, 0, none⟩, 3, rfl, Nat.le_refl _, fun i hi => ⟨_, rfl, by simp, fun j u hu => ?_⟩⟩
  have hb : Bk w.heap.size (w.alloc (.cells #[x, y, z] e)) #[x, y, z] e := Bk.new _ _ _
  rw [add_own, hb.cell]
  have hi3 : i < 3 := hi
  rcases (show i = 0 ∨ i = 1 ∨ i = 2 by omega) with rfl | rfl | rfl
  all_goals
    cases j with
    | zero => exact hu
    | succ j => cases hu
/-- in the middle of a candidate's ends -/
structure Mid (w0 w : World) (B : Nat) (v : Value) (rows : List (List Value)) (g : Nat) (c : Cn) : Prop where
  ow : OR w B 41 1 v rows
  be : Below B w0 w
  bk : Bk g w (cnL c).toArray 25
  ne : ∀ b, v.ownBlock = some b → b ≠ g
theorem Mid.next {w0 w w' : World} {B : Nat} {v : Value} {rows : List (List Value)} {g : Nat} {c : Cn} (h : Mid w0 w B v rows g c) (hb : Below w.heap.size w w') (hB : B ≤ w.heap.size) : Mid w0 w' B v rows g c :=
  ⟨h.ow.below hb (Nat.le_refl _), h.be.trans (hb.mono hB), h.bk.kept (hb.block _ h.bk.lt), h.ne⟩
theorem below_of_drew {w w' : World} (h : Below w.heap.size w.drew w') : Below w.heap.size w w' := ((Below.refl _ _).drew).trans h
set_option maxRecDepth 20000 in
set_option maxHeartbeats 2000000 in
theorem ends_any (v : Value) (l : List Cn) (w : World) (N : Nat) (h : Rk N w 7 v (l.map cnL)) (hN : N ≤ w.heap.size) (hl : l.length ≤ 1000000) : Calls Try.prog 9 #[v] w fun e w' => ∃ u, e = .returned u ∧ Hid (OR w' w.heap.size 41 1 u (enR (E l))) ∧ Hid (Below w.heap.size w w') := by
  have HC : Hid (Calls Try.prog 13 #[v] w fun e w' => ∃ u, e = .returned u ∧ Hid (OR w' w.heap.size 25 7 u ((th l).map cnL)) ∧ Hid (Below w.heap.size w w')) := counting_any v l w N h hN hl
  clear h hN hl
  obtain ⟨T, hT⟩ : ∃ T, th l = T := ⟨_, rfl⟩
  have HT : Hid (E l = srt (raw T) ∧ T.length ≤ 64 ∧ ∀ c ∈ T, ct c = true) := ⟨by unfold E; rw [hT], by rw [← hT]; exact th_len l, fun c hc => by rw [← hT] at hc; exact th_ct hc⟩
  rw [hT] at HC
  clear hT
  obtain ⟨m, hm⟩ : ∃ m, T.length = m := ⟨_, rfl⟩
  have HM : Hid (T.length = m) := hm
  have hm64 : (m : Int) ≤ 64 := by have := HT.out.2.1; omega
  clear hm
  go_enter Try.func9, Try.ntmps9
  refine post_hid fun Q hQ => ?_
  go_wp2_with (go_at_call 13; refine HC.out.mono ?_; rintro e w1 ⟨u1, rfl, H1, H2⟩; obtain ⟨ao, cap, hu1⟩ := or_len H1.out; rw [List.length_map, HM.out] at hu1; subst hu1)
  obtain ⟨ao', cap', hv', hcap', hr⟩ := cands_read H1.out.rk
  rw [HM.out] at hv'
  obtain ⟨rfl, rfl⟩ : ao = ao' ∧ cap = cap' := by injection hv' with a b c; exact ⟨a, c⟩
  have HR : Hid (∀ w', Below w1.heap.size w1 w' → ∀ (i : Nat) c, T[i]? = some c → ∃ ad, ao = some ad ∧ ∀ j u, (cnL c)[j]? = some u → w'.cell? ((ad.add (i * 7)).add j) = some u) := fun w' hb i c hc => by
    obtain ⟨ad, h1, _, h2⟩ := hr w' (below_cells hb (Nat.le_refl _)) i c hc
    exact ⟨ad, h1, h2⟩
  clear hr hv' hcap'
  go_loopw [3, 9] (fun v3 i wr => ∃ (k : Nat), i = .int .i64 k ∧ (k : Int) ≤ m ∧ Hid (OR wr w1.heap.size 41 1 v3 (enR (raw (T.take k))) ∧ Below w1.heap.size w1 wr)) (fun _ i _ => m - (intOf i).toNat)
  case atStart => exact ⟨0, rfl, by omega, ⟨OR.nil _ _ _ _, Below.refl _ _⟩⟩
  case round =>
    obtain ⟨k, rfl, hk, HB⟩ := hrel
    obtain ⟨v3, hv3⟩ : ∃ v3, v3 = u3 := ⟨_, rfl⟩
    subst hv3
    by_cases hlt : (k : Int) < m
    · have hkl : k < T.length := by rw [HM.out]; omega
      obtain ⟨c, hc⟩ : ∃ c, T[k]? = some c := ⟨_, List.getElem?_eq_getElem hkl⟩
      obtain ⟨ad, g1, g3⟩ := HR.out wr HB.out.2 k c hc
      have hix := ix_C m cap k g1 hlt
      have HS : Hid (∀ j u, (cnL c)[j]? = some u → wr.cell? ((ad.add (k * 7)).add j) = some u) := g3
      have HK : Hid (raw (T.take (k + 1)) = raw (T.take k) ++ en c ∧ ct c = true) := ⟨by rw [take_snoc hc, raw_snoc], HT.out.2.2 c (List.mem_of_getElem? hc)⟩
      have HLn : Hid ((enR (raw (T.take k))).length ≤ 192) := by
        show _ ≤ _
        rw [enR_len, raw_len, List.length_take]
        have := HT.out.2.1
        omega
      clear g1 g3 hc hkl
      go_upto_region 5 with (first
        | (refine step_ldat 25 _ rfl rfl (ad.add (k * 7)) (by rfl) (cnL c) _ Try.underlying25 rfl (by kernel_rfl) HS.out ?_)
        | (refine step_alL (by rfl) 25 rfl (cnL zCn).toArray (fun u => by kernel_rfl) ?_; intro w3 g H3)
        | (refine step_stL (by rfl) _ _ rfl g (cnL c).toArray (by rfl) (by rfl) (cnL zCn).toArray (by kernel_rfl) (by kernel_rfl) (by kernel_rfl) H3.out.bk ?_; intro w4 H4))
      have H5 : Hid (Mid w1 w4 w1.heap.size v3 (enR (raw (T.take k))) g c ∧ w1.heap.size ≤ w4.heap.size) := by
        have hb := H4.out.below H3.out.be H3.out.be.size (Nat.le_of_eq H3.out.at'.symm)
        have hb2 := below_thru HB.out.2 hb
        exact ⟨⟨HB.out.1.below hb (Nat.le_refl _), hb2, H4.out.bk, fun b hb => by have := (HB.out.1.ownlt b hb).2; have := H3.out.at'; omega⟩, hb2.size⟩
      clear H3 H4 HS HB hix
      obtain ⟨A1, B1, e1⟩ : ∃ A B, enV (zl c) = .complex .f64 A B := ⟨_, _, rfl⟩
      obtain ⟨A2, B2, e2⟩ : ∃ A B, enV (zm c) = .complex .f64 A B := ⟨_, _, rfl⟩
      obtain ⟨A3, B3, e3⟩ : ∃ A B, enV (zh c) = .complex .f64 A B := ⟨_, _, rfl⟩
      have HE : Hid (enV (zl c) = .complex .f64 A1 B1 ∧ enV (zm c) = .complex .f64 A2 B2 ∧ enV (zh c) = .complex .f64 A3 B3) := ⟨e1, e2, e3⟩
      have C1 : Hid (∀ u, Calls Try.prog 16 #[.agg (cnL c).toArray] u fun e w' => e = .returned (.complex .f64 A1 B1) ∧ Below u.heap.size u w') := fun u => by rw [← e1]; exact lowEnd_any c HK.out.2 u
      have C2 : Hid (∀ u, Calls Try.prog 15 #[.agg (cnL c).toArray] u fun e w' => e = .returned (.complex .f64 A2 B2) ∧ Below u.heap.size u w') := fun u => by rw [← e2]; exact middleEnd_any c u
      have C3 : Hid (∀ u, Calls Try.prog 17 #[.agg (cnL c).toArray] u fun e w' => e = .returned (.complex .f64 A3 B3) ∧ Below u.heap.size u w') := fun u => by rw [← e3]; exact highEnd_any c HK.out.2 u
      clear e1 e2 e3
      obtain ⟨ci, co, cd, cj, cs, cp, cu⟩ := c
      have k4 := cells7 H5.out.1.bk
      obtain ⟨q0, q1, q2, q3, q4, q5, q6⟩ := k4
      go_region_held3 (fun w' => w'.cell? ⟨g, 0, none⟩ = some (.int .i64 ci) ∧ w'.cell? ⟨g, 1, none⟩ = some (.int .i64 co) ∧ w'.cell? ⟨g, 2, none⟩ = some (.int .i64 cd) ∧ w'.cell? ⟨g, 3, none⟩ = some (.int .i64 cj) ∧ w'.cell? ⟨g, 4, none⟩ = some (.int .i64 cs) ∧ w'.cell? ⟨g, 5, none⟩ = some (.bool cp) ∧ w'.cell? ⟨g, 6, none⟩ = some (.bool cu))
        (first | with_reducible exact k8 | with_reducible exact k7 | with_reducible exact k6 | with_reducible exact k5 | with_reducible exact ⟨q0, q1, q2, q3, q4, q5, q6⟩ | go_keep)
        ((first
          | (go_at_call 16; refine (C1.out _).mono ?_; rintro e w5 ⟨rfl, hb5⟩; have M5 : Hid (Mid w1 w5 w1.heap.size v3 (enR (raw (T.take k))) g ⟨ci, co, cd, cj, cs, cp, cu⟩ ∧ w1.heap.size ≤ w5.heap.size) := (by have hb6 : Below w4.heap.size w4 w5 := (by first | exact hb5 | exact below_of_drew hb5); exact ⟨H5.out.1.next hb6 H5.out.2, Nat.le_trans H5.out.2 hb6.size⟩); have k5 := cells7 M5.out.1.bk; clear hb5)
          | (go_at_call 15; refine (C2.out _).mono ?_; rintro e w6 ⟨rfl, hb5⟩; have M6 : Hid (Mid w1 w6 w1.heap.size v3 (enR (raw (T.take k))) g ⟨ci, co, cd, cj, cs, cp, cu⟩ ∧ w1.heap.size ≤ w6.heap.size) := (by have hb6 : Below w5.heap.size w5 w6 := (by first | exact hb5 | exact below_of_drew hb5); exact ⟨M5.out.1.next hb6 M5.out.2, Nat.le_trans M5.out.2 hb6.size⟩); have k6 := cells7 M6.out.1.bk; clear hb5)
          | (go_at_call 17; refine (C3.out _).mono ?_; rintro e w7 ⟨rfl, hb5⟩; have M7 : Hid (Mid w1 w7 w1.heap.size v3 (enR (raw (T.take k))) g ⟨ci, co, cd, cj, cs, cp, cu⟩ ∧ w1.heap.size ≤ w7.heap.size) := (by have hb6 : Below w6.heap.size w6 w7 := (by first | exact hb5 | exact below_of_drew hb5); exact ⟨M6.out.1.next hb6 M6.out.2, Nat.le_trans M6.out.2 hb6.size⟩); have k7 := cells7 M7.out.1.bk; clear hb5)
          | (refine wp_appk tiE _ _ (by rfl) w1.heap.size (w7.heap.size + 1) v3 _ (enR (raw (T.take k))) [[.complex .f64 A1 B1], [.complex .f64 A2 B2], [.complex .f64 A3 B3]] (by rfl) (by rfl) (OR.alloc M7.out.1.ow _) (rk3 w7 _ _ _ _) (fun n c hh => by injection hh with hh; cases hh) (by intro y hy; simp at hy; rcases hy with rfl | rfl | rfl <;> rfl) (by intro y hy u hu; simp at hy; rcases hy with rfl | rfl | rfl <;> (simp at hu; rw [hu]; rfl)) (by have := HLn.out; simp only [List.length_cons, List.length_nil, maxLen]; omega) (by have := HLn.out; simp only [List.length_cons, List.length_nil]; omega) (by have := M7.out.2; simp; omega) ?_; intro v8 w8 h1 h2 h3; have H8 : Hid (OR w8 w1.heap.size 41 1 v8 (enR (raw (T.take k)) ++ [[.complex .f64 A1 B1], [.complex .f64 A2 B2], [.complex .f64 A3 B3]]) ∧ Below w1.heap.size w1 w8) := ⟨h1, (M7.out.1.be.alloc M7.out.2 _).trans (below_own h2 (by have := M7.out.2; simp; omega) M7.out.1.ow.own)⟩; have k8 := cells7 (Bk.kept M7.out.1.bk ((h2.block g (by have := M7.out.1.bk.lt; simp; omega) (fun e => M7.out.1.ne g e.symm rfl)).trans (heap_alloc_old _ _ M7.out.1.bk.lt))); clear h1 h2 h3)))
      clear k5 k6 k7 k8 q0 q1 q2 q3 q4 q5 q6 M5 M6 M7 H5 C1 C2 C3
      go_wp2_with fail
      go_roundw
      case rel =>
        refine ⟨k + 1, by go_num, by omega, ?_, H8.out.2⟩
        rw [HK.out.1]
        have h1 := H8.out.1
        unfold enR at h1 ⊢
        rw [List.map_append]
        unfold en
        simp only [List.map_cons, List.map_nil, HE.out.1, HE.out.2.1, HE.out.2.2]
        exact h1
      case measure => simp [intOf]; omega
    · have HF : Hid (T.take k = T) := List.take_of_length_le (by rw [HM.out]; omega)
      have HO : Hid (OR wr w1.heap.size 41 1 v3 (enR (raw T)) ∧ Below w.heap.size w wr ∧ w.heap.size ≤ w1.heap.size) := by
        have h1 := HB.out
        rw [HF.out] at h1
        exact ⟨h1.1, below_thru H2.out h1.2, H2.out.size⟩
      obtain ⟨w3, hw3⟩ : ∃ w3, w3 = wr := ⟨_, rfl⟩
      subst hw3
      clear HB HR hk
      obtain ⟨g, cp, hcase⟩ := HO.out.1.addr
      rcases hcase with ⟨hv, hrows⟩ | ⟨hv, hg1, hg2⟩
      · subst hv
        have HZ : Hid (raw T = []) := by
          show _ = _
          unfold enR at hrows
          exact List.map_eq_nil_iff.1 hrows
        clear hrows
        go_wp2_with (go_at_call 18; refine (sortEnds_nil _).mono ?_; rintro e w' ⟨rfl, rfl⟩)
        rw [hQ.out]
        go_ret
        refine ⟨_, rfl, ?_, HO.out.2.1⟩
        rw [HT.out.1, HZ.out, srt_nil]
        exact (OR.nil _ _ _ _ : OR _ _ _ _ (.slice none 0 0) [])
      · obtain ⟨n, hn⟩ : ∃ n, (enR (raw T)).length = n := ⟨_, rfl⟩
        rw [hn] at hv
        subst hv
        have CS : Hid (Calls Try.prog 18 #[.slice (some ⟨g, 0, none⟩) n cp] w3 fun e w' => e = .returned (.tuple #[]) ∧ Hid (OR w' w1.heap.size 41 1 (.slice (some ⟨g, 0, none⟩) n cp) (enR (srt (raw T)))) ∧ Hid (w3.grownBy w' (some g))) := by
          rw [enR_len] at hn
          refine sortEnds_any _ _ _ _ _ _ HO.out.1 (fun z hz => ?_) hn.symm ?_
          · obtain ⟨c, hc, hz⟩ := raw_mem hz
            exact en_ok (HT.out.2.2 c hc) hz
          · rw [← hn, raw_len]; have := HT.out.2.1; omega
        have HG : Hid (w1.heap.size ≤ g ∧ g < w3.heap.size) := ⟨hg1, hg2⟩
        clear hn hg1 hg2
        go_wp2_with (go_at_call 18; refine CS.out.mono ?_; rintro e w5 ⟨rfl, H5, H6⟩)
        rw [hQ.out]
        go_ret
        refine ⟨_, rfl, ?_, ?_⟩
        · rw [HT.out.1]
          exact H5.out.mono HO.out.2.2
        · refine HO.out.2.1.trans ⟨H6.out.os, H6.out.tape, H6.out.output, H6.out.size, fun j hj => H6.out.block j (by have := HG.out; have := HO.out.2.2; omega) (fun e => ?_)⟩
          injection e with e
          have := HG.out
          have := HO.out.2.2
          omega
end Go.Proofs.Ytepbbaeamlimaab
