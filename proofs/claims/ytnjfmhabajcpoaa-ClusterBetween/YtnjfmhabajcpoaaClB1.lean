/- ClusterBetween: what is combined lies between the least and the greatest. -/
import Derived.Test.YtnjfmhabajcpoaaClC1
import Derived.Test.YtnjfmhabajcpoaaClPc
namespace Go.Proofs.Ytnjfmhabajcpoaa
open Go Go.RowKit Go.Sort
set_option linter.unusedVariables false
theorem take_16 (l : List Cn) : l.take (min l.length 16) = l.take 16 := take_min l
set_option maxRecDepth 20000 in
set_option maxHeartbeats 2000000 in
theorem between_main (v : Value) (l : List Cn) (w : World) (N : Nat) (h : Rk N w 7 v (l.map cnL)) (hN : N ≤ w.heap.size) (ok : ∀ c ∈ l, okC c) (hl : l.length ≤ maxLen) (HS0 : ∀ u, Calls Try.prog 10 #[] u fun e w' => e = .returned (.bool true) ∧ Below u.heap.size u w') : Calls Try.prog 7 #[v] w fun e w' => e = .returned (.bool true) ∧ Below w.heap.size w w' := by
  have HSh : Hid (∀ u, Calls Try.prog 10 #[] u fun e w' => e = .returned (.bool true) ∧ Below u.heap.size u w') := HS0
  clear HS0
  obtain ⟨ao0, cap0, hv, hcap0⟩ := rk_form h
  obtain ⟨n, hn⟩ : ∃ n, l.length = n := ⟨_, rfl⟩
  rw [hn] at hv hl hcap0
  subst hv
  obtain ⟨m, hm⟩ : ∃ m : Nat, m = min n 16 := ⟨_, rfl⟩
  have hmin : min (n : Int) 16 = (m : Int) := by omega
  obtain ⟨ao, cap, hrun, hk1, _, _⟩ := csl_take h m (by omega)
  have hT0 : l.take m = l.take 16 := by rw [hm, ← hn]; exact take_min l
  rw [hT0] at hk1
  obtain ⟨T, hT⟩ : ∃ T, l.take 16 = T := ⟨_, rfl⟩
  rw [hT] at hk1
  have hTl : T.length = m := by rw [← hT, ← hT0, List.length_take]; omega
  have HO : Hid (∀ c ∈ T, okC c) := fun c hc => ok c (by rw [← hT] at hc; exact List.mem_of_mem_take hc)
  have HL : Hid (T.length = m ∧ m ≤ 16) := ⟨hTl, by omega⟩
  have HK1 : Hid (Rk N w 7 (.slice ao m cap) (T.map cnL) ∧ N ≤ w.heap.size) := ⟨hk1, hN⟩
  have HC : Hid (∀ u, Below w.heap.size w u → Calls Try.prog 9 #[.slice ao m cap] u fun e w' => e = .returned (.tuple #[.int .i64 (cmO T), .int .i64 (cmJ T)]) ∧ Below u.heap.size u w') := fun u hb => combine_any _ T u N (HK1.out.1.below hb HK1.out.2) (Nat.le_trans HK1.out.2 hb.size) (by have := HL.out; omega) HO.out
  obtain ⟨ao', cap', hv', hcap', hr⟩ := cands_read hk1
  rw [hTl] at hv' hcap'
  injection hv' with e1 _ e3
  subst e1 e3
  have HR : Hid (∀ w', Below w.heap.size w w' → ∀ (i : Nat) c, T[i]? = some c → ∃ ad, ao = some ad ∧ ∀ j u, (cnL c)[j]? = some u → w'.cell? ((ad.add (i * 7)).add j) = some u) := fun w' hb i c hc => by
    obtain ⟨ad, h1, _, h2⟩ := hr w' (below_cells hb hN) i c hc
    exact ⟨ad, h1, h2⟩
  have b1 : (m : Int) ≤ 16 := by have := HL.out; omega
  clear h hN ok hl hcap0 hn hm hk1 hT0 hT hr hcap' hTl
  go_enter Try.func7, Try.ntmps7
  refine post_hid fun Q hQ => ?_
  go_upto_region 4 with (go_at_call 10; refine (HSh.out w).mono ?_; rintro e w1 ⟨rfl, hb1⟩)
  have HB1 : Hid (Below w.heap.size w w1) := hb1
  clear hb1 HSh
  by_cases h0 : (m : Int) = 0
  · have h0b : ((m : Int) == 0) = true := by simpa using h0
    have HZ : Hid (cmO T = 0 ∧ cmJ T = 0) := by
      have : T = [] := List.length_eq_zero_iff.1 (by have := HL.out; omega)
      subst this
      exact ⟨rfl, rfl⟩
    have HC0 := HC.out w1 HB1.out
    rw [HZ.out.1, HZ.out.2] at HC0
    clear HC HR HK1 HO
    go_wp2_with (go_at_call 9; refine HC0.mono ?_; rintro e w2 ⟨rfl, hb2⟩)
    rw [hQ.out]
    go_ret
    exact ⟨rfl, below_thru HB1.out hb2⟩
  have h0b : ((m : Int) == 0) = false := by simpa using h0
  obtain ⟨c0, hc0⟩ : ∃ c, T[0]? = some c := ⟨_, List.getElem?_eq_getElem (by have := HL.out; omega)⟩
  obtain ⟨F, hF⟩ : ∃ F, c0.o = F := ⟨_, rfl⟩
  obtain ⟨Jq, hJq⟩ : ∃ F, c0.j = F := ⟨_, rfl⟩
  have HF : Hid (T[0]? = some c0 ∧ c0.o = F ∧ (fs T).j = Jq) := ⟨hc0, hF, by rw [← hJq]; unfold fs; rw [getD_at hc0]⟩
  obtain ⟨ad, hao, hcs⟩ := HR.out w1 HB1.out 0 c0 hc0
  subst hao
  rw [Nat.zero_mul] at hcs
  have hq1 : w1.cell? (ad.add 1) = some (.int .i64 F) := by rw [← hF]; exact hcs 1 _ rfl
  have hq3 : w1.cell? (ad.add 3) = some (.int .i64 Jq) := by rw [← hJq]; exact hcs 3 _ rfl
  have hq1' : w1.cell? ⟨ad.block, ad.off + 1, none⟩ = some (.int .i64 F) := hq1
  have hq3' : w1.cell? ⟨ad.block, ad.off + 3, none⟩ = some (.int .i64 Jq) := hq3
  have hix0 : ∀ u, Sem.run Try.prog (Instr.indexAt 22 (.slice (some ad) m cap) (.int .i64 0)) u = .ok (.pointer (some ad)) u := fun u => ix_C m cap 0 rfl (by omega) u
  clear hF hJq hc0 hcs
  go_upto_region 7 with fail
  go_quiet (fail)
  obtain ⟨w2, hw2⟩ : ∃ w2, w2 = w1.drewN nq := ⟨_, rfl⟩
  rw [← hw2]
  have HB2 : Hid (Below w.heap.size w w2) := by rw [hw2]; exact below_dr HB1.out nq
  clear hw2 hq1 hq3 hq1' hq3' hix0 HB1
  go_wp2_with fail
  go_loopw [5, 6, 9, 47] (fun v5 v6 _ i wr => ∃ (k : Nat) (lo hi : Int), v5 = .int .i64 lo ∧ v6 = .int .i64 hi ∧ i = .int .i64 k ∧ (k : Int) ≤ m ∧ lo ≤ F ∧ F ≤ hi ∧ (0 < (k : Int) → -1152921504606846976 ≤ lo ∧ hi ≤ 1152921504606846976) ∧ ((k : Int) = 0 → lo = F ∧ hi = F) ∧ Hid (∀ c ∈ T.take k, lo ≤ c.o ∧ c.o ≤ hi) ∧ Hid (Below w.heap.size w wr)) (fun _ _ _ i _ => m - (intOf i).toNat)
  case atStart => exact ⟨0, F, F, rfl, rfl, rfl, by omega, Int.le_refl _, Int.le_refl _, fun h => absurd h (by decide), fun _ => ⟨rfl, rfl⟩, (fun c hc => by simp at hc), HB2.out⟩
  case round =>
    obtain ⟨k, lo, hi, rfl, rfl, rfl, hk, hlo, hhi, hbd, hz, HT, HB⟩ := hrel
    by_cases hlt : (k : Int) < m
    · obtain ⟨c, hc⟩ : ∃ c, T[k]? = some c := ⟨_, List.getElem?_eq_getElem (by have := HL.out; omega)⟩
      obtain ⟨ad', g1, g3⟩ := HR.out wr HB.out k c hc
      obtain rfl := Option.some.inj g1
      have hix := ix_C m cap k (ad := ad) rfl hlt
      have HS : Hid (∀ j u, (cnL c)[j]? = some u → wr.cell? ((ad.add (k * 7)).add j) = some u) := g3
      have HK : Hid (T[k]? = some c ∧ ((k : Int) = 0 → c.o = F)) := ⟨hc, fun e => by
        have e' : k = 0 := by omega
        subst e'
        rw [HF.out.1] at hc
        rw [← Option.some.inj hc]; exact HF.out.2.1⟩
      clear g3 hc g1
      go_upto_region 11 with (first
        | (refine step_ldat 25 _ rfl rfl (ad.add (k * 7)) (by rfl) (cnL c) _ Try.underlying25 rfl (by kernel_rfl) HS.out ?_)
        | (refine step_alL (by rfl) 25 rfl (cnL zCn).toArray (fun u => by kernel_rfl) ?_; intro w3 g H3)
        | (refine step_stL (by rfl) _ _ rfl g (cnL c).toArray (by rfl) (by rfl) (cnL zCn).toArray (by kernel_rfl) (by kernel_rfl) (by kernel_rfl) H3.out.bk ?_; intro w4 H4))
      have H5 : Hid (Below w.heap.size w w4 ∧ Bk g w4 (cnL c).toArray 25) :=
        ⟨below_thru HB.out (H4.out.below H3.out.be H3.out.be.size (Nat.le_of_eq H3.out.at'.symm)), H4.out.bk⟩
      obtain ⟨X, hX⟩ : ∃ X, c.o = X := ⟨_, rfl⟩
      have HX : Hid (c.o = X) := hX
      have q1 : w4.cell? ⟨g, 1, none⟩ = some (.int .i64 X) := by rw [← hX]; exact H5.out.2.cell 1
      have hX0 : (k : Int) = 0 → X = F := fun e => by rw [← hX]; exact HK.out.2 e
      clear H3 H4 HS hix hX HB
      by_cases hbig : (1152921504606846976 : Int) < X
      · clear hbd hz hX0
        go_wp2_with fail
        rw [hQ.out]
        go_ret
        exact ⟨rfl, H5.out.1⟩
      by_cases hsm : X < (-1152921504606846976 : Int)
      · clear hbd hz hX0
        go_wp2_with fail
        rw [hQ.out]
        go_ret
        exact ⟨rfl, H5.out.1⟩
      have hlo2 : lo ≤ X ∨ X < lo := by omega
      go_upto_region 13 with fail
      refine wp_region_grown (by kernel_rfl) (by kernel_rfl) ?_
      intro C hC hG
      have q2 : Hid (∀ u, C u → u.cell? ⟨g, 1, none⟩ = some (.int .i64 X)) := fun u hu => by rw [← HX.out]; exact (H5.out.2.kept ((hC u hu).block _ H5.out.2.lt)).cell 1
      refine QW.out ?_
      repeat (refine qa_valW (by rfl) ?_; apply Exists.intro; refine ⟨fun u hu => ?_, ?_⟩; ((have e2 := q2.out u hu); go_simp; exact rfl); try go_simp)
      refine qw_nil ?_
      intro u hu
      have HB9 : Hid (Below w.heap.size w u) := below_thru H5.out.1 hu
      clear q2 q1 hC hG hu H5
      go_wp2_with fail
      go_roundw
      case rel =>
        have hb1 : 0 < (k : Int) ∨ (k : Int) = 0 := by omega
        refine ⟨k + 1, min lo X, max hi X, rfl, rfl, by go_num, by omega, by omega, by omega, fun _ => ?_, fun e => absurd e (by omega), (fun d hd => ?_), HB9.out⟩
        · rcases hb1 with h | h
          · have := hbd h; omega
          · have h1 := hz h; have h2 := hX0 h; omega
        · rw [take_snoc HK.out.1] at hd
          rcases List.mem_append.1 hd with hd | hd
          · have := HT.out d hd; omega
          · rw [List.mem_singleton.1 hd, HX.out]; omega
      case measure => simp [intOf]; omega
    · have hkm : k = m := by omega
      subst hkm
      have hbd2 := hbd (by omega)
      have HZ : Hid (T.take k = T) := List.take_of_length_le (by rw [HL.out.1]; exact Nat.le_refl _)
      have hbt := between T lo hi (fun e => by have := HL.out.1; rw [e] at this; simp at this; omega) (by have := HL.out; omega) hbd2.1 hbd2.2 (fun c hc => HT.out c (by rw [HZ.out]; exact hc))
      rw [HL.out.1, HF.out.2.2] at hbt
      have HC0 := HC.out wr HB.out
      obtain ⟨O, hO⟩ : ∃ O, cmO T = O := ⟨_, rfl⟩
      obtain ⟨J, hJ⟩ : ∃ J, cmJ T = J := ⟨_, rfl⟩
      rw [hO, hJ] at hbt HC0
      obtain ⟨t1, t2, t3, t4⟩ := hbt
      obtain ⟨t5, t6⟩ := hbd2
      have hw : IntKind.i64.wrap (lo - (k : Int)) = lo - (k : Int) := by rw [IntKind.wrap_i64]; omega
      clear hbd hz HC HO HT HZ hO hJ HR HK1
      by_cases heq : lo = hi
      · subst heq
        have t7 := t4 rfl
        subst t7
        go_wp2_with (go_at_call 9; refine HC0.mono ?_; rintro e w5 ⟨rfl, hb5⟩)
        rw [hQ.out]
        go_ret
        exact ⟨rfl, below_thru HB.out hb5⟩
      · clear t4
        have hne : (lo != hi) = true := by simpa using heq
        go_wp2_with (go_at_call 9; refine HC0.mono ?_; rintro e w5 ⟨rfl, hb5⟩)
        rw [hQ.out]
        go_ret
        exact ⟨rfl, below_thru HB.out hb5⟩
end Go.Proofs.Ytnjfmhabajcpoaa
