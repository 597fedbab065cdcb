/- PulseScript, walked. -/
import Derived.Test.YtenlkadmniobdaaPZ
namespace Go.Proofs.Ytenlkadmniobdaa
open Go.RowKit
theorem len_run41 (ao : Option Addr) (n cap : Nat) (u : World) : (Builtin.len_ #[41] 3 #[.slice ao n cap]).run Try.prog u = .ok (.int .i64 (n : Int)) u := by
  simp [Builtin.len_, run_underlying Try.underlying41, goInt]
theorem idx_at41 (ad : Addr) (n cap k : Nat) (u : World) (h : k < n) : (Instr.indexAt 41 (.slice (some ad) n cap) (.int .i64 (k : Int))).run Try.prog u = .ok (.pointer (some (ad.add (k * 3)))) u := by
  simp [go_sem, h]
set_option maxRecDepth 20000 in
set_option maxHeartbeats 4000000 in
theorem PulseScript_row (v : Value) (ss : List Stp) (w : World) (h : St8 w.heap.size w v ss) (hl : ss.length * 24 ≤ 140737488351232) :
    Calls Try.prog 7 #[v] w fun e w' => e = .returned (.bool true) ∧ Below w.heap.size w w' := by
  have HS : Hid (St8 w.heap.size w v ss) := h
  obtain ⟨ao, cap, hv, _⟩ := h
  have hlen : ∀ u, (Builtin.len_ #[41] 3 #[v]).run Try.prog u = .ok (.int .i64 (ss.length : Int)) u := fun u => by rw [hv]; exact len_run41 ao _ cap u
  clear hv
  obtain ⟨N, hN⟩ : ∃ N, N = ss.length := ⟨_, rfl⟩
  have HN : Hid (N = ss.length) := hN
  rw [← hN] at hlen
  have N1 : (N : Int) ≤ 5864062014634 := by omega
  clear hl hN
  go_enter Try.func7, Try.ntmps7
  go_wp2_with fail
  refine (shown_any _).mono ?_
  rintro e w1 ⟨rfl, hB1⟩
  have HB1 : Hid (Below w.heap.size w w1) := hB1
  clear hB1
  go_wp2_with fail
  refine (new_any _).mono ?_
  rintro e w2 ⟨rfl, hL2, hB2, hz2⟩
  obtain ⟨p, hp⟩ : ∃ p, p = w1.heap.size := ⟨_, rfl⟩
  rw [← hp] at hL2 hB2 hz2 ⊢
  have H2 : Hid (Ln w2 p [] false 0 4607182418800017408 0 ∧ Below w.heap.size w w2 ∧ w.heap.size ≤ p ∧ w2.heap.size = p + 1) := ⟨hL2, HB1.out.trans ⟨hB2.os, hB2.tape, hB2.output, by have := hB2.size; omega, fun k hk => hB2.block k (by have := HB1.out.size; omega)⟩, by have := HB1.out.size; show w.heap.size ≤ p; omega, hz2⟩
  clear hL2 hB2 hz2 hp HB1
  go_wp2_with fail
  refine (rnew_any _).mono ?_
  rintro e w3 ⟨rfl, hR3, hB3, hz3⟩
  obtain ⟨q, hq⟩ : ∃ q, q = w2.heap.size := ⟨_, rfl⟩
  rw [← hq] at hR3 hB3 hz3 ⊢
  have H3 : Hid (Bt w p q (q + 1) none [] 0 0 w3) := by
    have h2 := H2.out
    have hb : Below w2.heap.size w2 w3 := by rw [← hq]; exact hB3
    exact ⟨h2.1.below hb (by omega), hR3, by omega, by omega, h2.2.2.1, h2.2.1.trans (hb.mono h2.2.1.size)⟩
  clear hR3 hB3 hz3 hq H2
  go_wp2_with fail
  go_loopw [19] (fun i wr => ∃ (k : Nat) (bo : Option Nat) (es : List Int) (m la : Int), k ≤ N ∧ i = .int .i64 k ∧ m ≤ k ∧ Hid (Bt w p q (q + 1) bo es m la wr)) (fun i _ => N - (intOf i).toNat)
  case atStart => exact ⟨0, none, [], 0, 0, Nat.zero_le _, rfl, by omega, H3⟩
  case round =>
    obtain ⟨k, bo, es, m, la, hk, rfl, hmk, HB⟩ := hrel
    have m0 : 0 ≤ m := HB.out.m0
    by_cases hlt : k < N
    · have hkx : k < ss.length := by have := HN.out; omega
      have kN : (k : Int) < N := by omega
      obtain ⟨ao, cap, hv, hcs⟩ := HS.out.below HB.out.bel (Nat.le_refl _)
      obtain ⟨ad, rfl, hs1⟩ := hcs k hkx
      have hidx : ∀ u, (Instr.indexAt 41 v (.int .i64 (k : Int))).run Try.prog u = .ok (.pointer (some (ad.add (k * 3)))) u := fun u => by rw [hv]; exact idx_at41 ad _ cap k u hkx
      obtain ⟨A, hA⟩ : ∃ A, A = ad.add (k * 3) := ⟨_, rfl⟩
      rw [← hA] at hs1 hidx
      obtain ⟨⟨kd, t, f⟩, hst⟩ : ∃ s : Stp, s = ss.getD k ⟨0, 0, 0⟩ := ⟨_, rfl⟩
      rw [← hst] at hs1
      obtain ⟨hA1, a0, a1, a2, f0, f1⟩ := hs1
      have a0' : wr.cell? A = some (.int .i64 kd) := a0
      have a1' : wr.cell? ⟨A.block, A.off + 1, none⟩ = some (.int .u64 t) := a1
      have a2' : wr.cell? ⟨A.block, A.off + 2, none⟩ = some (.int .i64 f) := a2
      have f0' : -9223372036854775808 ≤ f := f0
      have f1' : f ≤ 9223372036854775807 := f1
      clear hv hcs hst hA a0 a1 a2 f0 f1
      have hX : (wr.alloc (.cells #[.int .i64 kd, .int .u64 t, .int .i64 f] 47)).heap[wr.heap.size]? = some (.cells #[.int .i64 kd, .int .u64 t, .int .i64 f] 47 (0, 0)) := alloc_new _ _
      have HX : Hid (Bt w p q (q + 1) bo es m la (wr.alloc (.cells #[.int .i64 kd, .int .u64 t, .int .i64 f] 47))) := HB.out.over ((Below.refl _ _).alloc (Nat.le_refl _) _)
      have hXp : ¬ (wr.heap.size = p) := by have := HB.out.ln.lt; omega
      have hXq : ¬ (wr.heap.size = q) := by have := HB.out.rl.1; have := HB.out.rl.2.1; omega
      by_cases hk0 : kd = 0
      · subst hk0
        go_wp2_with fail
        obtain ⟨wx, hwx⟩ : ∃ wx, wx = wr.alloc (.cells #[.int .i64 0, .int .u64 t, .int .i64 f] 47) := ⟨_, rfl⟩
        rw [← hwx] at HX hX ⊢
        obtain ⟨X, hXe⟩ : ∃ X, X = wr.heap.size := ⟨_, rfl⟩
        rw [← hXe] at hX hXp hXq ⊢
        obtain ⟨b, hb⟩ : ∃ b, b = tkB es (decide (0 < m)) la t := ⟨_, rfl⟩
        have x1 : wx.cell? ⟨X, 1, none⟩ = some (.int .u64 t) := by rw [cell_of_row wx X 1 _ _ (0, 0) hX]; rfl
        obtain ⟨m', hm'⟩ : ∃ m', m' = mS es m la t := ⟨_, rfl⟩
        obtain ⟨es', hes'⟩ : ∃ x, x = egE es (decide (0 < m)) la t := ⟨_, rfl⟩
        obtain ⟨la', hla'⟩ : ∃ x, x = egL es (decide (0 < m)) la t := ⟨_, rfl⟩
        have hmb := mS_bd es m la t
        rw [← hm'] at hmb
        have HE : Hid (∀ u, Sa u wx → Calls Try.prog 19 #[.pointer (some ⟨p, 0, none⟩), .int .u64 t] u fun e w' => e = .returned (.bool b) ∧ Lm w' p es' m' la' ∧ u.grownBy w' (some p)) := fun u hu => by
          rw [hb, hm', hes', hla']
          exact sedge t (hu.ln HX.out.ln) m0
        have HR : Hid (∀ u2 u5 u0, Sa u0 wx → u0.grownBy u5 (some p) → Sa u2 u5 → Calls Try.prog 20 #[.pointer (some ⟨q, 0, none⟩), .int .u64 t] u2 fun e w' => e = .returned (.bool b) ∧ ∃ bo', Rl w' q (q + 1) bo' es' m' la' ∧ Fq q bo u2 w') := fun u2 u5 u0 h0 h5 h2 => by
          rw [hb, hm', hes', hla']
          refine (rsedge t (h2.rl ((h0.bt HX.out).grownP h5).1) m0 (by omega)).mono ?_
          rintro e w' ⟨rfl, bo', k1, k2, _⟩
          exact ⟨rfl, bo', k1, k2⟩
        have HK : Hid (∀ u0 w5, Sa u0 wx → u0.grownBy w5 (some p) → w5.cell? ⟨X, 1, none⟩ = some (.int .u64 t)) := fun u0 w5 h0 h5 => h5.cell (a := ⟨X, 1, none⟩) (by simp only [World.cell?, h0.1]; exact x1) (fun e => hXp (by injection e))
        clear hb hm' hes' hla' hwx hXe hX a0' a1' a2' hidx
        go_region_with (first | (go_at_call 19; refine Calls.mono (HE.out _ ?_) ?_; (exact ⟨rfl, rfl, rfl, rfl⟩); rintro e w5 ⟨rfl, hL5, hg5⟩; have x5 : w5.cell? ⟨X, 1, none⟩ = some (.int .u64 t) := by { refine HK.out _ _ ?_ hg5; exact ⟨rfl, rfl, rfl, rfl⟩ }) | (go_at_call 20; refine Calls.mono (HR.out _ w5 _ ?_ hg5 ?_) ?_; (exact ⟨rfl, rfl, rfl, rfl⟩); (exact ⟨rfl, rfl, rfl, rfl⟩); rintro e w6 ⟨rfl, bo', hR6, hF6⟩))
        all_goals
          have HBt : Hid (Bt w p q (q + 1) bo' es' m' la' w6) := by
            refine Bt.edges (Sa.bt ?_ HX.out) hL5 hg5 ?_ hR6 hF6 (by omega)
            · exact ⟨rfl, rfl, rfl, rfl⟩
            · exact ⟨rfl, rfl, rfl, rfl⟩
          obtain ⟨oR, oI⟩ := ord_ok m'
          clear HE HR HK hL5 hg5 hR6 hF6 x5 x1
          go_wp2_with fail
          refine (rphase_any HBt.out.rl).mono ?_
          rintro e w8 ⟨rfl, hw⟩
          rw [hw]
          clear hw
          go_wp2_with fail
          refine (len_ln HBt.out.ln).mono ?_
          rintro e w8 ⟨rfl, hw⟩
          rw [hw]
          clear hw
          go_wp2_with fail
          refine (rlen_any HBt.out.rl).mono ?_
          rintro e w8 ⟨rfl, hw⟩
          rw [hw]
          clear hw
          go_wp2_with fail
          refine (phase_ln HBt.out.ln).mono ?_
          rintro e w8 ⟨rfl, hw⟩
          rw [hw]
          clear hw
          go_wp2_with fail
          exact ⟨⟨k + 1, bo', es', m', la', by omega, by go_num, by omega, HBt⟩, by simp [intOf]; omega⟩
      · by_cases hk1 : kd = 1
        · subst hk1
          go_wp2_with fail
          obtain ⟨wx, hwx⟩ : ∃ wx, wx = wr.alloc (.cells #[.int .i64 1, .int .u64 t, .int .i64 f] 47) := ⟨_, rfl⟩
          have hXl : wr.heap.size < wx.heap.size := by rw [hwx]; simp
          rw [← hwx] at HX hX ⊢
          obtain ⟨X, hXe⟩ : ∃ X, X = wr.heap.size := ⟨_, rfl⟩
          rw [← hXe] at hX hXp hXq hXl ⊢
          have x1 : wx.cell? ⟨X, 1, none⟩ = some (.int .u64 t) := by rw [cell_of_row wx X 1 _ _ (0, 0) hX]; rfl
          have x2 : wx.cell? ⟨X, 2, none⟩ = some (.int .i64 f) := by rw [cell_of_row wx X 2 _ _ (0, 0) hX]; rfl
          obtain ⟨oR, oI⟩ := ord_ok m
          clear hwx hXe hX a0' a1' a2' hidx
          by_cases hfew : es.length < 3
          · refine (sample_few p es _ la _ _ t f _ HX.out.ln hfew).mono ?_
            rintro e w5 ⟨rfl, hb5⟩
            have H5 : Hid (Bt w p q (q + 1) bo es m la (w5.alloc (.cells #[.int .i64 0, .int .i64 0, .int .i64 0, .int .u64 0] 49))) := (HX.out.over hb5).over ((Below.refl _ _).alloc (Nat.le_refl _) _)
            have x51 : w5.cell? ⟨X, 1, none⟩ = some (.int .u64 t) := (hb5.cell (p := ⟨X, 1, none⟩) hXl).trans x1
            have x52 : w5.cell? ⟨X, 2, none⟩ = some (.int .i64 f) := (hb5.cell (p := ⟨X, 2, none⟩) hXl).trans x2
            have hX5 : X < w5.heap.size := by have := hb5.size; omega
            have hX5' : ¬ (X = w5.heap.size) := by omega
            clear hb5 x1 x2
            unfold smV
            go_wp2_with fail
            refine (rsample_few t f H5.out.rl hfew).mono ?_
            rintro e w6 ⟨rfl, hb6⟩
            have HBt : Hid (Bt w p q (q + 1) bo es m la (w6.alloc (.cells #[.int .i64 0, .int .i64 0, .int .i64 0, .int .u64 0] 49))) := (H5.out.over hb6).over ((Below.refl _ _).alloc (Nat.le_refl _) _)
            have hz6 : w5.heap.size < w6.heap.size := by have := hb6.size; simp at this; omega
            have hS6 : w6.heap[w5.heap.size]? = some (.cells #[.int .i64 0, .int .i64 0, .int .i64 0, .int .u64 0] 49 (0, 0)) := (hb6.block w5.heap.size (by simp)).trans (alloc_new _ _)
            have y0 : w6.cell? ⟨w5.heap.size, 0, none⟩ = some (.int .i64 0) := by rw [cell_of_row w6 _ 0 _ _ (0, 0) hS6]; rfl
            have y1 : w6.cell? ⟨w5.heap.size, 1, none⟩ = some (.int .i64 0) := by rw [cell_of_row w6 _ 1 _ _ (0, 0) hS6]; rfl
            have y2 : w6.cell? ⟨w5.heap.size, 2, none⟩ = some (.int .i64 0) := by rw [cell_of_row w6 _ 2 _ _ (0, 0) hS6]; rfl
            have y3 : w6.cell? ⟨w5.heap.size, 3, none⟩ = some (.int .u64 0) := by rw [cell_of_row w6 _ 3 _ _ (0, 0) hS6]; rfl
            have hz6' : ¬ (w5.heap.size = w6.heap.size) := by omega
            clear hb6 hS6 x51 x52
            unfold smV
            go_wp2_with fail
            refine (rphase_any HBt.out.rl).mono ?_
            rintro e w8 ⟨rfl, hw⟩
            rw [hw]
            clear hw
            go_wp2_with fail
            refine (len_ln HBt.out.ln).mono ?_
            rintro e w8 ⟨rfl, hw⟩
            rw [hw]
            clear hw
            go_wp2_with fail
            refine (rlen_any HBt.out.rl).mono ?_
            rintro e w8 ⟨rfl, hw⟩
            rw [hw]
            clear hw
            go_wp2_with fail
            refine (phase_ln HBt.out.ln).mono ?_
            rintro e w8 ⟨rfl, hw⟩
            rw [hw]
            clear hw
            go_wp2_with fail
            exact ⟨⟨k + 1, bo, es, m, la, by omega, by go_num, by omega, HBt⟩, by simp [intOf]; omega⟩
          · obtain ⟨C, hC⟩ : ∃ C, C = Fx.cl 4611686018427387904 (Pu.mdM es + f) := ⟨_, rfl⟩
            obtain ⟨D, hD⟩ : ∃ D, D = Pu.mdW es / 2 + 4096 := ⟨_, rfl⟩
            have q1 := sample_many p es _ la _ _ t f wx HX.out.ln (by omega) f0' f1'
            rw [← hC, ← hD] at q1
            refine q1.mono ?_
            rintro e w5 ⟨rfl, hL5, hg5⟩
            have hR5 := HX.out.grownP hg5
            have hq5 : q < w5.heap.size := by have := hR5.1.2.1; omega
            have H5 : Hid (Ln w5 p [] (decide (0 < m)) la (tnR 4607182418800017408 0 m) (tnI 4607182418800017408 0 m) ∧ Rl (w5.alloc (.cells #[.int .i64 C, .int .i64 0, .int .i64 D, .int .u64 t] 49)) q (q + 1) bo es m la ∧ Below w.heap.size w (w5.alloc (.cells #[.int .i64 C, .int .i64 0, .int .i64 D, .int .u64 t] 49)) ∧ (∀ j, bo = some j → j < w5.heap.size)) := ⟨hL5, hR5.1.kept (by simp) (fun j hj _ => Below.heap_alloc _ _ _ hj), hR5.2.alloc hR5.2.size _, fun j hj => by obtain ⟨_, _, _, ev, _, hE⟩ := hR5.1; exact (hE.lt j hj).2⟩
            have x51 : w5.cell? ⟨X, 1, none⟩ = some (.int .u64 t) := hg5.cell x1 (fun e => hXp (by injection e))
            have x52 : w5.cell? ⟨X, 2, none⟩ = some (.int .i64 f) := hg5.cell x2 (fun e => hXp (by injection e))
            have hX5 : X < w5.heap.size := by have := hg5.size; omega
            have hX5' : ¬ (X = w5.heap.size) := by omega
            have q2 := rsample_many t f H5.out.2.1 (by omega) f0' f1'
            rw [← hC, ← hD] at q2
            have Q2 : Hid _ := q2
            clear hg5 hL5 hR5 x1 x2 q1 q2 hC hD
            unfold smV
            go_wp2_with fail
            refine Calls.mono Q2.out ?_
            rintro e w6 ⟨rfl, hR6, hF6⟩
            have hLm : Lm (w5.alloc (.cells #[.int .i64 C, .int .i64 0, .int .i64 D, .int .u64 t] 49)) p [] m la := H5.out.1.below ((Below.refl w5.heap.size w5).alloc (Nat.le_refl _) _) H5.out.1.lt
            have hbt := Bt.fq H5.out.2.1 HX.out.pq HX.out.low H5.out.2.2.1 hF6 hLm
            have HBt : Hid (Bt w p q (q + 1) none [] m la (w6.alloc (.cells #[.int .i64 C, .int .i64 0, .int .i64 D, .int .u64 t] 49))) := Bt.over (w := w6) ⟨hbt.1, hR6, m0, HX.out.pq, HX.out.low, hbt.2⟩ ((Below.refl _ _).alloc (Nat.le_refl _) _)
            have hz6 : w5.heap.size < w6.heap.size := by have := hF6.size; simp at this; omega
            have hS6 : w6.heap[w5.heap.size]? = some (.cells #[.int .i64 C, .int .i64 0, .int .i64 D, .int .u64 t] 49 (0, 0)) := (hF6.block w5.heap.size (by simp) (by omega) (fun e => by have := H5.out.2.2.2 _ e; omega)).trans (alloc_new _ _)
            have y0 : w6.cell? ⟨w5.heap.size, 0, none⟩ = some (.int .i64 C) := by rw [cell_of_row w6 _ 0 _ _ (0, 0) hS6]; rfl
            have y1 : w6.cell? ⟨w5.heap.size, 1, none⟩ = some (.int .i64 0) := by rw [cell_of_row w6 _ 1 _ _ (0, 0) hS6]; rfl
            have y2 : w6.cell? ⟨w5.heap.size, 2, none⟩ = some (.int .i64 D) := by rw [cell_of_row w6 _ 2 _ _ (0, 0) hS6]; rfl
            have y3 : w6.cell? ⟨w5.heap.size, 3, none⟩ = some (.int .u64 t) := by rw [cell_of_row w6 _ 3 _ _ (0, 0) hS6]; rfl
            have hz6' : ¬ (w5.heap.size = w6.heap.size) := by omega
            clear hR6 hF6 hbt hLm hS6 x51 x52 Q2
            unfold smV
            go_wp2_with fail
            refine (rphase_any HBt.out.rl).mono ?_
            rintro e w8 ⟨rfl, hw⟩
            rw [hw]
            clear hw
            go_wp2_with fail
            refine (len_ln HBt.out.ln).mono ?_
            rintro e w8 ⟨rfl, hw⟩
            rw [hw]
            clear hw
            go_wp2_with fail
            refine (rlen_any HBt.out.rl).mono ?_
            rintro e w8 ⟨rfl, hw⟩
            rw [hw]
            clear hw
            go_wp2_with fail
            refine (phase_ln HBt.out.ln).mono ?_
            rintro e w8 ⟨rfl, hw⟩
            rw [hw]
            clear hw
            go_wp2_with fail
            exact ⟨⟨k + 1, none, [], m, la, by omega, by go_num, by omega, HBt⟩, by simp [intOf]; omega⟩
        · have HBt := HX
          obtain ⟨oR, oI⟩ := ord_ok m
          obtain ⟨bo', hbo'⟩ : ∃ x, x = bo := ⟨_, rfl⟩
          obtain ⟨es', hes'⟩ : ∃ x, x = es := ⟨_, rfl⟩
          obtain ⟨m', hm'⟩ : ∃ x, x = m := ⟨_, rfl⟩
          obtain ⟨la', hla'⟩ : ∃ x, x = la := ⟨_, rfl⟩
          subst hbo'; subst hes'; subst hm'; subst hla'
          go_wp2_with fail
          refine (rphase_any HBt.out.rl).mono ?_
          rintro e w8 ⟨rfl, hw⟩
          rw [hw]
          clear hw
          go_wp2_with fail
          refine (len_ln HBt.out.ln).mono ?_
          rintro e w8 ⟨rfl, hw⟩
          rw [hw]
          clear hw
          go_wp2_with fail
          refine (rlen_any HBt.out.rl).mono ?_
          rintro e w8 ⟨rfl, hw⟩
          rw [hw]
          clear hw
          go_wp2_with fail
          refine (phase_ln HBt.out.ln).mono ?_
          rintro e w8 ⟨rfl, hw⟩
          rw [hw]
          clear hw
          go_wp2_with fail
          exact ⟨⟨k + 1, bo', es', m', la', by omega, by go_num, by omega, HBt⟩, by simp [intOf]; omega⟩
    · obtain rfl : k = N := by omega
      go_wp2_with fail
      go_ret
      exact ⟨rfl, HB.out.bel⟩
end Go.Proofs.Ytenlkadmniobdaa
