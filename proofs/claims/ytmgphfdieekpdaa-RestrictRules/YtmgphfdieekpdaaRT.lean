/- RestrictTurned: rules in another order. -/
import Derived.Test.YtmgphfdieekpdaaRC
import Derived.Test.YtmgphfdieekpdaaRO
import Derived.Test.YtmgphfdieekpdaaRS
namespace Go.Proofs.Ytmgphfdieekpdaa
open Go Go.RowKit
theorem tiRu : TI 22 26 3 24 := by
  refine ⟨Try.underlying22, ?_, by decide⟩
  have h : (Try.prog.info? 26).map (fun i => (i.zero, i.size, i.bytes)) = some (some (.agg #[.int .u32 0, .int .i64 0, .int .i64 0]), 3, 24) := by kernel_rfl
  cases hi : Try.prog.info? 26 with
  | none => rw [hi] at h; cases h
  | some i =>
    rw [hi] at h
    simp at h
    exact ⟨i, _, rfl, h.1, h.2.1, h.2.2, rfl⟩
theorem ruL_len (xs : List Ru) : ∀ r ∈ xs.map ruL, r.length = 3 := fun r hr => by
  obtain ⟨x, _, rfl⟩ := List.mem_map.1 hr; rfl
theorem ruL_one (xs : List Ru) : ∀ r ∈ xs.map ruL, ∀ u ∈ r, u.oneCell' = true := fun r hr u hu => by
  obtain ⟨x, _, rfl⟩ := List.mem_map.1 hr
  simp [ruL] at hu
  rcases hu with rfl | rfl | rfl <;> rfl
theorem ix_i {ao : Option Addr} {ad : Addr} (n cap k : Nat) (h : ao = some ad) (hk : (k : Int) < n) (w : World) : Sem.run Try.prog (Instr.indexAt 23 (.slice ao n cap) (.int .i64 (k : Int))) w = .ok (.pointer (some (ad.add k))) w := by
  subst h
  have u := Try.underlying23
  have c3 : Try.prog.cellsOf 3 = 1 := by kernel_rfl
  have h0 : (0 : Int) ≤ k := Int.natCast_nonneg k
  go_simp
theorem one_ru (a b f : Int) : ∀ u ∈ [Value.int .u32 a, .int .i64 b, .int .i64 f], u.oneCell' = true := fun u hu => by
  simp at hu
  rcases hu with rfl | rfl | rfl <;> rfl
/-- a slice of ints that came in -/
def Ri (N : Nat) (w : World) (v : Value) (ps : List Int) : Prop := Rk N w 1 v (ps.map fun p => [.int .i64 p])
set_option maxHeartbeats 2000000 in
theorem RestrictTurned_walk (N : Nat) (v pv : Value) (xs : List Ru) (ps : List Int) (x : Int) (w : World) (hN : N ≤ w.heap.size) (ha : Rk N w 3 v (xs.map ruL)) (hra : Ra v) (hp : Ri N w pv ps) (hpl : ps.length ≤ 140737488355328) (la : xs.length ≤ 140737488355328) (hw : ∀ a ∈ xs, 0 ≤ a.addr ∧ a.addr < 4294967296) (x0 : 0 ≤ x) (x1 : x < 4294967296) :
    Calls Try.prog 3 #[v, pv, .int .u32 x] w fun e w' => e = .returned (.bool true) ∧ Below w.heap.size w w' := by
  obtain ⟨ao, cap, hav, hc, hcell⟩ := ha.ru
  subst hav
  obtain ⟨L, hL⟩ : ∃ L, L = xs.length := ⟨_, rfl⟩
  rw [← hL] at ha hra ⊢
  have HL : Hid (L = xs.length) := hL
  obtain ⟨po, pcap, hpv, hpc, hpcell⟩ := hp
  rw [List.length_map] at hpv hpc hpcell
  subst hpv
  obtain ⟨M, hM⟩ : ∃ M, M = ps.length := ⟨_, rfl⟩
  rw [← hM] at hpcell hpc ⊢
  have HM : Hid (M = ps.length) := hM
  by_cases hbig : (1024 : Int) < L
  · go_enter Try.func3, Try.ntmps3
    go_wp2
    go_ret
    exact ⟨rfl, (by repeat' (first | with_reducible exact Below.refl _ _ | with_reducible refine Below.setCell ?_ (by first | (simp; done) | (simp; omega) | omega) _ | with_reducible refine below_drewN ?_ _ | with_reducible refine Below.drew ?_ | with_reducible refine Below.alloc ?_ (by first | (simp; done) | (simp; omega) | omega) _))⟩
  · have l1 : (L : Int) ≤ 1024 := by omega
    have m1 : (M : Int) ≤ 140737488355328 := by omega
    have hdec : decide ((1024 : Int) < L) = false := by simp; omega
    have HA : Hid (Rk N w 3 (.slice ao L cap) (xs.map ruL) ∧ Ra (.slice ao L cap) ∧ N ≤ w.heap.size ∧ (∀ a ∈ xs, 0 ≤ a.addr ∧ a.addr < 4294967296)) := ⟨ha, hra, hN, hw⟩
    clear ha hra hcell hc hL hM hbig la hw hN hpc hpl
    go_enter Try.func3, Try.ntmps3
    have HS : Hid (0 + (xs.map ruL).length ≤ maxLen ∧ (0 + (xs.map ruL).length) * 24 ≤ 140737488355328) := by
      show _ ∧ _
      rw [List.length_map]
      have := HL.out
      unfold maxLen
      omega
    go_wp2_with (refine wpList_appk tiRu (by rfl) _ _ (by rfl) w.heap.size N _ (.slice ao L cap) [] (xs.map ruL) (by rfl) (by rfl) ?_ ?_ HA.out.2.1 (ruL_len xs) (ruL_one xs) HS.out.1 HS.out.2 (by simp) ?_; exact OR.fresh _ _ _ _ (Nat.le_refl _); exact HA.out.1.below ((Below.refl _ _).alloc (Nat.le_refl _) _) HA.out.2.2.1)
    intro v1 w1 ho hg hv
    have HB1 : Hid (Below w.heap.size w w1) := ((Below.refl _ _).alloc (Nat.le_refl _) _).grown hg (by simp) (fun k hk => by simp [Value.ownBlock] at hk; omega)
    obtain ⟨ao1, cap1, hv1, hc1, -⟩ := ho.rk
    rw [List.length_map, ← HL.out] at hv1 hc1
    subst hv1
    have HO : Hid (OR w1 w.heap.size 26 3 (.slice ao1 L cap1) (xs.map ruL)) := ho
    clear ho hg hv
    obtain ⟨R, hR⟩ : ∃ R, R = mtF x xs := ⟨_, rfl⟩
    have HR : Hid (R = mtF x xs) := hR
    clear hR
    have HF1 : Hid (∀ u, Below w.heap.size w u → Calls Try.prog 9 #[.slice ao L cap, .int .u32 x] u fun e w' => e = .returned (.int .i64 R) ∧ Below u.heap.size u w') := fun u hu => by
      rw [HR.out]
      exact match_any N _ xs x u (Nat.le_trans HA.out.2.2.1 hu.size) (HA.out.1.below hu HA.out.2.2.1) (by rw [← HL.out]; omega) HA.out.2.2.2 x0 x1
    have HF3 : Hid (∀ u, Below w.heap.size w u → Calls Try.prog 10 #[.slice ao L cap, .int .u32 x] u fun e w' => e = .returned (.int .i64 R) ∧ Below u.heap.size u w') := fun u hu => by
      rw [HR.out]
      exact rmatch_any N _ xs x u (Nat.le_trans HA.out.2.2.1 hu.size) (HA.out.1.below hu HA.out.2.2.1) (by rw [← HL.out]; omega) HA.out.2.2.2 x0 x1
    go_wp2
    go_loopw [8] (fun i wr => ∃ (k : Nat), i = .int .i64 (k : Int) ∧ (k : Int) ≤ L ∧ (k : Int) ≤ M ∧ Hid (∃ ys : List Ru, ys.Perm xs ∧ OR wr w.heap.size 26 3 (.slice ao1 L cap1) (ys.map ruL)) ∧ Hid (Below w.heap.size w wr)) (fun i _ => (L - intOf i).toNat)
    case atStart => exact ⟨0, rfl, by omega, by omega, ⟨xs, List.Perm.refl _, HO.out⟩, HB1⟩
    case round =>
      obtain ⟨k, rfl, hk, hkm, hO, hB⟩ := hrel
      have HF2 : Hid (∀ u, Below wr.heap.size wr u → Calls Try.prog 9 #[.slice ao1 L cap1, .int .u32 x] u fun e w' => e = .returned (.int .i64 R) ∧ Below u.heap.size u w') := fun u hu => by
        obtain ⟨ys, hp, ho⟩ := hO.out
        rw [HR.out, ← mtF_perm x hp]
        exact match_any wr.heap.size _ ys x u hu.size (ho.rk.below hu (Nat.le_refl _)) (by rw [hp.length_eq, ← HL.out]; omega) (fun a ha => HA.out.2.2.2 a (hp.mem_iff.1 ha)) x0 x1
      by_cases hlt : (k : Int) < L
      · by_cases hlm : (k : Int) < M
        · obtain ⟨ys, hperm, hor⟩ := hO.out
          have hyl : ys.length = L := by rw [hperm.length_eq, HL.out]
          have hkx : k < ys.length := by omega
          obtain ⟨g, cap2, hf, hc2, hg1, hg2⟩ := hor.form (by rw [List.length_map]; omega)
          rw [List.length_map, hyl] at hf hc2
          injection hf with hf _ hf2
          subst hf hf2
          obtain ⟨p, hpe⟩ : ∃ p, p = ps.getD k 0 := ⟨_, rfl⟩
          obtain ⟨T, hT⟩ : ∃ T, T = p.tmod (L : Int) := ⟨_, rfl⟩
          have hLp : (0 : Int) < L := by omega
          have t0 : -(L : Int) < T := by rw [hT]; exact Int.lt_tmod_of_pos p hLp
          have t1 : T < L := by rw [hT]; exact Int.tmod_lt_of_pos p hLp
          obtain ⟨q, hq⟩ : ∃ q : Nat, (q : Int) = (T + L).tmod (L : Int) := ⟨((T + L).tmod (L : Int)).toNat, Int.toNat_of_nonneg (Int.tmod_nonneg _ (by omega))⟩
          have q1 : (q : Int) < L := by rw [hq]; exact Int.tmod_lt_of_pos _ hLp
          have eT : p.tmod (L : Int) = T := hT.symm
          have eQ : (T + L).tmod (L : Int) = (q : Int) := hq.symm
          obtain ⟨pad, hp1, hp2, hp3⟩ := hpcell k (by omega)
          have hpix : ∀ w, Sem.run Try.prog (Instr.indexAt 23 (.slice po M pcap) (.int .i64 (k : Int))) w = .ok (.pointer (some (pad.add k))) w := ix_i M pcap k hp1 hlm
          have hpc0 : wr.cell? (pad.add k) = some (.int .i64 p) := by
            rw [hB.out.cell (p := pad.add k) (by rw [add_block]; have := HA.out.2.2.1; omega)]
            have := hp3 0 (.int .i64 p) (by
              have hkl : k < ps.length := by have := HM.out; omega
              rw [getD_map _ ps k hkl, hpe, List.getD_eq_getElem?_getD, List.getElem?_eq_getElem hkl]; rfl)
            rwa [Nat.mul_one, Nat.add_zero] at this
          have hqx : q < ys.length := by omega
          clear hT hq hpe
          have hrl : (ys.map ruL).length = L := by rw [List.length_map, hyl]
          have C1 := hor.at k (by rw [hrl]; omega)
          rw [getD_map ruL ys k hkx] at C1
          have C2 := hor.at q (by rw [hrl]; omega)
          rw [getD_map ruL ys q hqx] at C2
          obtain ⟨E1, hE1⟩ : ∃ E, E = ys[k] := ⟨_, rfl⟩
          obtain ⟨E2, hE2⟩ : ∃ E, E = ys[q] := ⟨_, rfl⟩
          rw [← hE1] at C1
          rw [← hE2] at C2
          have HP : Hid (((ys.set k E2).set q E1).Perm xs) := by rw [hE1, hE2]; exact (List.set_set_perm hkx hqx).trans hperm
          have HOR : Hid (OR wr w.heap.size 26 3 (.slice (some ⟨g, 0, none⟩) (ys.map ruL).length cap1) (ys.map ruL)) := by rw [hrl]; exact hor
          have HC1 : Hid (∀ j u, (ruL E1)[j]? = some u → wr.cell? ((⟨g, k * 3, none⟩ : Addr).add j) = some u) := C1
          have HC2 : Hid (∀ o j u, (ruL E2)[j]? = some u → (wr.alloc o).cell? ((⟨g, q * 3, none⟩ : Addr).add j) = some u) := fun o j u hu => by
            rw [World.cell?_alloc_lt _ _ _ (by rw [add_block]; exact hg2)]; exact C2 j u hu
          have HY : Hid (ys.length = L ∧ k < ys.length ∧ q < ys.length) := ⟨hyl, hkx, hqx⟩
          clear hE1 hE2 C1 C2 hor hO HO hperm hrl hyl hkx hqx hp3 hp1
          obtain ⟨a1, b1, f1⟩ := E1
          obtain ⟨a2, b2, f2⟩ := E2
          simp only [ruL] at HC1 HC2
          go_wp2_with (first
            | (refine step_ldat 26 _ (by rfl) (by rfl) ⟨g, k * 3, none⟩ (by rfl) [.int .u32 a1, .int .i64 b1, .int .i64 f1] _ Try.underlying26 (by rfl) ru_info ?_ ?_; exact HC1.out)
            | (refine step_ldat 26 _ (by rfl) (by rfl) ⟨g, q * 3, none⟩ (by rfl) [.int .u32 a2, .int .i64 b2, .int .i64 f2] _ Try.underlying26 (by rfl) ru_info ?_ ?_; exact HC2.out _)
            | (refine wpList_stk (by rfl) 26 _ _ (by rfl) k [.int .u32 a2, .int .i64 b2, .int .i64 f2] (HOR.out.alloc _) ru_info (by rfl) (by rfl) (by rw [List.length_map]; exact HY.out.2.1) (by rfl) (one_ru _ _ _) ?_))
          intro w2 ho2 hg2' hz2
          have e0 : w2.cell? ⟨wr.heap.size, 0, none⟩ = some (.int .u32 a1) := hg2'.cell (by simp) (by intro e; injection e with e; simp at e; omega)
          have e1 : w2.cell? ⟨wr.heap.size, 1, none⟩ = some (.int .i64 b1) := hg2'.cell (by simp) (by intro e; injection e with e; simp at e; omega)
          have e2 : w2.cell? ⟨wr.heap.size, 2, none⟩ = some (.int .i64 f1) := hg2'.cell (by simp) (by intro e; injection e with e; simp at e; omega)
          have HB2 : Hid (Below w.heap.size w w2) := (hB.out.alloc hB.out.size _).grown hg2' (by have := hB.out.size; simp; omega) (fun k hk => by injection hk with hk; omega)
          have HO2 : Hid (OR w2 w.heap.size 26 3 (.slice (some ⟨g, 0, none⟩) ((ys.set k ⟨a2, b2, f2⟩).map ruL).length cap1) ((ys.set k ⟨a2, b2, f2⟩).map ruL)) := by
            show OR _ _ _ _ _ _
            rw [List.map_set, List.length_set, List.length_map]
            simpa [ruL] using ho2
          clear ho2 hg2' hz2
          go_wp2_with (refine wpList_stk (by rfl) 26 _ _ (by rfl) q [.int .u32 a1, .int .i64 b1, .int .i64 f1] HO2.out ru_info (by rfl) (by rfl) (by rw [List.length_map, List.length_set]; exact HY.out.2.2) (by rfl) (one_ru _ _ _) ?_)
          intro w3 ho3 hg3 hz3
          have HB3 : Hid (Below w.heap.size w w3) := HB2.out.grown hg3 HB2.out.size (fun k hk => by injection hk with hk; omega)
          have HO3 : Hid (∃ zs : List Ru, zs.Perm xs ∧ OR w3 w.heap.size 26 3 (.slice (some ⟨g, 0, none⟩) L cap1) (zs.map ruL)) := by
            refine ⟨_, HP.out, ?_⟩
            rw [List.map_set, List.map_set]
            have hl := HY.out.1
            rw [hl] at ho3
            exact ho3
          clear ho3 hg3 hz3
          go_wp2
          go_roundw
          case rel => exact ⟨k + 1, by go_num, by omega, by omega, HO3, HB3⟩
          case measure => simp [intOf]; omega
        · go_wp2_with fail
          refine (HF1.out _ hB.out).mono ?_
          rintro e w5 ⟨rfl, hb5⟩
          have HB5 : Hid (Below wr.heap.size wr w5) := hb5
          clear hb5
          go_wp2_with fail
          refine (HF2.out _ HB5.out).mono ?_
          rintro e w6 ⟨rfl, hb6⟩
          have HB6 : Hid (Below wr.heap.size wr w6) := HB5.out.trans (hb6.mono HB5.out.size)
          clear hb6
          go_wp2_with fail
          refine (HF2.out _ HB6.out).mono ?_
          rintro e w7 ⟨rfl, hb7⟩
          have HB7 : Hid (Below wr.heap.size wr w7) := HB6.out.trans (hb7.mono HB6.out.size)
          clear hb7
          go_wp2_with fail
          refine (HF3.out _ (hB.out.trans (HB7.out.mono hB.out.size))).mono ?_
          rintro e w8 ⟨rfl, hb8⟩
          have HB8 : Hid (Below wr.heap.size wr w8) := HB7.out.trans (hb8.mono HB7.out.size)
          clear hb8
          go_wp2_with fail
          go_ret
          exact ⟨rfl, hB.out.trans (HB8.out.mono hB.out.size)⟩
      · go_wp2_with fail
        refine (HF1.out _ hB.out).mono ?_
        rintro e w5 ⟨rfl, hb5⟩
        have HB5 : Hid (Below wr.heap.size wr w5) := hb5
        clear hb5
        go_wp2_with fail
        refine (HF2.out _ HB5.out).mono ?_
        rintro e w6 ⟨rfl, hb6⟩
        have HB6 : Hid (Below wr.heap.size wr w6) := HB5.out.trans (hb6.mono HB5.out.size)
        clear hb6
        go_wp2_with fail
        refine (HF2.out _ HB6.out).mono ?_
        rintro e w7 ⟨rfl, hb7⟩
        have HB7 : Hid (Below wr.heap.size wr w7) := HB6.out.trans (hb7.mono HB6.out.size)
        clear hb7
        go_wp2_with fail
        refine (HF3.out _ (hB.out.trans (HB7.out.mono hB.out.size))).mono ?_
        rintro e w8 ⟨rfl, hb8⟩
        have HB8 : Hid (Below wr.heap.size wr w8) := HB7.out.trans (hb8.mono HB7.out.size)
        clear hb8
        go_wp2_with fail
        go_ret
        exact ⟨rfl, hB.out.trans (HB8.out.mono hB.out.size)⟩
theorem RestrictTurned_row (v pv : Value) (x : Int) (xs : List Ru) (ps : List Int) (W : World) (ha : Rk W.heap.size W 3 v (xs.map ruL)) (hra : Ra' v) (hb : ∀ a ∈ xs, U32 a.addr ∧ I64 a.bits ∧ I64 a.flags) (hl : xs.length * 24 ≤ 140737488351232) (hp : Rk W.heap.size W 1 pv (ps.map fun p => [Value.int .i64 p])) (_ : Ra' pv) (_ : ∀ p ∈ ps, I64 p) (hpl : ps.length * 8 ≤ 140737488351232) (hx : U32 x) :
    Calls Try.prog 3 #[v, pv, .int .u32 x] W fun e w' => e = .returned (.bool true) ∧ Below W.heap.size W w' :=
  RestrictTurned_walk W.heap.size v pv xs ps x W (Nat.le_refl _) ha hra hp (by omega) (by omega) (fun a h => (hb a h).1) hx.1 hx.2
end Go.Proofs.Ytmgphfdieekpdaa
