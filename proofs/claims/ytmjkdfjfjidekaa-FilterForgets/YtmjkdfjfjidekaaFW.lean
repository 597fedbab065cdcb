/- Both filters beside one another; steps that came in. -/
import Derived.Test.YtmjkdfjfjidekaaFV
namespace Go.Proofs.Ytmjkdfjfjidekaa
open Go Go.RowKit Fi
/-- Best of both: one answer -/
theorem two_best (xs : List Smp) (t : Bool) (la now : Int) (ok : ∀ s ∈ xs, okS s) : ∃ (o d q j a : Int) (n t2 : Bool) (la2 : Int),
    (∀ w p, Fl w p xs t la → Calls Try.prog 10 #[.pointer (some ⟨p, 0, none⟩), .int .u64 now] w fun e w' => e = .returned (.agg (bsL o d q j a n).toArray) ∧ Fl w' p xs t2 la2 ∧ w.grownBy w' (some p)) ∧
    (∀ w g B la', Rf w g B xs t la' → (t = true → la = la') → ∃ la2', (t2 = true → la2 = la2') ∧ Calls Try.prog 12 #[.pointer (some ⟨g, 0, none⟩), .int .u64 now] w fun e w' => e = .returned (.agg (bsL o d q j a n).toArray) ∧ Rf w' g B xs t2 la2' ∧ w.grownBy w' (some g)) := by
  cases xs with
  | nil =>
    refine ⟨0, 0, 68719476736, 0, 0, false, t, la, fun w p h => ?_, fun w g B la' h hla => ⟨la', hla, ?_⟩⟩
    · refine (best_none p t la now w h).mono ?_
      rintro e w' ⟨rfl, hb⟩
      exact ⟨rfl, h.below hb h.lt, grownBy_below hb _⟩
    · refine (rbest_none now h).mono ?_
      rintro e w' ⟨rfl, hb⟩
      exact ⟨rfl, h.below hb (Nat.le_refl _), grownBy_below hb _⟩
  | cons x r =>
    refine ⟨_, _, _, _, _, _, _, _, fun w p h => best_any p (x :: r) t la now w h (by simp) ok, fun w g B la' h hla => ?_⟩
    have q := rbest_any now h (by simp) ok
    obtain ⟨a, ha⟩ : ∃ a, a = (fst (srt (x :: r))).a := ⟨_, rfl⟩
    rw [← ha] at q ⊢
    have e : nwB t la' a = nwB t la a := by
      cases t with
      | false => rfl
      | true => rw [hla rfl]
    rw [e] at q
    refine ⟨_, fun ht => ?_, q⟩
    unfold nwL
    rw [e]
    by_cases hn : nwB t la a = true
    · rw [if_pos hn, if_pos hn]
    · rw [if_neg hn, if_neg hn]
      cases t with
      | false => exact absurd rfl hn
      | true => exact hla rfl
/-- a call -/
structure Stp9 where
  kd : Int
  s : Smp
  now : Int
def sl9 (x : Stp9) : List Value := [.int .i64 x.kd, .int .i64 x.s.o, .int .i64 x.s.d, .int .i64 x.s.p, .int .u64 x.s.a, .int .u64 x.now]
def z9 : Stp9 := ⟨0, z0, 0⟩
/-- a slice below block N that reads as these calls -/
structure St9 (N : Nat) (w : World) (v : Value) (ss : List Stp9) : Prop where
  ex : ∃ ao cap, v = .slice ao ss.length cap ∧ ∀ k, k < ss.length → ∃ ad, ao = some ad ∧ ad.block < N ∧ ∀ j u, (sl9 (ss.getD k z9))[j]? = some u → w.cell? ((ad.add (k * 6)).add j) = some u
  ok : ∀ x ∈ ss, okS x.s
theorem St9.below {N B : Nat} {w w' : World} {v : Value} {ss : List Stp9} (h : St9 N w v ss) (hb : Below B w w') (hN : N ≤ B) : St9 N w' v ss := by
  obtain ⟨⟨ao, cap, h1, h2⟩, h3⟩ := h
  refine ⟨⟨ao, cap, h1, fun k hk => ?_⟩, h3⟩
  obtain ⟨ad, k1, k2, k3⟩ := h2 k hk
  exact ⟨ad, k1, k2, fun j u hu => (hb.cell (p := (ad.add (k * 6)).add j) (by rw [add_block, add_block]; omega)).trans (k3 j u hu)⟩
theorem St9.at {N : Nat} {w : World} {ao : Option Addr} {n cap : Nat} {ss : List Stp9} (h : St9 N w (.slice ao n cap) ss) (k : Nat) (hk : k < ss.length) : ∃ ad : Addr, (∀ u, Sem.run Try.prog (Instr.indexAt 36 (.slice ao n cap) (.int .i64 (k : Int))) u = .ok (.pointer (some ad)) u) ∧ ad.block < N ∧ ∀ j u, (sl9 (ss.getD k z9))[j]? = some u → w.cell? (ad.add j) = some u := by
  obtain ⟨⟨ao', cap', h1, h2⟩, _⟩ := h
  injection h1 with e1 e2 e3
  subst e1 e2 e3
  obtain ⟨ad, k1, k2, k3⟩ := h2 k hk
  refine ⟨ad.add (k * 6), fun u => ?_, by rw [add_block]; exact k2, k3⟩
  subst k1
  have u' := Try.underlying36
  have c3 : Try.prog.cellsOf 41 = 6 := by kernel_rfl
  have h0 : (0 : Int) ≤ k := Int.natCast_nonneg k
  have h1 : (k : Int) < ss.length := by omega
  go_simp
set_option maxRecDepth 20000 in
set_option maxHeartbeats 2000000 in
theorem FilterScript_row (v : Value) (ss : List Stp9) (w : World) (hv : St9 w.heap.size w v ss) :
    Calls Try.prog 4 #[v] w fun e w' => e = .returned (.bool true) ∧ Below w.heap.size w w' := by
  obtain ⟨ao, cap, rfl, -⟩ := hv.ex
  obtain ⟨n, hn⟩ : ∃ n, n = ss.length := ⟨_, rfl⟩
  rw [← hn] at hv ⊢
  have HV : Hid (St9 w.heap.size w (.slice ao n cap) ss ∧ n = ss.length) := ⟨hv, hn⟩
  clear hv hn
  by_cases h1 : 65536 < (n : Int)
  · go_enter Try.func4, Try.ntmps4
    go_wp2
    go_ret
    exact ⟨rfl, (by repeat' (first | with_reducible exact Below.refl _ _ | with_reducible refine Below.setCell ?_ (by first | (simp; done) | (simp; omega) | omega) _ | with_reducible refine below_drewN ?_ _ | with_reducible refine Below.drew ?_ | with_reducible refine Below.alloc ?_ (by first | (simp; done) | (simp; omega) | omega) _))⟩
  go_enter Try.func4, Try.ntmps4
  refine post_hid fun Q hQ => ?_
  go_wp2_with fail
  refine (new_any w).mono ?_
  rintro e w1 ⟨rfl, hl1, hb1, hz1⟩
  obtain ⟨p, hp⟩ : ∃ p, p = w.heap.size := ⟨_, rfl⟩
  rw [← hp] at hl1 ⊢
  obtain ⟨g, hg⟩ : ∃ g, w1.heap.size = g := ⟨_, rfl⟩
  have HP : Hid (p = w.heap.size ∧ g = p + 1) := ⟨hp, by rw [← hg, hz1, hp]⟩
  have H1 : Hid (Fl w1 p [] false 0 ∧ Below w.heap.size w w1) := ⟨hl1, hb1⟩
  clear hl1 hb1 hz1 hp
  go_wp2_with fail
  have HG0 : Hid (Rf (w1.alloc (.cells #[.slice none 0 0, .bool false, .int .u64 0] 39)) g (p + 2) [] false 0 ∧ Fl (w1.alloc (.cells #[.slice none 0 0, .bool false, .int .u64 0] 39)) p [] false 0 ∧ Below w.heap.size w (w1.alloc (.cells #[.slice none 0 0, .bool false, .int .u64 0] 39))) := by
    have hb : Below w1.heap.size w1 (w1.alloc (.cells #[.slice none 0 0, .bool false, .int .u64 0] 39)) := (Below.refl _ _).alloc (Nat.le_refl _) _
    have e := HP.out.2
    refine ⟨⟨by omega, by simp [hg]; omega, by simp, .slice none 0 0, ?_, Sv4.nil _ _⟩, H1.out.1.below hb H1.out.1.lt, H1.out.2.alloc H1.out.2.size _⟩
    rw [← hg]; exact Bk.new _ _ _
  clear H1
  go_loopw [5] (fun i wr => ∃ (k : Nat) (xs : List Smp) (t : Bool) (la lb : Int), i = .int .i64 k ∧ (k : Int) ≤ n ∧ Hid (Fl wr p xs t la ∧ Rf wr g (p + 2) xs t lb ∧ (t = true → la = lb) ∧ (∀ s ∈ xs, okS s) ∧ Below w.heap.size w wr)) (fun i _ => n - (intOf i).toNat)
  case atStart => exact ⟨0, [], false, 0, 0, rfl, by omega, ⟨HG0.out.2.1, HG0.out.1, fun h => (by cases h), fun s hs => (by cases hs), HG0.out.2.2⟩⟩
  case round =>
    clear HG0
    obtain ⟨k, xs, t, la, lb, rfl, hk, HK⟩ := hrel
    by_cases hlt : (k : Int) < n
    · have hkx : k < ss.length := by have := HV.out.2; omega
      obtain ⟨ad, hix, hab, hac⟩ := (HV.out.1.below HK.out.2.2.2.2 (Nat.le_refl _)).at k hkx
      have oky : okS (ss.getD k z9).s := HV.out.1.ok _ (by rw [List.getD_eq_getElem?_getD, List.getElem?_eq_getElem hkx]; exact List.getElem_mem hkx)
      obtain ⟨y, hy⟩ : ∃ y, y = ss.getD k z9 := ⟨_, rfl⟩
      rw [← hy] at hac oky
      obtain ⟨kd, ⟨so, sd, sp, sa⟩, now⟩ := y
      have HC : Hid (∀ j u, ([.int .i64 kd, .int .i64 so, .int .i64 sd, .int .i64 sp, .int .u64 sa, .int .u64 now] : List Value)[j]? = some u → wr.cell? (ad.add j) = some u) := hac
      have HO : Hid (okS ⟨so, sd, sp, sa⟩) := oky
      obtain ⟨ob, hob⟩ : ∃ ob, wr.heap.size = ob := ⟨_, rfl⟩
      have HT : Hid ((wr.alloc (.cells #[.int .i64 0, .int .i64 0, .int .i64 0, .int .i64 0, .int .u64 0, .int .u64 0] 41)).heap[ob]? = some (.cells #[.int .i64 0, .int .i64 0, .int .i64 0, .int .i64 0, .int .u64 0, .int .u64 0] 41 (0, 0))) := by
        have h0 := alloc_at wr (.cells #[.int .i64 0, .int .i64 0, .int .i64 0, .int .i64 0, .int .u64 0, .int .u64 0] 41)
        rw [hob] at h0
        exact h0
      obtain ⟨W3, hW3⟩ : ∃ W3, W3 = (wr.alloc (.cells #[.int .i64 0, .int .i64 0, .int .i64 0, .int .i64 0, .int .u64 0, .int .u64 0] 41)).setRow ob #[.int .i64 kd, .int .i64 so, .int .i64 sd, .int .i64 sp, .int .u64 sa, .int .u64 now] := ⟨_, rfl⟩
      have hB3 : Bk ob W3 #[.int .i64 kd, .int .i64 so, .int .i64 sd, .int .i64 sp, .int .u64 sa, .int .u64 now] 41 := by rw [hW3]; exact setRow_heap _ _ _ _ _ _ HT.out
      have hb3 : Below wr.heap.size wr W3 := by rw [hW3]; exact below_row ((Below.refl _ _).alloc (Nat.le_refl _) _) (Nat.le_of_eq hob) _
      have H3 : Hid (Bk ob W3 #[.int .i64 kd, .int .i64 so, .int .i64 sd, .int .i64 sp, .int .u64 sa, .int .u64 now] 41 ∧ Fl W3 p xs t la ∧ Rf W3 g (p + 2) xs t lb ∧ Below w.heap.size w W3 ∧ p + 2 ≤ ob) := ⟨hB3, HK.out.1.below hb3 HK.out.1.lt, HK.out.2.1.below hb3 (Nat.le_refl _), HK.out.2.2.2.2.trans (hb3.mono HK.out.2.2.2.2.size), by rw [← hob]; exact HK.out.2.1.le⟩
      have o0 : W3.cell? ⟨ob, 0, none⟩ = some (.int .i64 kd) := hB3.cell 0
      have o5 : W3.cell? ⟨ob, 5, none⟩ = some (.int .u64 now) := hB3.cell 5
      have HC3 : Hid (∀ j u, ([.int .i64 so, .int .i64 sd, .int .i64 sp, .int .u64 sa] : List Value)[j]? = some u → W3.cell? ((⟨ob, 1, none⟩ : Addr).add j) = some u) := fun j u hu => by
        rw [add_at, hB3.cell]
        match j, hu with
        | 0, hu => exact hu
        | 1, hu => exact hu
        | 2, hu => exact hu
        | 3, hu => exact hu
      have HW3 : Hid (W3 = (wr.alloc (.cells #[.int .i64 0, .int .i64 0, .int .i64 0, .int .i64 0, .int .u64 0, .int .u64 0] 41)).setRow ob #[.int .i64 kd, .int .i64 so, .int .i64 sd, .int .i64 sp, .int .u64 sa, .int .u64 now]) := hW3
      clear hac hkx hab hy oky hB3 hb3 hW3
      by_cases k0 : kd = 0
      · subst k0
        have HA : Hid _ := fadd_any p xs t la ⟨so, sd, sp, sa⟩ W3 H3.out.2.1
        go_wp2_with (first | (refine step_ldat 41 _ rfl rfl ad (by rfl) [.int .i64 0, .int .i64 so, .int .i64 sd, .int .i64 sp, .int .u64 sa, .int .u64 now] _ Try.underlying41 rfl (by kernel_rfl) HC.out ?_) | (refine step_stR (by rfl) _ _ rfl ob #[.int .i64 0, .int .i64 so, .int .i64 sd, .int .i64 sp, .int .u64 sa, .int .u64 now] (by rfl) (by rfl) #[.int .i64 0, .int .i64 0, .int .i64 0, .int .i64 0, .int .u64 0, .int .u64 0] (by kernel_rfl) (by rfl) (by kernel_rfl) HT.out ?_; rw [← HW3.out]) | (refine step_ldat 27 _ rfl rfl ⟨ob, 1, none⟩ (by rfl) [.int .i64 so, .int .i64 sd, .int .i64 sp, .int .u64 sa] _ Try.underlying27 rfl (by kernel_rfl) HC3.out ?_))
        refine Calls.mono HA.out ?_
        rintro e w4 ⟨rfl, hl4, hg4⟩
        have hR4 := H3.out.2.2.1.grown hg4 (by omega) (by have := HP.out.2; omega)
        have hB4 : Bk ob w4 #[.int .i64 0, .int .i64 so, .int .i64 sd, .int .i64 sp, .int .u64 sa, .int .u64 now] 41 := H3.out.1.kept (hg4.block _ H3.out.1.lt (fun e => by have := H3.out.2.2.2.2; injection e with e; omega))
        have HC4 : Hid (∀ j u, ([.int .i64 so, .int .i64 sd, .int .i64 sp, .int .u64 sa] : List Value)[j]? = some u → w4.cell? ((⟨ob, 1, none⟩ : Addr).add j) = some u) := fun j u hu => by
          rw [add_at, hB4.cell]
          match j, hu with
          | 0, hu => exact hu
          | 1, hu => exact hu
          | 2, hu => exact hu
          | 3, hu => exact hu
        have HA2 : Hid _ := rfadd_any ⟨so, sd, sp, sa⟩ hR4
        have H4 : Hid (Fl w4 p (adS xs ⟨so, sd, sp, sa⟩) t la ∧ Below w.heap.size w w4) := ⟨hl4, below_grown H3.out.2.2.2.1 hg4 (Nat.le_of_eq HP.out.1.symm)⟩
        clear hl4 hg4 hR4 hB4 HA
        go_wp2_with (refine step_ldat 27 _ rfl rfl ⟨ob, 1, none⟩ (by rfl) [.int .i64 so, .int .i64 sd, .int .i64 sp, .int .u64 sa] _ Try.underlying27 rfl (by kernel_rfl) HC4.out ?_)
        refine Calls.mono HA2.out ?_
        rintro e w5 ⟨rfl, hr5, hg5⟩
        have HU : Hid (Fl w5 p (adS xs ⟨so, sd, sp, sa⟩) t la ∧ Rf w5 g (p + 2) (adS xs ⟨so, sd, sp, sa⟩) t lb ∧ (t = true → la = lb) ∧ (∀ s ∈ adS xs ⟨so, sd, sp, sa⟩, okS s) ∧ Below w.heap.size w w5) := ⟨H4.out.1.grown hg5 (fun e => by have := HP.out.2; injection e with e; omega), hr5, HK.out.2.2.1, adS_ok HK.out.2.2.2.1 HO.out, below_grown H4.out.2 hg5 (by have := HP.out; omega)⟩
        clear hr5 hg5 HA2 H4 H3 HC HC3 HC4 HT HW3 o0 o5
        go_wp2_with fail
        refine (fsamples_any HU.out.1).mono ?_
        rintro e w3 ⟨lv, rfl, ho3, hb3⟩
        obtain ⟨lo, ln, lc, rfl⟩ : ∃ ao n cap, lv = .slice ao n cap := by obtain ⟨ao, cap, e, _⟩ := ho3.sv.ex; exact ⟨ao, _, cap, e⟩
        have hlen := ho3.sv.len
        obtain ⟨m, hm⟩ : ∃ m, m = (adS xs ⟨so, sd, sp, sa⟩).length := ⟨_, rfl⟩
        rw [← hm] at hlen
        have hm8 : (m : Int) ≤ 8 := by have := HU.out.1.len; omega
        obtain ⟨r1, r2, r3, dv, r4, r5⟩ := HU.out.2.1.below hb3 (Nat.le_refl _)
        have cd : w3.cell? ⟨g, 0, none⟩ = some dv := r4.cell 0
        have HSa : Hid (Calls Try.prog 16 #[.slice lo ln lc, dv] w3 fun e w' => e = .returned (.bool true) ∧ ∃ n, w' = w3.drewN n) := same_any _ _ _ _ (adS xs ⟨so, sd, sp, sa⟩) w3 ho3.sv r5 (by have := HU.out.1.len; omega)
        have HM : Hid (m = (adS xs ⟨so, sd, sp, sa⟩).length) := hm
        have H3 : Hid (O4 w3 w5.heap.size (.slice lo ln lc) (adS xs ⟨so, sd, sp, sa⟩) ∧ Below w5.heap.size w5 w3) := ⟨ho3, hb3⟩
        clear ho3 hb3 hm r1 r2 r3 r4 r5
        go_wp2_with fail
        refine HSa.out.mono ?_
        rintro e w6 ⟨rfl, nq, hw6⟩
        have H6 : Hid (O4 w6 w5.heap.size (.slice lo ln lc) (adS xs ⟨so, sd, sp, sa⟩) ∧ Below w5.heap.size w5 w6) := by
          rw [hw6]; exact ⟨OR.drewN H3.out.1 nq, below_dr H3.out.2 nq⟩
        clear hw6 HSa H3 cd
        go_wp2_with fail
        go_loopw [8] (fun i wi => ∃ (j : Nat), i = .int .i64 j ∧ (j : Int) ≤ m ∧ Hid ((∃ zs : List Smp, zs.length = m ∧ O4 wi w5.heap.size (.slice lo ln lc) zs) ∧ Below w5.heap.size w5 wi)) (fun i _ => m - (intOf i).toNat)
        case atStart => exact ⟨0, rfl, by omega, ⟨⟨_, HM.out.symm, H6.out.1⟩, H6.out.2⟩⟩
        case round =>
          clear H6
          obtain ⟨j, rfl, hj, HJ⟩ := hrel
          by_cases hjm : (j : Int) < m
          · obtain ⟨zs, hz1, hz2⟩ := HJ.out.1
            obtain ⟨lg, cp, hform, hcap, hlg, hlt6⟩ := OR.form hz2 (by rw [List.length_map]; omega)
            injection hform with f1 f2 f3
            subst f1 f3
            have hix6 := ix_sl lg ln lc j (by rw [f2, List.length_map, hz1]; exact hjm)
            have hz3 : OR wr w5.heap.size 27 4 (.slice (some ⟨lg, 0, none⟩) (zs.map smL).length lc) (zs.map smL) := by rw [← f2]; exact hz2
            have HO6 : Hid _ := hz3
            have HZ : Hid (zs.length = m ∧ j < (zs.map smL).length ∧ w5.heap.size ≤ lg ∧ ln = (zs.map smL).length) := ⟨hz1, by rw [List.length_map, hz1]; omega, hlg, f2⟩
            clear hz1 hz2 hz3 hcap hlg hlt6 f2
            go_wp2_with (refine wpList_stk rfl 27 _ _ rfl j (smL ⟨77, 0, 0, 0⟩) HO6.out (by kernel_rfl) (by rfl) (by rfl) HZ.out.2.1 rfl (smL_one _) ?_; intro w7 ho7 hg7 hz7)
            have H7 : Hid ((∃ zs : List Smp, zs.length = m ∧ O4 w7 w5.heap.size (.slice (some ⟨lg, 0, none⟩) ln lc) zs) ∧ Below w5.heap.size w5 w7) := by
              refine ⟨⟨zs.set j ⟨77, 0, 0, 0⟩, by rw [List.length_set]; exact HZ.out.1, ?_⟩, below_grown HJ.out.2 hg7 HZ.out.2.2.1⟩
              unfold O4
              rw [List.map_set, HZ.out.2.2.2]
              exact ho7
            clear ho7 hg7 hz7 HO6
            go_wp2_with fail
            go_roundw
            case rel => exact ⟨j + 1, by go_num, by omega, H7⟩
            case measure => simp [intOf]; omega
          · have hjm' : j = m := by omega
            subst hjm'
            have HE : Hid (Fl wr p (adS xs ⟨so, sd, sp, sa⟩) t la ∧ Rf wr g (p + 2) (adS xs ⟨so, sd, sp, sa⟩) t lb ∧ (t = true → la = lb) ∧ (∀ s ∈ (adS xs ⟨so, sd, sp, sa⟩), okS s) ∧ Below w.heap.size w wr) := ⟨HU.out.1.below HJ.out.2 HU.out.1.lt, HU.out.2.1.below HJ.out.2 (Nat.le_refl _), HU.out.2.2.1, HU.out.2.2.2.1, HU.out.2.2.2.2.trans (HJ.out.2.mono HU.out.2.2.2.2.size)⟩
            clear HJ
            go_wp2_with fail
            go_roundw
            case rel => exact ⟨k + 1, (adS xs ⟨so, sd, sp, sa⟩), t, la, lb, by go_num, by omega, HE⟩
            case measure => simp [intOf]; omega
      · have k0' : (kd == 0) = false := by simpa using k0
        by_cases k1 : kd = 1
        · subst k1
          obtain ⟨bo, bd, bq, bj, ba, bn, t2, la2, hF, hR⟩ := two_best xs t la now HK.out.2.2.2.1
          unfold bsL at hF hR
          have HF : Hid _ := hF
          have HRr : Hid _ := hR
          have hob5 : ob < W3.heap.size := H3.out.1.lt
          clear hF hR k0
          go_wp2_with (first | (refine step_ldat 41 _ rfl rfl ad (by rfl) [.int .i64 1, .int .i64 so, .int .i64 sd, .int .i64 sp, .int .u64 sa, .int .u64 now] _ Try.underlying41 rfl (by kernel_rfl) HC.out ?_) | (refine step_stR (by rfl) _ _ rfl ob #[.int .i64 1, .int .i64 so, .int .i64 sd, .int .i64 sp, .int .u64 sa, .int .u64 now] (by rfl) (by rfl) #[.int .i64 0, .int .i64 0, .int .i64 0, .int .i64 0, .int .u64 0, .int .u64 0] (by kernel_rfl) (by rfl) (by kernel_rfl) HT.out ?_; rw [← HW3.out]))
          go_region_held3 (fun w' => w'.cell? ⟨ob, 5, none⟩ = some (.int .u64 now)) (first | with_reducible exact o5 | with_reducible exact d5 | with_reducible exact e5 | go_keep) (first
            | (go_at_call 10; refine Calls.mono (HF.out _ p (H3.out.2.1.kept rfl)) ?_; rintro e w4 ⟨rfl, hl4, hg4⟩; have HG4 : Hid (Fl w4 p xs t2 la2 ∧ W3.grownBy w4 (some p)) := ⟨hl4, (by first | exact hg4 | exact grownBy_trans (grownBy_drew W3 _) hg4)⟩; have hk4 := H3.out.1.kept (HG4.out.2.block _ H3.out.1.lt (fun e => by have := H3.out.2.2.2.2; injection e with e; omega)); have d5 : w4.cell? ⟨ob, 5, none⟩ = some (.int .u64 now) := hk4.cell 5)
            | (go_at_call 12; obtain ⟨lb2, hlb2, hcc⟩ := HRr.out w4 g (p + 2) lb (H3.out.2.2.1.grown HG4.out.2 (by omega) (by have := HP.out.2; omega)) HK.out.2.2.1; refine hcc.mono ?_; rintro e w5 ⟨rfl, hr5, hg5⟩; have HU : Hid (Fl w5 p xs t2 la2 ∧ Rf w5 g (p + 2) xs t2 lb2 ∧ (t2 = true → la2 = lb2) ∧ (∀ s ∈ xs, okS s) ∧ Below w.heap.size w w5) := ⟨HG4.out.1.grown hg5 (fun e => by have := HP.out.2; injection e with e; omega), hr5, hlb2, HK.out.2.2.2.1, below_grown (below_grown H3.out.2.2.2.1 HG4.out.2 (Nat.le_of_eq HP.out.1.symm)) hg5 (by have := HP.out; omega)⟩; have hk5 := hk4.kept (hg5.block _ hk4.lt (fun e => by have := H3.out.2.2.2.2; have := HP.out.2; injection e with e; omega)); have e5 : w5.cell? ⟨ob, 5, none⟩ = some (.int .u64 now) := hk5.cell 5))
          clear hl4 hg4 HG4 hk4 d5 hcc hr5 hg5 hk5 e5 hlb2 H3 HC HC3 HT HW3 o0 o5 HF HRr hob5
          go_wp2_with fail
          refine (fsamples_any HU.out.1).mono ?_
          rintro e w3 ⟨lv, rfl, ho3, hb3⟩
          obtain ⟨lo, ln, lc, rfl⟩ : ∃ ao n cap, lv = .slice ao n cap := by obtain ⟨ao, cap, e, _⟩ := ho3.sv.ex; exact ⟨ao, _, cap, e⟩
          have hlen := ho3.sv.len
          obtain ⟨m, hm⟩ : ∃ m, m = xs.length := ⟨_, rfl⟩
          rw [← hm] at hlen
          have hm8 : (m : Int) ≤ 8 := by have := HU.out.1.len; omega
          obtain ⟨r1, r2, r3, dv, r4, r5⟩ := HU.out.2.1.below hb3 (Nat.le_refl _)
          have cd : w3.cell? ⟨g, 0, none⟩ = some dv := r4.cell 0
          have HSa : Hid (Calls Try.prog 16 #[.slice lo ln lc, dv] w3 fun e w' => e = .returned (.bool true) ∧ ∃ n, w' = w3.drewN n) := same_any _ _ _ _ xs w3 ho3.sv r5 (by have := HU.out.1.len; omega)
          have HM : Hid (m = xs.length) := hm
          have H3 : Hid (O4 w3 w5.heap.size (.slice lo ln lc) xs ∧ Below w5.heap.size w5 w3) := ⟨ho3, hb3⟩
          clear ho3 hb3 hm r1 r2 r3 r4 r5
          go_wp2_with fail
          refine HSa.out.mono ?_
          rintro e w6 ⟨rfl, nq, hw6⟩
          have H6 : Hid (O4 w6 w5.heap.size (.slice lo ln lc) xs ∧ Below w5.heap.size w5 w6) := by
            rw [hw6]; exact ⟨OR.drewN H3.out.1 nq, below_dr H3.out.2 nq⟩
          clear hw6 HSa H3 cd
          go_wp2_with fail
          go_loopw [8] (fun i wi => ∃ (j : Nat), i = .int .i64 j ∧ (j : Int) ≤ m ∧ Hid ((∃ zs : List Smp, zs.length = m ∧ O4 wi w5.heap.size (.slice lo ln lc) zs) ∧ Below w5.heap.size w5 wi)) (fun i _ => m - (intOf i).toNat)
          case atStart => exact ⟨0, rfl, by omega, ⟨⟨_, HM.out.symm, H6.out.1⟩, H6.out.2⟩⟩
          case round =>
            clear H6
            obtain ⟨j, rfl, hj, HJ⟩ := hrel
            by_cases hjm : (j : Int) < m
            · obtain ⟨zs, hz1, hz2⟩ := HJ.out.1
              obtain ⟨lg, cp, hform, hcap, hlg, hlt6⟩ := OR.form hz2 (by rw [List.length_map]; omega)
              injection hform with f1 f2 f3
              subst f1 f3
              have hix6 := ix_sl lg ln lc j (by rw [f2, List.length_map, hz1]; exact hjm)
              have hz3 : OR wr w5.heap.size 27 4 (.slice (some ⟨lg, 0, none⟩) (zs.map smL).length lc) (zs.map smL) := by rw [← f2]; exact hz2
              have HO6 : Hid _ := hz3
              have HZ : Hid (zs.length = m ∧ j < (zs.map smL).length ∧ w5.heap.size ≤ lg ∧ ln = (zs.map smL).length) := ⟨hz1, by rw [List.length_map, hz1]; omega, hlg, f2⟩
              clear hz1 hz2 hz3 hcap hlg hlt6 f2
              go_wp2_with (refine wpList_stk rfl 27 _ _ rfl j (smL ⟨77, 0, 0, 0⟩) HO6.out (by kernel_rfl) (by rfl) (by rfl) HZ.out.2.1 rfl (smL_one _) ?_; intro w7 ho7 hg7 hz7)
              have H7 : Hid ((∃ zs : List Smp, zs.length = m ∧ O4 w7 w5.heap.size (.slice (some ⟨lg, 0, none⟩) ln lc) zs) ∧ Below w5.heap.size w5 w7) := by
                refine ⟨⟨zs.set j ⟨77, 0, 0, 0⟩, by rw [List.length_set]; exact HZ.out.1, ?_⟩, below_grown HJ.out.2 hg7 HZ.out.2.2.1⟩
                unfold O4
                rw [List.map_set, HZ.out.2.2.2]
                exact ho7
              clear ho7 hg7 hz7 HO6
              go_wp2_with fail
              go_roundw
              case rel => exact ⟨j + 1, by go_num, by omega, H7⟩
              case measure => simp [intOf]; omega
            · have hjm' : j = m := by omega
              subst hjm'
              have HE : Hid (Fl wr p xs t2 la2 ∧ Rf wr g (p + 2) xs t2 lb2 ∧ (t2 = true → la2 = lb2) ∧ (∀ s ∈ xs, okS s) ∧ Below w.heap.size w wr) := ⟨HU.out.1.below HJ.out.2 HU.out.1.lt, HU.out.2.1.below HJ.out.2 (Nat.le_refl _), HU.out.2.2.1, HU.out.2.2.2.1, HU.out.2.2.2.2.trans (HJ.out.2.mono HU.out.2.2.2.2.size)⟩
              clear HJ
              go_wp2_with fail
              go_roundw
              case rel => exact ⟨k + 1, xs, t2, la2, lb2, by go_num, by omega, HE⟩
              case measure => simp [intOf]; omega
        · have k1' : (kd == 1) = false := by simpa using k1
          by_cases k2 : kd = 2
          · subst k2
            have HCl : Hid _ := fclear_any H3.out.2.1
            clear k0 k1
            go_wp2_with (first | (refine step_ldat 41 _ rfl rfl ad (by rfl) [.int .i64 2, .int .i64 so, .int .i64 sd, .int .i64 sp, .int .u64 sa, .int .u64 now] _ Try.underlying41 rfl (by kernel_rfl) HC.out ?_) | (refine step_stR (by rfl) _ _ rfl ob #[.int .i64 2, .int .i64 so, .int .i64 sd, .int .i64 sp, .int .u64 sa, .int .u64 now] (by rfl) (by rfl) #[.int .i64 0, .int .i64 0, .int .i64 0, .int .i64 0, .int .u64 0, .int .u64 0] (by kernel_rfl) (by rfl) (by kernel_rfl) HT.out ?_; rw [← HW3.out]))
            refine Calls.mono HCl.out ?_
            rintro e w4 ⟨rfl, hl4, hg4⟩
            have HR4 : Hid _ := rclear_any (H3.out.2.2.1.grown hg4 (by omega) (by have := HP.out.2; omega))
            have H4 : Hid (Fl w4 p [] false 0 ∧ Below w.heap.size w w4) := ⟨hl4, below_grown H3.out.2.2.2.1 hg4 (Nat.le_of_eq HP.out.1.symm)⟩
            clear hl4 hg4 HCl
            go_wp2_with fail
            refine Calls.mono HR4.out ?_
            rintro e w5 ⟨rfl, hr5, hg5⟩
            obtain ⟨ys, hys⟩ : ∃ ys : List Smp, ys = [] := ⟨_, rfl⟩
            have HU : Hid (Fl w5 p ys false 0 ∧ Rf w5 g (p + 2) ys false lb ∧ (false = true → (0 : Int) = lb) ∧ (∀ s ∈ ys, okS s) ∧ Below w.heap.size w w5) := by
              rw [hys]
              exact ⟨H4.out.1.grown hg5 (fun e => by have := HP.out.2; injection e with e; omega), hr5, fun h => (by cases h), fun s hs => (by cases hs), below_grown H4.out.2 hg5 (by have := HP.out; omega)⟩
            clear hr5 hg5 HR4 H4 H3 HC HC3 HT HW3 o0 o5 hys
            go_wp2_with fail
            refine (fsamples_any HU.out.1).mono ?_
            rintro e w3 ⟨lv, rfl, ho3, hb3⟩
            obtain ⟨lo, ln, lc, rfl⟩ : ∃ ao n cap, lv = .slice ao n cap := by obtain ⟨ao, cap, e, _⟩ := ho3.sv.ex; exact ⟨ao, _, cap, e⟩
            have hlen := ho3.sv.len
            obtain ⟨m, hm⟩ : ∃ m, m = ys.length := ⟨_, rfl⟩
            rw [← hm] at hlen
            have hm8 : (m : Int) ≤ 8 := by have := HU.out.1.len; omega
            obtain ⟨r1, r2, r3, dv, r4, r5⟩ := HU.out.2.1.below hb3 (Nat.le_refl _)
            have cd : w3.cell? ⟨g, 0, none⟩ = some dv := r4.cell 0
            have HSa : Hid (Calls Try.prog 16 #[.slice lo ln lc, dv] w3 fun e w' => e = .returned (.bool true) ∧ ∃ n, w' = w3.drewN n) := same_any _ _ _ _ ys w3 ho3.sv r5 (by have := HU.out.1.len; omega)
            have HM : Hid (m = ys.length) := hm
            have H3 : Hid (O4 w3 w5.heap.size (.slice lo ln lc) ys ∧ Below w5.heap.size w5 w3) := ⟨ho3, hb3⟩
            clear ho3 hb3 hm r1 r2 r3 r4 r5
            go_wp2_with fail
            refine HSa.out.mono ?_
            rintro e w6 ⟨rfl, nq, hw6⟩
            have H6 : Hid (O4 w6 w5.heap.size (.slice lo ln lc) ys ∧ Below w5.heap.size w5 w6) := by
              rw [hw6]; exact ⟨OR.drewN H3.out.1 nq, below_dr H3.out.2 nq⟩
            clear hw6 HSa H3 cd
            go_wp2_with fail
            go_loopw [8] (fun i wi => ∃ (j : Nat), i = .int .i64 j ∧ (j : Int) ≤ m ∧ Hid ((∃ zs : List Smp, zs.length = m ∧ O4 wi w5.heap.size (.slice lo ln lc) zs) ∧ Below w5.heap.size w5 wi)) (fun i _ => m - (intOf i).toNat)
            case atStart => exact ⟨0, rfl, by omega, ⟨⟨_, HM.out.symm, H6.out.1⟩, H6.out.2⟩⟩
            case round =>
              clear H6
              obtain ⟨j, rfl, hj, HJ⟩ := hrel
              by_cases hjm : (j : Int) < m
              · obtain ⟨zs, hz1, hz2⟩ := HJ.out.1
                obtain ⟨lg, cp, hform, hcap, hlg, hlt6⟩ := OR.form hz2 (by rw [List.length_map]; omega)
                injection hform with f1 f2 f3
                subst f1 f3
                have hix6 := ix_sl lg ln lc j (by rw [f2, List.length_map, hz1]; exact hjm)
                have hz3 : OR wr w5.heap.size 27 4 (.slice (some ⟨lg, 0, none⟩) (zs.map smL).length lc) (zs.map smL) := by rw [← f2]; exact hz2
                have HO6 : Hid _ := hz3
                have HZ : Hid (zs.length = m ∧ j < (zs.map smL).length ∧ w5.heap.size ≤ lg ∧ ln = (zs.map smL).length) := ⟨hz1, by rw [List.length_map, hz1]; omega, hlg, f2⟩
                clear hz1 hz2 hz3 hcap hlg hlt6 f2
                go_wp2_with (refine wpList_stk rfl 27 _ _ rfl j (smL ⟨77, 0, 0, 0⟩) HO6.out (by kernel_rfl) (by rfl) (by rfl) HZ.out.2.1 rfl (smL_one _) ?_; intro w7 ho7 hg7 hz7)
                have H7 : Hid ((∃ zs : List Smp, zs.length = m ∧ O4 w7 w5.heap.size (.slice (some ⟨lg, 0, none⟩) ln lc) zs) ∧ Below w5.heap.size w5 w7) := by
                  refine ⟨⟨zs.set j ⟨77, 0, 0, 0⟩, by rw [List.length_set]; exact HZ.out.1, ?_⟩, below_grown HJ.out.2 hg7 HZ.out.2.2.1⟩
                  unfold O4
                  rw [List.map_set, HZ.out.2.2.2]
                  exact ho7
                clear ho7 hg7 hz7 HO6
                go_wp2_with fail
                go_roundw
                case rel => exact ⟨j + 1, by go_num, by omega, H7⟩
                case measure => simp [intOf]; omega
              · have hjm' : j = m := by omega
                subst hjm'
                have HE : Hid (Fl wr p ys false 0 ∧ Rf wr g (p + 2) ys false lb ∧ (false = true → 0 = lb) ∧ (∀ s ∈ ys, okS s) ∧ Below w.heap.size w wr) := ⟨HU.out.1.below HJ.out.2 HU.out.1.lt, HU.out.2.1.below HJ.out.2 (Nat.le_refl _), HU.out.2.2.1, HU.out.2.2.2.1, HU.out.2.2.2.2.trans (HJ.out.2.mono HU.out.2.2.2.2.size)⟩
                clear HJ
                go_wp2_with fail
                go_roundw
                case rel => exact ⟨k + 1, ys, false, 0, lb, by go_num, by omega, HE⟩
                case measure => simp [intOf]; omega
          · have k2' : (kd == 2) = false := by simpa using k2
            have HU : Hid (Fl W3 p xs t la ∧ Rf W3 g (p + 2) xs t lb ∧ (t = true → la = lb) ∧ (∀ s ∈ xs, okS s) ∧ Below w.heap.size w W3) := ⟨H3.out.2.1, H3.out.2.2.1, HK.out.2.2.1, HK.out.2.2.2.1, H3.out.2.2.2.1⟩
            clear k0 k1 k2
            go_wp2_with (first | (refine step_ldat 41 _ rfl rfl ad (by rfl) [.int .i64 kd, .int .i64 so, .int .i64 sd, .int .i64 sp, .int .u64 sa, .int .u64 now] _ Try.underlying41 rfl (by kernel_rfl) HC.out ?_) | (refine step_stR (by rfl) _ _ rfl ob #[.int .i64 kd, .int .i64 so, .int .i64 sd, .int .i64 sp, .int .u64 sa, .int .u64 now] (by rfl) (by rfl) #[.int .i64 0, .int .i64 0, .int .i64 0, .int .i64 0, .int .u64 0, .int .u64 0] (by kernel_rfl) (by rfl) (by kernel_rfl) HT.out ?_; rw [← HW3.out]))
            clear H3 HC HC3 HT HW3 o0 o5
            refine (fsamples_any HU.out.1).mono ?_
            rintro e w3 ⟨lv, rfl, ho3, hb3⟩
            obtain ⟨lo, ln, lc, rfl⟩ : ∃ ao n cap, lv = .slice ao n cap := by obtain ⟨ao, cap, e, _⟩ := ho3.sv.ex; exact ⟨ao, _, cap, e⟩
            have hlen := ho3.sv.len
            obtain ⟨m, hm⟩ : ∃ m, m = xs.length := ⟨_, rfl⟩
            rw [← hm] at hlen
            have hm8 : (m : Int) ≤ 8 := by have := HU.out.1.len; omega
            obtain ⟨r1, r2, r3, dv, r4, r5⟩ := HU.out.2.1.below hb3 (Nat.le_refl _)
            have cd : w3.cell? ⟨g, 0, none⟩ = some dv := r4.cell 0
            have HSa : Hid (Calls Try.prog 16 #[.slice lo ln lc, dv] w3 fun e w' => e = .returned (.bool true) ∧ ∃ n, w' = w3.drewN n) := same_any _ _ _ _ xs w3 ho3.sv r5 (by have := HU.out.1.len; omega)
            have HM : Hid (m = xs.length) := hm
            have H3 : Hid (O4 w3 W3.heap.size (.slice lo ln lc) xs ∧ Below W3.heap.size W3 w3) := ⟨ho3, hb3⟩
            clear ho3 hb3 hm r1 r2 r3 r4 r5
            go_wp2_with fail
            refine HSa.out.mono ?_
            rintro e w6 ⟨rfl, nq, hw6⟩
            have H6 : Hid (O4 w6 W3.heap.size (.slice lo ln lc) xs ∧ Below W3.heap.size W3 w6) := by
              rw [hw6]; exact ⟨OR.drewN H3.out.1 nq, below_dr H3.out.2 nq⟩
            clear hw6 HSa H3 cd
            go_wp2_with fail
            go_loopw [8] (fun i wi => ∃ (j : Nat), i = .int .i64 j ∧ (j : Int) ≤ m ∧ Hid ((∃ zs : List Smp, zs.length = m ∧ O4 wi W3.heap.size (.slice lo ln lc) zs) ∧ Below W3.heap.size W3 wi)) (fun i _ => m - (intOf i).toNat)
            case atStart => exact ⟨0, rfl, by omega, ⟨⟨_, HM.out.symm, H6.out.1⟩, H6.out.2⟩⟩
            case round =>
              clear H6
              obtain ⟨j, rfl, hj, HJ⟩ := hrel
              by_cases hjm : (j : Int) < m
              · obtain ⟨zs, hz1, hz2⟩ := HJ.out.1
                obtain ⟨lg, cp, hform, hcap, hlg, hlt6⟩ := OR.form hz2 (by rw [List.length_map]; omega)
                injection hform with f1 f2 f3
                subst f1 f3
                have hix6 := ix_sl lg ln lc j (by rw [f2, List.length_map, hz1]; exact hjm)
                have hz3 : OR wr W3.heap.size 27 4 (.slice (some ⟨lg, 0, none⟩) (zs.map smL).length lc) (zs.map smL) := by rw [← f2]; exact hz2
                have HO6 : Hid _ := hz3
                have HZ : Hid (zs.length = m ∧ j < (zs.map smL).length ∧ W3.heap.size ≤ lg ∧ ln = (zs.map smL).length) := ⟨hz1, by rw [List.length_map, hz1]; omega, hlg, f2⟩
                clear hz1 hz2 hz3 hcap hlg hlt6 f2
                go_wp2_with (refine wpList_stk rfl 27 _ _ rfl j (smL ⟨77, 0, 0, 0⟩) HO6.out (by kernel_rfl) (by rfl) (by rfl) HZ.out.2.1 rfl (smL_one _) ?_; intro w7 ho7 hg7 hz7)
                have H7 : Hid ((∃ zs : List Smp, zs.length = m ∧ O4 w7 W3.heap.size (.slice (some ⟨lg, 0, none⟩) ln lc) zs) ∧ Below W3.heap.size W3 w7) := by
                  refine ⟨⟨zs.set j ⟨77, 0, 0, 0⟩, by rw [List.length_set]; exact HZ.out.1, ?_⟩, below_grown HJ.out.2 hg7 HZ.out.2.2.1⟩
                  unfold O4
                  rw [List.map_set, HZ.out.2.2.2]
                  exact ho7
                clear ho7 hg7 hz7 HO6
                go_wp2_with fail
                go_roundw
                case rel => exact ⟨j + 1, by go_num, by omega, H7⟩
                case measure => simp [intOf]; omega
              · have hjm' : j = m := by omega
                subst hjm'
                have HE : Hid (Fl wr p xs t la ∧ Rf wr g (p + 2) xs t lb ∧ (t = true → la = lb) ∧ (∀ s ∈ xs, okS s) ∧ Below w.heap.size w wr) := ⟨HU.out.1.below HJ.out.2 HU.out.1.lt, HU.out.2.1.below HJ.out.2 (Nat.le_refl _), HU.out.2.2.1, HU.out.2.2.2.1, HU.out.2.2.2.2.trans (HJ.out.2.mono HU.out.2.2.2.2.size)⟩
                clear HJ
                go_wp2_with fail
                go_roundw
                case rel => exact ⟨k + 1, xs, t, la, lb, by go_num, by omega, HE⟩
                case measure => simp [intOf]; omega
    · have hkn : k = n := by omega
      subst hkn
      go_wp2_with fail
      rw [hQ.out]
      go_ret
      exact ⟨rfl, HK.out.2.2.2.2⟩
end Go.Proofs.Ytmjkdfjfjidekaa
