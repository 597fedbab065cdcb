/- LoopInside, walked. -/
import Derived.Test.YtbagfnafkpbanaaLpK
namespace Go.Proofs.Ytbagfnafkpbanaa
open Go Go.RowKit Go.Sort
set_option linter.unusedVariables false
theorem sv_sv (a : Int) : sv (sv a) = sv a := by
  have := sv_bd a
  exact sv_in (by omega) (by omega)
/-- what an Update says beside limits that are in bounds -/
theorem upd_ins {s : Lp} (ok : OkL s) (o j n st pa : Int) (hm : s.most = st) (hp : s.panics = pa) :
    ∃ (A X S Z Y : Int) (s' : Lp), (upd s o j n).2.1 = A ∧ (upd s o j n).2.2 = X ∧ (upd s o j n).1 = s' ∧ szS (sv o) = Z ∧ szS (sv X) = Y ∧ szS (sv s'.left) = S ∧ OkL s' ∧ s'.most = st ∧ s'.panics = pa ∧
      ((A = 3 ∧ X = 0 ∧ pa < Z) ∨ (A = 2 ∧ ¬ pa < Z ∧ ¬ Z ≤ st ∧ s.st ≠ 4 ∧ Y = Z) ∨ (A = 1 ∧ X = 0 ∧ ¬ pa < Z ∧ ¬ st < Z ∧ s'.st = 4 ∧ S = Z) ∨ (A = 0 ∧ X = 0 ∧ ¬ pa < Z)) := by
  have hs := upd_says ok o j n
  have h2 := upd_same (s := s) o j n
  rw [hm, hp] at hs h2
  refine ⟨_, _, _, _, _, _, rfl, rfl, rfl, rfl, rfl, rfl, ok.upd o j n, h2.1, h2.2.1, ?_⟩
  rcases hs with ⟨h1, h3, h4, -⟩ | ⟨h1, h3, h4, h5, h6, -⟩ | ⟨h1, h3, h4, h5, h6, h7⟩ | ⟨h1, h3, h4, -⟩
  · exact .inl ⟨h1, h3, h4⟩
  · exact .inr (.inl ⟨h1, h4, by omega, h6, by rw [h3, sv_sv]⟩)
  · exact .inr (.inr (.inl ⟨h1, h3, h4, h5, h6, by rw [h7, sv_sv]⟩))
  · exact .inr (.inr (.inr ⟨h1, h3, h4⟩))
set_option maxRecDepth 20000 in
set_option maxHeartbeats 4000000 in
theorem LoopInside_row (c : List Value) (f : Int) (has : Bool) (v : Value) (st pa so : Int) (ss : List Stp) (w : World) (hc : Cg c st pa so) (hf : -9223372036854775808 ≤ f ∧ f ≤ 9223372036854775807) (hv : Sp w.heap.size w v ss) :
    Calls Try.prog 5 #[.agg c.toArray, .int .i64 f, .bool has, v] w fun e w' => e = .returned (.bool true) ∧ Below w.heap.size w w' := by
  obtain ⟨ao, cap, rfl, -⟩ := hv.ex
  obtain ⟨n, hn⟩ : ∃ n, n = ss.length := ⟨_, rfl⟩
  rw [← hn] at hv ⊢
  have HV : Hid (Sp w.heap.size w (.slice ao n cap) ss ∧ n = ss.length) := ⟨hv, hn⟩
  have HG : Hid (Cg c st pa so ∧ (-9223372036854775808 ≤ f ∧ f ≤ 9223372036854775807) ∧ (Try.prog.info? 29).map (·.size) = some c.length) := ⟨hc, hf, by rw [hc.len]; kernel_rfl⟩
  clear hv hn hc hf
  go_enter Try.func5, Try.ntmps5
  refine post_hid fun Q hQ => ?_
  refine seq_hid fun R hR => ?_
  go_wp2_with (refine step_boxL (by rfl) 29 _ rfl c.toArray (by rfl) (fun u => by rfl) ?_; intro W g HW)
  rw [hR.out]
  clear hR
  have HC : Hid (∀ j u, c[j]? = some u → W.cell? ((⟨g, 0, none⟩ : Addr).add j) = some u) := cells_of HW.out.bk
  have c10 : W.cell? ⟨g, 10, none⟩ = some (.int .i64 st) := by rw [HW.out.bk.cell 10, List.getElem?_toArray]; exact HG.out.1.c10
  have c11 : W.cell? ⟨g, 11, none⟩ = some (.int .i64 pa) := by rw [HW.out.bk.cell 11, List.getElem?_toArray]; exact HG.out.1.c11
  have c12 : W.cell? ⟨g, 12, none⟩ = some (.int .i64 so) := by rw [HW.out.bk.cell 12, List.getElem?_toArray]; exact HG.out.1.c12
  by_cases z0 : 16384 < (n : Int)
  · go_wp2_with fail
    rw [hQ.out]
    go_ret
    exact ⟨rfl, HW.out.be⟩
  by_cases z1 : st < 1
  · go_wp2_with fail
    rw [hQ.out]
    go_ret
    exact ⟨rfl, HW.out.be⟩
  by_cases z2 : 4611686018427387904 < st
  · go_wp2_with fail
    rw [hQ.out]
    go_ret
    exact ⟨rfl, HW.out.be⟩
  by_cases z3 : pa < 1
  · go_wp2_with fail
    rw [hQ.out]
    go_ret
    exact ⟨rfl, HW.out.be⟩
  by_cases z4 : 4611686018427387904 < pa
  · go_wp2_with fail
    rw [hQ.out]
    go_ret
    exact ⟨rfl, HW.out.be⟩
  by_cases z5 : so < 0
  · go_wp2_with fail
    rw [hQ.out]
    go_ret
    exact ⟨rfl, HW.out.be⟩
  by_cases z6 : 1048576 < so
  · go_wp2_with fail
    rw [hQ.out]
    go_ret
    exact ⟨rfl, HW.out.be⟩
  refine seq_hid fun R hR => ?_
  go_wp2_with fail
  rw [hR.out]
  clear hR c10 c11 c12
  have HBD : Hid (1 ≤ st ∧ st ≤ 4611686018427387904 ∧ 1 ≤ pa ∧ pa ≤ 4611686018427387904) := ⟨by omega, by omega, by omega, by omega⟩
  clear z1 z2 z3 z4 z5 z6
  obtain ⟨s0, hs0⟩ : ∃ s0, newS st pa so f has = s0 := ⟨_, rfl⟩
  have HO : Hid (OkL s0 ∧ newS st pa so f has = s0 ∧ s0.most = st ∧ s0.panics = pa) := ⟨by rw [← hs0]; exact OkL.new _ _ _ _ _, hs0, by have := HBD.out; rw [← hs0]; show max 1 (min st 4611686018427387904) = st; omega, by have := HBD.out; rw [← hs0]; show max 1 (min pa 4611686018427387904) = pa; omega⟩
  clear hs0
  have HN := wl_new HG.out.1 HW.out.bk HW.out.be (by rw [HW.out.at']; exact Nat.le_refl _) f has
  rw [HO.out.2.1] at HN
  have HN : Hid (Calls Try.prog 9 #[.agg c.toArray, .int .i64 f, .bool has] W _) := HN
  refine seq_hid fun R hR => ?_
  go_wp2_with (first
    | (refine step_ldat 29 _ rfl rfl ⟨g, 0, none⟩ (by rfl) c _ Try.underlying29 rfl HG.out.2.2 HC.out ?_)
    | (go_at_call 9; refine HN.out.mono ?_; rintro e w1 ⟨p, rfl, hp1, hp2, hb1⟩; have H1 : Hid (Wl w g c.toArray p s0 w1) := hp1; clear hp1 hp2 hb1))
  rw [hR.out]
  clear hR HN HC HW
  go_wp2_with fail
  go_loopw [10] (fun i wr => ∃ (k : Nat) (s : Lp), i = .int .i64 k ∧ (k : Int) ≤ n ∧ Hid (Wl w g c.toArray p s wr ∧ OkL s ∧ s.most = st ∧ s.panics = pa)) (fun i _ => n - (intOf i).toNat)
  case atStart => exact ⟨0, s0, rfl, by omega, ⟨H1.out, HO.out.1, HO.out.2.2⟩⟩
  case round =>
    obtain ⟨k, s, rfl, hk, HS⟩ := hrel
    by_cases hlt : (k : Int) < n
    · have hkx : k < ss.length := by have := HV.out.2; omega
      obtain ⟨ad, hix, hab, hac, hok⟩ := (HV.out.1.below HS.out.1.be (Nat.le_refl _)).at k hkx
      obtain ⟨y, hy⟩ : ∃ y, y = ss.getD k z15 := ⟨_, rfl⟩
      rw [← hy] at hac hok
      have HY : Hid ((∀ j u, (spL y)[j]? = some u → wr.cell? (ad.add j) = some u) ∧ OkP y) := ⟨hac, hok⟩
      clear hac hab hy hkx hok
      obtain ⟨yk, yo, yj, yn⟩ := y
      have HB : Hid (Wl w g c.toArray p s (wr.alloc (.cells #[.int .i64 yk, .int .i64 yo, .int .i64 yj, .int .i64 yn] 43)) ∧ Bk wr.heap.size (wr.alloc (.cells #[.int .i64 yk, .int .i64 yo, .int .i64 yj, .int .i64 yn] 43)) (spL ⟨yk, yo, yj, yn⟩).toArray 43 ∧ wr.heap.size ≠ p) := by
        have l1 := Bk.lt HS.out.1.po
        exact ⟨HS.out.1.alloc _, Bk.new _ _ _, by omega⟩
      obtain ⟨A, X, S, Z, Y, s', hA, hX, hs', hZ, hY, hS, hok', hm', hp', hcs⟩ := upd_ins HS.out.2.1 yo yj yn st pa HS.out.2.2.1 HS.out.2.2.2
      have KU : Hid ((∀ u, Wl w g c.toArray p s u → Bk wr.heap.size u (spL ⟨yk, yo, yj, yn⟩).toArray 43 → Calls Try.prog 14 #[.pointer (some ⟨p, 0, none⟩), .int .i64 yo, .int .i64 yj, .int .i64 yn] u fun e w' => e = .returned (.tuple #[.int .i64 A, .int .i64 X]) ∧ Wl w g c.toArray p s' w' ∧ Bk wr.heap.size w' (spL ⟨yk, yo, yj, yn⟩).toArray 43) ∧ (∀ u, Calls Try.prog 17 #[.int .i64 yo] u fun e w' => e = .returned (.int .i64 Z) ∧ w' = u) ∧ (∀ u, Calls Try.prog 17 #[.int .i64 X] u fun e w' => e = .returned (.int .i64 Y) ∧ w' = u) ∧ (∀ u, Calls Try.prog 17 #[.int .i64 s'.left] u fun e w' => e = .returned (.int .i64 S) ∧ w' = u) ∧ OkL s' ∧ s'.most = st ∧ s'.panics = pa) := by
        refine ⟨fun u hu hb => ?_, fun u => ?_, fun u => ?_, fun u => ?_, hok', hm', hp'⟩
        · rw [← hA, ← hX, ← hs']
          refine (update_any p s yo yj yn u hu.po HS.out.2.1 HY.out.2.o HY.out.2.j).mono ?_
          rintro e w' ⟨h1, h2, h3⟩
          exact ⟨h1, hu.mod h2 h3, hb.kept (h3.block _ hb.lt (fun e => HB.out.2.2 (Option.some.inj e)))⟩
        · rw [← hZ]; exact lsize_any _ _ HY.out.2.o
        · have : X = 0 ∨ X = sv yo := by
            have hs := upd_says HS.out.2.1 yo yj yn
            rw [← hX]
            rcases hs with ⟨h1, h3, -⟩ | ⟨h1, h3, -⟩ | ⟨h1, h3, -⟩ | ⟨h1, h3, -⟩
            · exact .inl h3
            · exact .inr h3
            · exact .inl h3
            · exact .inl h3
          have := sv_bd yo
          rw [← hY]; exact lsize_any _ _ (by omega)
        · rw [← hS]; exact lsize_any _ _ (by have := hok'.l0; have := hok'.l1; omega)
      obtain ⟨ST, hST⟩ : ∃ x, s.st = x := ⟨_, rfl⟩
      obtain ⟨RT, hRT⟩ : ∃ x, s'.rate = x := ⟨_, rfl⟩
      obtain ⟨EX, hEX⟩ : ∃ x, s'.exp = x := ⟨_, rfl⟩
      obtain ⟨S2, hS2⟩ : ∃ x, s'.st = x := ⟨_, rfl⟩
      obtain ⟨LF, hLF⟩ : ∃ x, s'.left = x := ⟨_, rfl⟩
      rw [hST, hS2] at hcs
      have KR : Hid (s.st = ST ∧ s'.rate = RT ∧ s'.exp = EX ∧ s'.st = S2 ∧ s'.left = LF) := ⟨hST, hRT, hEX, hS2, hLF⟩
      rw [hLF] at KU
      have b1 : decide (140737488355 < RT) = false := by have := hok'.r1; simp; omega
      have b2 : decide (RT < -140737488355) = false := by have := hok'.r0; simp; omega
      have b3 : decide (EX < 3) = false := by have := hok'.e0; simp; omega
      have b4 : decide (10 < EX) = false := by have := hok'.e1; simp; omega
      clear hA hX hs' hZ hY hS hok' hm' hp' hST hRT hEX hS2 hLF
      rcases hcs with ⟨rfl, rfl, h1⟩ | ⟨rfl, h1, h2, h3, rfl⟩ | ⟨rfl, rfl, h1, h2, rfl, rfl⟩ | ⟨rfl, rfl, h1⟩
      · have q1 : decide (pa < Z) = true := by simpa using h1
        clear h1
        go_wp2_with (first
          | (refine step_ldat 43 _ rfl rfl ad (by rfl) [.int .i64 yk, .int .i64 yo, .int .i64 yj, .int .i64 yn] _ Try.underlying43 rfl (by kernel_rfl) HY.out.1 ?_)
          | (go_at_call 15; first | (with_reducible refine (wl_state H5.out.1 _ KR.out.2.2.2.1).mono ?_; rintro e w4 ⟨rfl, hw⟩; rw [hw]; clear hw) | (with_reducible refine (wl_state HB.out.1 _ KR.out.1).mono ?_; rintro e w4 ⟨rfl, hw⟩; rw [hw]; clear hw))
          | (go_at_call 14; refine (KU.out.1 _ HB.out.1 HB.out.2.1).mono ?_; rintro e w5 ⟨rfl, h5⟩; have H5 : Hid (Wl w g c.toArray p s' w5 ∧ Bk wr.heap.size w5 (spL ⟨yk, yo, yj, yn⟩).toArray 43) := h5; clear h5; have y1 : w5.cell? ⟨wr.heap.size, 1, none⟩ = some (.int .i64 yo) := (H5.out.2.cell 1); have d10 : w5.cell? ⟨g, 10, none⟩ = some (.int .i64 st) := (by rw [H5.out.1.ck.cell 10, List.getElem?_toArray]; exact HG.out.1.c10); have d11 : w5.cell? ⟨g, 11, none⟩ = some (.int .i64 pa) := (by rw [H5.out.1.ck.cell 11, List.getElem?_toArray]; exact HG.out.1.c11))
          | (go_at_call 17; first | (with_reducible refine (KU.out.2.1 _).mono ?_; rintro e w6 ⟨rfl, hw⟩; rw [hw]; clear hw) | (with_reducible refine (KU.out.2.2.1 _).mono ?_; rintro e w6 ⟨rfl, hw⟩; rw [hw]; clear hw) | (with_reducible refine (KU.out.2.2.2.1 _).mono ?_; rintro e w6 ⟨rfl, hw⟩; rw [hw]; clear hw))
          | (go_at_call 12; refine (wl_freq H5.out.1 RT KR.out.2.1).mono ?_; rintro e w4 ⟨rfl, hw⟩; rw [hw]; clear hw)
          | (go_at_call 16; refine (wl_poll H5.out.1 EX KR.out.2.2.1).mono ?_; rintro e w4 ⟨rfl, hw⟩; rw [hw]; clear hw)
          | (go_at_call 11; refine (wl_left H5.out.1 LF KR.out.2.2.2.2).mono ?_; rintro e w4 ⟨rfl, hw⟩; rw [hw]; clear hw))
        go_roundw
        case rel => exact ⟨k + 1, s', by go_num, by omega, ⟨H5.out.1, KU.out.2.2.2.2⟩⟩
        case measure => simp [intOf]; omega
      · have q1 : decide (pa < Y) = false := by simpa using h1
        have q2 : decide (Y ≤ st) = false := by simpa using h2
        have q3 : (ST == 4) = false := by simpa using h3
        clear h1 h2 h3
        go_wp2_with (first
          | (refine step_ldat 43 _ rfl rfl ad (by rfl) [.int .i64 yk, .int .i64 yo, .int .i64 yj, .int .i64 yn] _ Try.underlying43 rfl (by kernel_rfl) HY.out.1 ?_)
          | (go_at_call 15; first | (with_reducible refine (wl_state H5.out.1 _ KR.out.2.2.2.1).mono ?_; rintro e w4 ⟨rfl, hw⟩; rw [hw]; clear hw) | (with_reducible refine (wl_state HB.out.1 _ KR.out.1).mono ?_; rintro e w4 ⟨rfl, hw⟩; rw [hw]; clear hw))
          | (go_at_call 14; refine (KU.out.1 _ HB.out.1 HB.out.2.1).mono ?_; rintro e w5 ⟨rfl, h5⟩; have H5 : Hid (Wl w g c.toArray p s' w5 ∧ Bk wr.heap.size w5 (spL ⟨yk, yo, yj, yn⟩).toArray 43) := h5; clear h5; have y1 : w5.cell? ⟨wr.heap.size, 1, none⟩ = some (.int .i64 yo) := (H5.out.2.cell 1); have d10 : w5.cell? ⟨g, 10, none⟩ = some (.int .i64 st) := (by rw [H5.out.1.ck.cell 10, List.getElem?_toArray]; exact HG.out.1.c10); have d11 : w5.cell? ⟨g, 11, none⟩ = some (.int .i64 pa) := (by rw [H5.out.1.ck.cell 11, List.getElem?_toArray]; exact HG.out.1.c11))
          | (go_at_call 17; first | (with_reducible refine (KU.out.2.1 _).mono ?_; rintro e w6 ⟨rfl, hw⟩; rw [hw]; clear hw) | (with_reducible refine (KU.out.2.2.1 _).mono ?_; rintro e w6 ⟨rfl, hw⟩; rw [hw]; clear hw) | (with_reducible refine (KU.out.2.2.2.1 _).mono ?_; rintro e w6 ⟨rfl, hw⟩; rw [hw]; clear hw))
          | (go_at_call 12; refine (wl_freq H5.out.1 RT KR.out.2.1).mono ?_; rintro e w4 ⟨rfl, hw⟩; rw [hw]; clear hw)
          | (go_at_call 16; refine (wl_poll H5.out.1 EX KR.out.2.2.1).mono ?_; rintro e w4 ⟨rfl, hw⟩; rw [hw]; clear hw)
          | (go_at_call 11; refine (wl_left H5.out.1 LF KR.out.2.2.2.2).mono ?_; rintro e w4 ⟨rfl, hw⟩; rw [hw]; clear hw))
        go_roundw
        case rel => exact ⟨k + 1, s', by go_num, by omega, ⟨H5.out.1, KU.out.2.2.2.2⟩⟩
        case measure => simp [intOf]; omega
      · have q1 : decide (pa < S) = false := by simpa using h1
        have q2 : decide (st < S) = false := by simpa using h2
        clear h1 h2
        go_wp2_with (first
          | (refine step_ldat 43 _ rfl rfl ad (by rfl) [.int .i64 yk, .int .i64 yo, .int .i64 yj, .int .i64 yn] _ Try.underlying43 rfl (by kernel_rfl) HY.out.1 ?_)
          | (go_at_call 15; first | (with_reducible refine (wl_state H5.out.1 _ KR.out.2.2.2.1).mono ?_; rintro e w4 ⟨rfl, hw⟩; rw [hw]; clear hw) | (with_reducible refine (wl_state HB.out.1 _ KR.out.1).mono ?_; rintro e w4 ⟨rfl, hw⟩; rw [hw]; clear hw))
          | (go_at_call 14; refine (KU.out.1 _ HB.out.1 HB.out.2.1).mono ?_; rintro e w5 ⟨rfl, h5⟩; have H5 : Hid (Wl w g c.toArray p s' w5 ∧ Bk wr.heap.size w5 (spL ⟨yk, yo, yj, yn⟩).toArray 43) := h5; clear h5; have y1 : w5.cell? ⟨wr.heap.size, 1, none⟩ = some (.int .i64 yo) := (H5.out.2.cell 1); have d10 : w5.cell? ⟨g, 10, none⟩ = some (.int .i64 st) := (by rw [H5.out.1.ck.cell 10, List.getElem?_toArray]; exact HG.out.1.c10); have d11 : w5.cell? ⟨g, 11, none⟩ = some (.int .i64 pa) := (by rw [H5.out.1.ck.cell 11, List.getElem?_toArray]; exact HG.out.1.c11))
          | (go_at_call 17; first | (with_reducible refine (KU.out.2.1 _).mono ?_; rintro e w6 ⟨rfl, hw⟩; rw [hw]; clear hw) | (with_reducible refine (KU.out.2.2.1 _).mono ?_; rintro e w6 ⟨rfl, hw⟩; rw [hw]; clear hw) | (with_reducible refine (KU.out.2.2.2.1 _).mono ?_; rintro e w6 ⟨rfl, hw⟩; rw [hw]; clear hw))
          | (go_at_call 12; refine (wl_freq H5.out.1 RT KR.out.2.1).mono ?_; rintro e w4 ⟨rfl, hw⟩; rw [hw]; clear hw)
          | (go_at_call 16; refine (wl_poll H5.out.1 EX KR.out.2.2.1).mono ?_; rintro e w4 ⟨rfl, hw⟩; rw [hw]; clear hw)
          | (go_at_call 11; refine (wl_left H5.out.1 LF KR.out.2.2.2.2).mono ?_; rintro e w4 ⟨rfl, hw⟩; rw [hw]; clear hw))
        go_roundw
        case rel => exact ⟨k + 1, s', by go_num, by omega, ⟨H5.out.1, KU.out.2.2.2.2⟩⟩
        case measure => simp [intOf]; omega
      · have q1 : decide (pa < Z) = false := by simpa using h1
        clear h1
        go_wp2_with (first
          | (refine step_ldat 43 _ rfl rfl ad (by rfl) [.int .i64 yk, .int .i64 yo, .int .i64 yj, .int .i64 yn] _ Try.underlying43 rfl (by kernel_rfl) HY.out.1 ?_)
          | (go_at_call 15; first | (with_reducible refine (wl_state H5.out.1 _ KR.out.2.2.2.1).mono ?_; rintro e w4 ⟨rfl, hw⟩; rw [hw]; clear hw) | (with_reducible refine (wl_state HB.out.1 _ KR.out.1).mono ?_; rintro e w4 ⟨rfl, hw⟩; rw [hw]; clear hw))
          | (go_at_call 14; refine (KU.out.1 _ HB.out.1 HB.out.2.1).mono ?_; rintro e w5 ⟨rfl, h5⟩; have H5 : Hid (Wl w g c.toArray p s' w5 ∧ Bk wr.heap.size w5 (spL ⟨yk, yo, yj, yn⟩).toArray 43) := h5; clear h5; have y1 : w5.cell? ⟨wr.heap.size, 1, none⟩ = some (.int .i64 yo) := (H5.out.2.cell 1); have d10 : w5.cell? ⟨g, 10, none⟩ = some (.int .i64 st) := (by rw [H5.out.1.ck.cell 10, List.getElem?_toArray]; exact HG.out.1.c10); have d11 : w5.cell? ⟨g, 11, none⟩ = some (.int .i64 pa) := (by rw [H5.out.1.ck.cell 11, List.getElem?_toArray]; exact HG.out.1.c11))
          | (go_at_call 17; first | (with_reducible refine (KU.out.2.1 _).mono ?_; rintro e w6 ⟨rfl, hw⟩; rw [hw]; clear hw) | (with_reducible refine (KU.out.2.2.1 _).mono ?_; rintro e w6 ⟨rfl, hw⟩; rw [hw]; clear hw) | (with_reducible refine (KU.out.2.2.2.1 _).mono ?_; rintro e w6 ⟨rfl, hw⟩; rw [hw]; clear hw))
          | (go_at_call 12; refine (wl_freq H5.out.1 RT KR.out.2.1).mono ?_; rintro e w4 ⟨rfl, hw⟩; rw [hw]; clear hw)
          | (go_at_call 16; refine (wl_poll H5.out.1 EX KR.out.2.2.1).mono ?_; rintro e w4 ⟨rfl, hw⟩; rw [hw]; clear hw)
          | (go_at_call 11; refine (wl_left H5.out.1 LF KR.out.2.2.2.2).mono ?_; rintro e w4 ⟨rfl, hw⟩; rw [hw]; clear hw))
        go_roundw
        case rel => exact ⟨k + 1, s', by go_num, by omega, ⟨H5.out.1, KU.out.2.2.2.2⟩⟩
        case measure => simp [intOf]; omega
    · go_wp2_with fail
      rw [hQ.out]
      go_ret
      exact ⟨rfl, HS.out.1.be⟩
end Go.Proofs.Ytbagfnafkpbanaa
