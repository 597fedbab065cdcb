/- The reference's Best. -/
import Derived.Test.YtgkjgkdlcmmpoaaFU
import Derived.Test.YtgkjgkdlcmmpoaaGP
namespace Go.Proofs.Ytgkjgkdlcmmpoaa
open Go Go.RowKit Go.Sort Fi
theorem Exit.then_hid {K : Act → World → Prop} {Q : Exit → Act → World → Prop} {a : Act} {w : World} (h : ∀ W, Hid (W = w) → Exit.then K Q Exit.normal a W) : Exit.then K Q Exit.normal a w := h w rfl
set_option maxRecDepth 20000 in
set_option maxHeartbeats 4000000 in
theorem rbest_any {w : World} {g B : Nat} {xs : List Smp} {t : Bool} {la : Int} (now : Int) (h : Rf w g B xs t la) (hp : 0 < xs.length) (ok : ∀ s ∈ xs, okS s) :
    Calls Try.prog 12 #[.pointer (some ⟨g, 0, none⟩), .int .u64 now] w fun e w' => e = .returned (.agg (bsL (fst (srt xs)).o (fst (srt xs)).d (ds (srt xs) now 8) (jt (srt xs)) (fst (srt xs)).a (nwB t la (fst (srt xs)).a)).toArray) ∧ Rf w' g B xs (t || nwB t la (fst (srt xs)).a) (nwL t la (fst (srt xs)).a) ∧ w.grownBy w' (some g) := by
  obtain ⟨h1, h2, h3, v, h4, h5⟩ := h
  obtain ⟨n, hn⟩ : ∃ n, n = xs.length := ⟨_, rfl⟩
  have hlv := h5.len
  rw [← hn] at hlv
  have HN : Hid (n = xs.length) := hn
  have hn8 : (n : Int) ≤ 8 := by omega
  have hn0 : ¬ ((n : Int) = 0) := by omega
  have hn1 : 1 ≤ (n : Int) := by omega
  have hn0' : ((n : Int) == 0) = false := by simpa using hn0
  have H : Hid (g < B ∧ B ≤ w.heap.size ∧ xs.length ≤ 8 ∧ Bk g w #[v, .bool t, .int .u64 la] 39 ∧ Sv4 w B v xs) := ⟨h1, h2, h3, h4, h5⟩
  have HX0 : Hid ((srt xs).length = n ∧ ∀ s ∈ srt xs, okS s) := ⟨by rw [srt_len]; exact hn.symm, fun s hs => ok s ((srt_perm xs).mem_iff.1 hs)⟩
  have HG : Hid (g < w.heap.size) := h4.lt
  have c0 : w.cell? ⟨g, 0, none⟩ = some v := h4.cell 0
  clear h1 h2 h3 h4 h5 hp ok hn
  go_enter Try.func12, Try.ntmps12
  refine post_hid fun Q hQ => ?_
  refine seq_hid fun R hR => ?_
  go_wp2
  refine world_hid fun W0 hW0 => ?_
  have HW0 : Hid (Bk w.heap.size W0 #[.int .i64 0, .int .i64 0, .int .i64 0, .int .i64 0, .int .u64 0, .bool false] 33 ∧ Below w.heap.size w W0 ∧ W0.heap.size = w.heap.size + 1) := by
    refine ⟨?_, ?_, ?_⟩
    · rw [hW0.out]; exact Bk.new _ _ _
    · rw [hW0.out]; exact (Below.refl _ _).alloc (Nat.le_refl _) _
    · rw [hW0.out]; simp
  have g0 : W0.cell? ⟨g, 0, none⟩ = some v := (HW0.out.2.1.cell (p := ⟨g, 0, none⟩) HG.out).trans c0
  have HSo : Hid _ := rsorted_any v B xs W0 (H.out.2.2.2.2.below HW0.out.2.1 (Nat.le_refl _)) H.out.2.2.1
  clear hW0 c0
  rw [hR.out]
  clear hR
  refine seq_hid fun R hR => ?_
  go_wp2
  rw [hR.out]
  clear hR
  refine seq_hid fun R hR => ?_
  go_wp2_with fail
  refine Calls.mono HSo.out ?_
  rintro e w2 ⟨lv, rfl, ho2, hb2⟩
  obtain ⟨lo, ln, lc, rfl⟩ : ∃ ao n cap, lv = .slice ao n cap := by obtain ⟨ao, cap, e, _⟩ := ho2.sv.ex; exact ⟨ao, _, cap, e⟩
  have hll := ho2.sv.len
  rw [HX0.out.1] at hll
  have H2 : Hid (O4 w2 W0.heap.size (.slice lo ln lc) (srt xs) ∧ Below W0.heap.size W0 w2) := ⟨ho2, hb2⟩
  obtain ⟨al, hix, hab, hac⟩ := ho2.sv.at 0 (by rw [HX0.out.1]; omega)
  obtain ⟨x, hx⟩ : ∃ x, x = fst (srt xs) := ⟨_, rfl⟩
  have e0 : (srt xs).getD 0 z0 = x := by rw [hx]; unfold fst; cases srt xs <;> rfl
  rw [e0] at hac
  rw [← hx] at hQ
  have a0 : w2.cell? al = some (.int .i64 x.o) := by have := hac 0 _ rfl; rw [show al.add 0 = al from by unfold Addr.add; rw [if_pos rfl]] at this; exact this
  have a1 : w2.cell? ⟨al.block, al.off + 1, none⟩ = some (.int .i64 x.d) := hac 1 _ rfl
  have a3 : w2.cell? ⟨al.block, al.off + 3, none⟩ = some (.int .u64 x.a) := hac 3 _ rfl
  have Hx : Hid (x = fst (srt xs)) := hx
  clear HSo ho2 hb2 hac hx e0
  go_wp2_with fail
  rw [hR.out]
  clear hR
  refine seq_hid fun R hR => ?_
  have hix0 : ∀ u, Sem.run Try.prog (Instr.indexAt 22 (.slice lo ln lc) (.int .i64 0)) u = .ok (.pointer (some al)) u := hix
  have hne : ¬ (w2.heap.size = al.block) := by omega
  have hne2 : ¬ (al.block = w2.heap.size) := by omega
  go_wp2_with fail
  go_region_held3 (fun w' => w'.cell? al = some (.int .i64 x.o) ∧ w'.cell? ⟨al.block, al.off + 1, none⟩ = some (.int .i64 x.d) ∧ w'.cell? ⟨al.block, al.off + 3, none⟩ = some (.int .u64 x.a)) (first | with_reducible exact ⟨a0, a1, a3⟩ | go_keep) (fail)
  obtain ⟨bb, hbb⟩ : ∃ bb, bb = w2.heap.size := ⟨_, rfl⟩
  rw [← hbb]
  refine Exit.then_hid fun W3 hW3 => ?_
  have HW3 : Hid (Bk bb W3 #[.int .i64 x.o, .int .i64 x.d, .int .i64 0, .int .i64 0, .int .u64 x.a, .bool false] 33 ∧ Below w2.heap.size w2 W3) := by
    refine ⟨?_, ?_⟩
    · rw [hW3.out, hbb]; exact Bk.new _ _ _
    · rw [hW3.out]; exact ((Below.refl _ _).alloc (Nat.le_refl _) _).drew
  have Hbb : Hid (bb = w2.heap.size) := hbb
  clear hW3 a0 a1 a3 hne hne2 hbb hix0 hix hab g0 hlv
  go_wp2_with fail
  rw [hR.out]
  clear hR
  refine seq_hid fun R hR => ?_
  go_wp2_with fail
  go_loopw [7] (fun i wr => ∃ (k : Nat) (q : Int), i = .int .i64 q ∧ 1 ≤ q ∧ q ≤ 9 ∧ Hid (q = (k : Int) + 1) ∧ Hid (Bk bb wr #[.int .i64 x.o, .int .i64 x.d, .int .i64 (ds (srt xs) now k), .int .i64 0, .int .u64 x.a, .bool false] 33 ∧ Below w2.heap.size w2 wr)) (fun i _ => 9 - (intOf i).toNat)
  case atStart => exact ⟨0, 1, rfl, by omega, by omega, rfl, HW3⟩
  case round =>
    clear HW3
    obtain ⟨k, q, rfl, hq1, hq9, Hq, HK⟩ := hrel
    by_cases hlt : q ≤ 8
    · obtain ⟨X, hX⟩ : ∃ X, X = pt (srt xs) now k := ⟨_, rfl⟩
      have bX := pt_bd (srt xs) now k
      rw [← hX] at bX
      obtain ⟨Y, hY⟩ : ∃ Y, Y = X / 2 ^ (k + 1) := ⟨_, rfl⟩
      have bY : 0 ≤ Y ∧ Y ≤ 68719476736 := by
        have h1 : 0 ≤ X / 2 ^ (k + 1) := Int.ediv_nonneg bX.1 (Int.le_of_lt (Int.pow_pos (by decide)))
        have h2 : X / 2 ^ (k + 1) ≤ X := Int.ediv_le_self _ bX.1
        omega
      obtain ⟨S, hS⟩ : ∃ S, S = ds (srt xs) now k := ⟨_, rfl⟩
      have bS : 0 ≤ S ∧ S ≤ 549755813888 := by have := ds_bd (srt xs) now k (by have := Hq.out; omega); rw [← hS] at this; have := Hq.out; omega
      obtain ⟨Z, hZ⟩ : ∃ Z, Z = S + Y := ⟨_, rfl⟩
      have HZ : Hid (Z = ds (srt xs) now (k + 1)) := by show Z = _; rw [hZ, ds, hS, hY, hX]
      have HSh0 : Hid (∀ u, Calls Try.prog 24 #[.int .i64 X, .int .i64 (-q)] u fun e w' => e = .returned (.int .i64 Y) ∧ Below u.heap.size u w') := fun u => by
        have := rshift_any X (-q) u (by omega) (by omega) (by omega) (by omega)
        rw [Fx.sh_neg _ _ (by omega), show (min (-(-q)) 63).toNat = k + 1 by have := Hq.out; omega, ← hY] at this
        exact this
      have HAd0 : Hid (∀ u, Calls Try.prog 23 #[.int .i64 S, .int .i64 Y] u fun e w' => e = .returned (.int .i64 Z) ∧ Below u.heap.size u w') := fun u => by
        have := radd_any S Y u (by omega) (by omega) (by omega) (by omega)
        rw [Fx.cl_in (by omega) (by omega), ← hZ] at this
        exact this
      have ew : IntKind.i64.wrap (-q) = -q := by rw [IntKind.wrap_i64]; omega
      rw [← hS] at HK
      by_cases hc : q ≤ n
      · have hkl : k < (srt xs).length := by have := HX0.out.1; have := Hq.out; omega
        obtain ⟨ak, hixk, habk, hack⟩ := (H2.out.1.sv.below HK.out.2 (Nat.le_refl _)).at k hkl
        have HC : Hid (∀ j u, (smL ((srt xs).getD k z0))[j]? = some u → wr.cell? (ak.add j) = some u) := hack
        obtain ⟨y, hy⟩ : ∃ y, y = (srt xs).getD k z0 := ⟨_, rfl⟩
        rw [← hy] at HC
        have HGr : Hid (Calls Try.prog 22 #[.agg (smL y).toArray, .int .u64 now] wr fun e w' => e = .returned (.int .i64 X) ∧ Below wr.heap.size wr w') := by
          have e : X = gr y now := by rw [hX, hy]; unfold pt; rw [List.getD_eq_getElem?_getD, List.getElem?_eq_getElem hkl]; rfl
          rw [e]
          exact rgrown_any _ now wr (HX0.out.2 _ (by rw [hy, List.getD_eq_getElem?_getD, List.getElem?_eq_getElem hkl]; exact List.getElem_mem hkl))
        have ek : q - 1 = (k : Int) := by have := Hq.out; omega
        clear hX hY hS hZ hkl habk hack hy
        go_wp2_with (refine step_ldat 27 _ rfl rfl ak (by rfl) (smL y) _ Try.underlying27 rfl (by kernel_rfl) HC.out ?_)
        refine HGr.out.mono ?_
        rintro e w4 ⟨rfl, hb4⟩
        have HU : Hid (Bk bb w4 #[.int .i64 x.o, .int .i64 x.d, .int .i64 S, .int .i64 0, .int .u64 x.a, .bool false] 33 ∧ Below w2.heap.size w2 w4) := ⟨HK.out.1.kept (hb4.block _ HK.out.1.lt), HK.out.2.trans (hb4.mono HK.out.2.size)⟩
        clear hb4 HGr
        have cU : w4.cell? ⟨bb, 2, none⟩ = some (.int .i64 S) := HU.out.1.cell 2
        have hcr := cell_regrown cU
        have HSh : Hid (∀ d os, Calls Try.prog 24 #[.int .i64 X, .int .i64 (-q)] (grow (redrawn w4 d) os) fun e w'' => e = .returned (.int .i64 Y) ∧ ∃ p : Regrown, w'' = grow (redrawn w4 p.d) p.os) := fun d os => Calls.regrown_of (HSh0.out _)
        have HAd : Hid (∀ d os, Calls Try.prog 23 #[.int .i64 S, .int .i64 Y] (grow (redrawn w4 d) os) fun e w'' => e = .returned (.int .i64 Z) ∧ ∃ p : Regrown, w'' = grow (redrawn w4 p.d) p.os) := fun d os => Calls.regrown_of (HAd0.out _)
        go_wp2_with fail
        refine wp_region_last_belowT (by kernel_rfl) (by kernel_rfl) (by rfl) (by kernel_rfl) ?_
        simp only [idleLast, idle]
        repeat (quiet_step (first | exact HSh.out _ _ | exact HAd.out _ _))
        refine wpQuiet_nil ?_
        intro _ hw'
        obtain ⟨⟨dq, osq⟩, hw''⟩ := hw'
        subst hw''
        have hBq : Below w4.heap.size w4 (grow (redrawn w4 dq) osq) := below_regrown w4 dq osq
        have hk4 : Bk bb (grow (redrawn w4 dq) osq) (#[.int .i64 x.o, .int .i64 x.d, .int .i64 S, .int .i64 0, .int .u64 x.a, .bool false] : Array Value) 33 := HU.out.1.kept (hBq.block _ HU.out.1.lt)
        refine wpOp_stin1 (cs := [.int .i64 x.o, .int .i64 x.d, .int .i64 S, .int .i64 0, .int .u64 x.a, .bool false]) _ (by rfl) rfl 23 _ _ rfl hk4 2 (.int .i64 Z) (by rfl) (by rfl) rfl (by kernel_rfl) (by simp) rfl ?_
        have h5 : Bk bb ((grow (redrawn w4 dq) osq).setRow bb ([.int .i64 x.o, .int .i64 x.d, .int .i64 S, .int .i64 0, .int .u64 x.a, .bool false].set 2 (.int .i64 Z)).toArray) #[.int .i64 x.o, .int .i64 x.d, .int .i64 Z, .int .i64 0, .int .u64 x.a, .bool false] 33 := setRow_heap _ _ _ _ _ _ hk4
        have h6 : Below w2.heap.size w2 ((grow (redrawn w4 dq) osq).setRow bb ([.int .i64 x.o, .int .i64 x.d, .int .i64 S, .int .i64 0, .int .u64 x.a, .bool false].set 2 (.int .i64 Z)).toArray) := below_row (HU.out.2.trans (hBq.mono HU.out.2.size)) (by rw [Hbb.out]; exact Nat.le_refl _) _
        generalize (grow (redrawn w4 dq) osq).setRow bb ([.int .i64 x.o, .int .i64 x.d, .int .i64 S, .int .i64 0, .int .u64 x.a, .bool false].set 2 (.int .i64 Z)).toArray = W5 at *
        have H5 : Hid (Bk bb W5 #[.int .i64 x.o, .int .i64 x.d, .int .i64 Z, .int .i64 0, .int .u64 x.a, .bool false] 33 ∧ Below w2.heap.size w2 W5) := ⟨h5, h6⟩
        clear h5 h6 hk4 hBq cU hcr HSh HAd
        go_wp2_with fail
        go_roundw
        case rel => exact ⟨k + 1, q + 1, rfl, by omega, by omega, by have := Hq.out; show q + 1 = ((k + 1 : Nat) : Int) + 1; omega, ⟨by rw [← HZ.out]; exact H5.out.1, H5.out.2⟩⟩
        case measure => simp [intOf]; omega

      · have e : X = 68719476736 := by rw [hX]; unfold pt; rw [List.getElem?_eq_none (by have := HX0.out.1; have := Hq.out; omega)]
        subst e
        have HU := HK
        clear hX hY hS hZ
        have cU : wr.cell? ⟨bb, 2, none⟩ = some (.int .i64 S) := HU.out.1.cell 2
        have hcr := cell_regrown cU
        have HSh : Hid (∀ d os, Calls Try.prog 24 #[.int .i64 68719476736, .int .i64 (-q)] (grow (redrawn wr d) os) fun e w'' => e = .returned (.int .i64 Y) ∧ ∃ p : Regrown, w'' = grow (redrawn wr p.d) p.os) := fun d os => Calls.regrown_of (HSh0.out _)
        have HAd : Hid (∀ d os, Calls Try.prog 23 #[.int .i64 S, .int .i64 Y] (grow (redrawn wr d) os) fun e w'' => e = .returned (.int .i64 Z) ∧ ∃ p : Regrown, w'' = grow (redrawn wr p.d) p.os) := fun d os => Calls.regrown_of (HAd0.out _)
        go_wp2_with fail
        refine wp_region_last_belowT (by kernel_rfl) (by kernel_rfl) (by rfl) (by kernel_rfl) ?_
        simp only [idleLast, idle]
        repeat (quiet_step (first | exact HSh.out _ _ | exact HAd.out _ _))
        refine wpQuiet_nil ?_
        intro _ hw'
        obtain ⟨⟨dq, osq⟩, hw''⟩ := hw'
        subst hw''
        have hBq : Below wr.heap.size wr (grow (redrawn wr dq) osq) := below_regrown wr dq osq
        have hk4 : Bk bb (grow (redrawn wr dq) osq) (#[.int .i64 x.o, .int .i64 x.d, .int .i64 S, .int .i64 0, .int .u64 x.a, .bool false] : Array Value) 33 := HU.out.1.kept (hBq.block _ HU.out.1.lt)
        refine wpOp_stin1 (cs := [.int .i64 x.o, .int .i64 x.d, .int .i64 S, .int .i64 0, .int .u64 x.a, .bool false]) _ (by rfl) rfl 23 _ _ rfl hk4 2 (.int .i64 Z) (by rfl) (by rfl) rfl (by kernel_rfl) (by simp) rfl ?_
        have h5 : Bk bb ((grow (redrawn wr dq) osq).setRow bb ([.int .i64 x.o, .int .i64 x.d, .int .i64 S, .int .i64 0, .int .u64 x.a, .bool false].set 2 (.int .i64 Z)).toArray) #[.int .i64 x.o, .int .i64 x.d, .int .i64 Z, .int .i64 0, .int .u64 x.a, .bool false] 33 := setRow_heap _ _ _ _ _ _ hk4
        have h6 : Below w2.heap.size w2 ((grow (redrawn wr dq) osq).setRow bb ([.int .i64 x.o, .int .i64 x.d, .int .i64 S, .int .i64 0, .int .u64 x.a, .bool false].set 2 (.int .i64 Z)).toArray) := below_row (HU.out.2.trans (hBq.mono HU.out.2.size)) (by rw [Hbb.out]; exact Nat.le_refl _) _
        generalize (grow (redrawn wr dq) osq).setRow bb ([.int .i64 x.o, .int .i64 x.d, .int .i64 S, .int .i64 0, .int .u64 x.a, .bool false].set 2 (.int .i64 Z)).toArray = W5 at *
        have H5 : Hid (Bk bb W5 #[.int .i64 x.o, .int .i64 x.d, .int .i64 Z, .int .i64 0, .int .u64 x.a, .bool false] 33 ∧ Below w2.heap.size w2 W5) := ⟨h5, h6⟩
        clear h5 h6 hk4 hBq cU hcr HSh HAd
        go_wp2_with fail
        go_roundw
        case rel => exact ⟨k + 1, q + 1, rfl, by omega, by omega, by have := Hq.out; show q + 1 = ((k + 1 : Nat) : Int) + 1; omega, ⟨by rw [← HZ.out]; exact H5.out.1, H5.out.2⟩⟩
        case measure => simp [intOf]; omega

    · have hq : q = 9 := by omega
      subst hq
      have hk8 : k = 8 := by have := Hq.out; omega
      subst hk8
      obtain ⟨D, hD⟩ : ∃ D, D = ds (srt xs) now 8 := ⟨_, rfl⟩
      rw [← hD] at HK hQ
      clear hD
      go_wp2_with fail
      rw [hR.out]
      clear hR
      refine seq_hid fun R hR => ?_
      go_wp2_with fail
      refine world_hid fun W4 hW4 => ?_
      obtain ⟨db, hdb⟩ : ∃ db, db = wr.heap.size := ⟨_, rfl⟩
      rw [← hdb]
      have HW4 : Hid (OS W4 db (.slice (some ⟨db, 0, none⟩) 0 0) [] ∧ Bk bb W4 #[.int .i64 x.o, .int .i64 x.d, .int .i64 D, .int .i64 0, .int .u64 x.a, .bool false] 33 ∧ Below w2.heap.size w2 W4 ∧ w2.heap.size ≤ db ∧ bb < db ∧ db ≤ W4.heap.size) := by
        refine ⟨?_, ?_, ?_, ?_, ?_, ?_⟩
        · rw [hW4.out, hdb]; exact os_fresh wr _ (Nat.le_refl _)
        · rw [hW4.out]; exact HK.out.1.kept (((Below.refl wr.heap.size wr).alloc (Nat.le_refl _) _).block _ HK.out.1.lt)
        · rw [hW4.out]; exact HK.out.2.alloc HK.out.2.size _
        · rw [hdb]; exact HK.out.2.size
        · rw [hdb]; exact HK.out.1.lt
        · rw [hW4.out, hdb]; simp
      clear hW4 HK hdb
      rw [hR.out]
      clear hR
      refine seq_hid fun R hR => ?_
      go_wp2_with fail
      go_loopw [9, 10] (fun dv i wr => ∃ (k : Nat), i = .int .i64 k ∧ 1 ≤ (k : Int) ∧ (k : Int) ≤ n ∧ Hid (OS wr db dv ((dfs (srt xs)).take (k - 1)) ∧ Bk bb wr #[.int .i64 x.o, .int .i64 x.d, .int .i64 D, .int .i64 0, .int .u64 x.a, .bool false] 33 ∧ Below w2.heap.size w2 wr ∧ db ≤ wr.heap.size)) (fun _ i _ => n - (intOf i).toNat)
      case atStart => exact ⟨1, rfl, by omega, by omega, ⟨HW4.out.1, HW4.out.2.1, HW4.out.2.2.1, HW4.out.2.2.2.2.2⟩⟩
      case round =>
        obtain ⟨k, rfl, hk1, hk, HK⟩ := hrel
        obtain ⟨dv, hdv⟩ : ∃ dv, dv = u9 := ⟨_, rfl⟩
        subst hdv
        have HDB : Hid (w2.heap.size ≤ db ∧ bb < db) := ⟨HW4.out.2.2.2.1, HW4.out.2.2.2.2.1⟩
        clear HW4
        by_cases hlt : (k : Int) < n
        · have hkl : k < (srt xs).length := by have := HX0.out.1; omega
          have hsv := H2.out.1.sv.below HK.out.2.2.1 (Nat.le_refl _)
          obtain ⟨ak, hixk, habk, hack⟩ := hsv.at k hkl
          obtain ⟨a0, hix0, hab0, hac0⟩ := hsv.at 0 (by omega)
          have hix0 : ∀ u, Sem.run Try.prog (Instr.indexAt 22 (.slice lo ln lc) (.int .i64 0)) u = .ok (.pointer (some a0)) u := hix0
          have blk : ∀ (i : Nat) (hi : i < (srt xs).length) (ad : Addr), (∀ u, Sem.run Try.prog (Instr.indexAt 22 (.slice lo ln lc) (.int .i64 (i : Int))) u = .ok (.pointer (some ad)) u) → ad.block < db := fun i hi ad had => by
            obtain ⟨ad', h1, h2, h3⟩ := H2.out.1.sv.at i hi
            have e := (had w).symm.trans (h1 w)
            injection e with e _
            injection e with e
            injection e with e
            rw [e]; have := HDB.out.1; omega
          have HBK : Hid (ak.block < db ∧ a0.block < db) := ⟨blk k hkl ak hixk, blk 0 (by omega) a0 hix0⟩
          have hmem : ∀ i, i < (srt xs).length → (srt xs).getD i z0 ∈ srt xs := fun i hi => by rw [List.getD_eq_getElem?_getD, List.getElem?_eq_getElem hi]; exact List.getElem_mem hi
          obtain ⟨p, hp⟩ : ∃ p, p = ((srt xs).getD k z0).o := ⟨_, rfl⟩
          obtain ⟨r, hr⟩ : ∃ r, r = ((srt xs).getD 0 z0).o := ⟨_, rfl⟩
          have bp := (HX0.out.2 _ (hmem k hkl)).1
          have br := (HX0.out.2 _ (hmem 0 (by omega))).1
          rw [← hp] at bp
          rw [← hr] at br
          have z1 : ∀ ad : Addr, ad.add 0 = ad := fun ad => by unfold Addr.add; rw [if_pos rfl]
          have ck : wr.cell? ak = some (.int .i64 p) := by have := hack 0 _ rfl; rw [z1, ← hp] at this; exact this
          have c0 : wr.cell? a0 = some (.int .i64 r) := by have := hac0 0 _ rfl; rw [z1, ← hr] at this; exact this
          obtain ⟨z, hz⟩ : ∃ z, z = Fx.cl 4611686018427387904 (p - r) := ⟨_, rfl⟩
          have HSb : Hid (∀ u, Calls Try.prog 25 #[.int .i64 p, .int .i64 r] u fun e w' => e = .returned (.int .i64 z) ∧ Below u.heap.size u w') := fun u => by rw [hz]; exact rsub_any _ _ u bp.1 bp.2 br.1 br.2
          have HD2 : Hid ((dfs (srt xs)).take (k + 1 - 1) = (dfs (srt xs)).take (k - 1) ++ [z]) := by
            obtain ⟨m, hm⟩ : ∃ m, k = m + 1 := ⟨k - 1, by omega⟩
            subst hm
            have hml : m < (dfs (srt xs)).length := by rw [dfs_len]; omega
            show (dfs (srt xs)).take (m + 1 + 1 - 1) = (dfs (srt xs)).take (m + 1 - 1) ++ [z]
            rw [Nat.add_sub_cancel, Nat.add_sub_cancel, List.take_succ_eq_append_getElem hml]
            have := dfs_get (srt xs) m hkl
            rw [List.getD_eq_getElem?_getD, List.getElem?_eq_getElem hml] at this
            rw [hz, hp, hr, ← this]
            rfl
          clear hp hr hz hmem hkl hsv habk hack hab0 hac0 blk bp br z1
          go_wp2_with fail
          go_region_held3 (fun w' => w'.cell? ak = some (.int .i64 p) ∧ w'.cell? a0 = some (.int .i64 r)) (first | with_reducible exact ⟨ck, c0⟩ | with_reducible exact ⟨d0, d1⟩ | with_reducible exact ⟨e0, e1⟩ | go_keep) (first
            | (go_at_call 25; refine (HSb.out _).mono ?_; rintro e w5 ⟨rfl, hb5⟩; have HB5 : Hid (Below wr.heap.size wr w5) := (by first | exact hb5 | exact Below.then ((Below.refl _ _).drew) hb5); have d0 := (HB5.out.cell (p := ak) (Nat.lt_of_lt_of_le HBK.out.1 HK.out.2.2.2)).trans ck; have d1 := (HB5.out.cell (p := a0) (Nat.lt_of_lt_of_le HBK.out.2 HK.out.2.2.2)).trans c0)
            | (obtain ⟨v6, w6, hr6, ho6, hb6⟩ := run_appS w5 db dv _ z (OR.below HK.out.1 HB5.out (Nat.le_refl _)) (by rw [List.length_take]; have := dfs_len (srt xs); have := HX0.out.1; omega) (Nat.le_trans HK.out.2.2.2 HB5.out.size); refine step_appS rfl _ _ rfl rfl _ _ _ (by rfl) (by rfl) hr6 ?_; have HB6 : Hid (Below db w5 w6) := hb6; have e0 := (HB6.out.cell (p := ak) HBK.out.1).trans d0; have e1 := (HB6.out.cell (p := a0) HBK.out.2).trans d1))
          have H6 : Hid (OS w6 db v6 ((dfs (srt xs)).take (k + 1 - 1)) ∧ Bk bb w6 #[.int .i64 x.o, .int .i64 x.d, .int .i64 D, .int .i64 0, .int .u64 x.a, .bool false] 33 ∧ Below w2.heap.size w2 w6 ∧ db ≤ w6.heap.size) := by
            have h5 := HK.out.2.1.kept (HB5.out.block _ HK.out.2.1.lt)
            refine ⟨by rw [HD2.out]; exact ho6, h5.kept (HB6.out.block _ HDB.out.2), ?_, ?_⟩
            · exact (HK.out.2.2.1.trans (HB5.out.mono HK.out.2.2.1.size)).trans (HB6.out.mono HDB.out.1)
            · exact Nat.le_trans HK.out.2.2.2 (Nat.le_trans HB5.out.size HB6.out.size)
          clear hr6 ho6 hb6 HB6 HB5 hb5 d0 d1 e0 e1 ck c0
          go_wp2_with fail
          go_roundw
          case rel => exact ⟨k + 1, by go_num, by omega, by omega, H6⟩
          case measure => simp [intOf]; omega
        · have hkn : k = n := by omega
          subst hkn
          obtain ⟨do', dc, hdv, hrs⟩ := HK.out.1.rs
          have hdl : ((dfs (srt xs)).take (k - 1)) = dfs (srt xs) := List.take_of_length_le (by rw [dfs_len, HX0.out.1]; exact Nat.le_refl _)
          rw [hdl] at hdv hrs
          subst hdv
          have hl2 : (dfs (srt xs)).length = k - 1 := by rw [dfs_len, HX0.out.1]
          have HRm : Hid (Calls Try.prog 26 #[.slice do' (dfs (srt xs)).length dc] wr fun e w' => e = .returned (.int .i64 ((Sq.rms (dfs (srt xs)) : Nat) : Int)) ∧ Below wr.heap.size wr w') := rRMS_any do' (dfs (srt xs)) dc wr (by rw [hl2]; omega) hrs (dfs_ok _)
          obtain ⟨J, hJ⟩ : ∃ J, J = jt (srt xs) := ⟨_, rfl⟩
          rw [← hJ] at hQ
          obtain ⟨M, hM⟩ : ∃ M : Int, M = ((Sq.rms (dfs (srt xs)) : Nat) : Int) := ⟨_, rfl⟩
          rw [← hM] at HRm
          have m3 : ∀ u, (Builtin.max_ #[23, 23] 23 #[.int .i64 4096, .int .i64 M]).run Try.prog u = .ok (.int .i64 J) u := fun u => by rw [run_mxS, hJ]; unfold jt; rw [← hM]; congr 2; split <;> omega
          obtain ⟨dn, hdn⟩ : ∃ dn, dn = (dfs (srt xs)).length := ⟨_, rfl⟩
          rw [← hdn] at HRm ⊢
          have HK2 : Hid (Bk bb wr #[.int .i64 x.o, .int .i64 x.d, .int .i64 D, .int .i64 0, .int .u64 x.a, .bool false] 33 ∧ Below w2.heap.size w2 wr) := ⟨HK.out.2.1, HK.out.2.2.1⟩
          clear hdl hrs hl2 hJ hM hdn HK
          go_wp2_with fail
          rw [hR.out]
          clear hR
          refine seq_hid fun R hR => ?_
          go_wp2_with fail
          refine HRm.out.mono ?_
          rintro e w5 ⟨rfl, hb5⟩
          have hB5 : Bk bb w5 #[.int .i64 x.o, .int .i64 x.d, .int .i64 D, .int .i64 0, .int .u64 x.a, .bool false] 33 := HK2.out.1.kept (hb5.block _ HK2.out.1.lt)
          have H5 : Hid (Bk bb w5 #[.int .i64 x.o, .int .i64 x.d, .int .i64 D, .int .i64 0, .int .u64 x.a, .bool false] 33 ∧ Below w2.heap.size w2 w5) := ⟨hB5, HK2.out.2.trans (hb5.mono HK2.out.2.size)⟩
          have f3 : w5.cell? ⟨bb, 3, none⟩ = some (.int .i64 0) := hB5.cell 3
          have ff := hB5.frozen
          clear hb5 hB5 HRm HK2
          go_wp2_with fail
          refine world_hid fun W6 hW6 => ?_
          have HW6 : Hid (Bk bb W6 #[.int .i64 x.o, .int .i64 x.d, .int .i64 D, .int .i64 J, .int .u64 x.a, .bool false] 33 ∧ Below w2.heap.size w2 W6) := by
            refine ⟨?_, ?_⟩
            · rw [hW6.out]; exact H5.out.1.set (j := 3) (.int .i64 J)
            · rw [hW6.out]
              exact ⟨H5.out.2.os, H5.out.2.tape, H5.out.2.output, by have := H5.out.2.size; simpa using this, fun q hq => (Below.heap_setCell w5 ⟨bb, 3, none⟩ _ q (by have := Hbb.out; show q ≠ bb; omega)).trans (H5.out.2.block q hq)⟩
          clear hW6 f3 ff H5 m3
          rw [hR.out]
          clear hR
          refine seq_hid fun R hR => ?_
          have HW6b : Hid (Below w.heap.size w W6) := by
            have h0 := HW0.out.2.1
            have h1 := H2.out.2
            exact (h0.trans (h1.mono h0.size)).trans (HW6.out.2.mono (Nat.le_trans h0.size h1.size))
          have Hbw : Hid (w.heap.size < bb) := by have := Hbb.out; have := H2.out.2.size; have := HW0.out.2.2; show w.heap.size < bb; omega
          have HGb : Hid (Bk g W6 #[v, .bool t, .int .u64 la] 39) := H.out.2.2.2.1.kept (HW6b.out.block _ HG.out)
          have HRb : Hid (Bk w.heap.size W6 #[.int .i64 0, .int .i64 0, .int .i64 0, .int .i64 0, .int .u64 0, .bool false] 33) := HW0.out.1.kept ((HW6.out.2.block _ (by have := Hbb.out; have := Hbw.out; omega)).trans (H2.out.2.block _ (by have := HW0.out.2.2; omega)))
          have c1 : W6.cell? ⟨g, 1, none⟩ = some (.bool t) := HGb.out.cell 1
          have c2 : W6.cell? ⟨g, 2, none⟩ = some (.int .u64 la) := HGb.out.cell 2
          have b4 : W6.cell? ⟨bb, 4, none⟩ = some (.int .u64 x.a) := HW6.out.1.cell 4
          obtain ⟨E, hE⟩ : ∃ E, E = sn x.a la := ⟨_, rfl⟩
          have HSi : Hid (∀ u, Calls Try.prog 27 #[.int .u64 x.a, .int .u64 la] u fun e w' => e = .returned (.int .i64 E) ∧ w' = u) := fun u => by rw [hE]; exact rsince_any _ _ u
          unfold nwL nwB at hQ
          rw [← hE] at hQ
          clear hE
          rcases t with _ | _
          · simp only [Bool.false_and, Bool.not_false, Bool.or_true, if_true] at hQ
            go_wp2_with fail
            refine wp_region_lastW (by kernel_rfl) (by kernel_rfl) (by rfl) (by kernel_rfl) ?_
            simp only [idleLast, idle]
            repeat (refine qw_step (fun K hK => ?_); go_simp; first | (refine hK _ ?_; clear hK K) | (apply Exists.intro; refine ⟨fun _ => ?_, hK _ ?_⟩; (go_at_call 27; exact Calls.quiet_of_same (HSi.out _)); clear hK K))
            refine qw_nil ?_
            intro _ hw'
            obtain ⟨nq, hw''⟩ := hw'
            subst hw''
            have hk4 : Bk bb (W6.drewN nq) #[.int .i64 x.o, .int .i64 x.d, .int .i64 D, .int .i64 J, .int .u64 x.a, .bool false] 33 := HW6.out.1
            refine wpOp_stin1 (cs := [.int .i64 x.o, .int .i64 x.d, .int .i64 D, .int .i64 J, .int .u64 x.a, .bool false]) _ (by rfl) rfl 4 _ _ rfl hk4 5 (.bool true) (by rfl) (by rfl) rfl (by kernel_rfl) (by simp) rfl ?_
            have h7 : Bk bb ((W6.drewN nq).setRow bb ([.int .i64 x.o, .int .i64 x.d, .int .i64 D, .int .i64 J, .int .u64 x.a, .bool false].set 5 (.bool true)).toArray) (bsL x.o x.d D J x.a true).toArray 33 := setRow_heap _ _ _ _ _ _ hk4
            have hne7 : ∀ q, q ≠ bb → ((W6.drewN nq).setRow bb ([.int .i64 x.o, .int .i64 x.d, .int .i64 D, .int .i64 J, .int .u64 x.a, .bool false].set 5 (.bool true)).toArray).heap[q]? = W6.heap[q]? := fun q hq => setRow_other (W6.drewN nq) bb q _ hq
            have b7 : w.grownBy ((W6.drewN nq).setRow bb ([.int .i64 x.o, .int .i64 x.d, .int .i64 D, .int .i64 J, .int .u64 x.a, .bool false].set 5 (.bool true)).toArray) none := ⟨HW6b.out.os, HW6b.out.tape, HW6b.out.output, by have := HW6b.out.size; simpa [World.setRow] using this, fun q hq _ => (hne7 q (by have := Hbw.out; omega)).trans (HW6b.out.block q hq)⟩
            have hz7 : ((W6.drewN nq).setRow bb ([.int .i64 x.o, .int .i64 x.d, .int .i64 D, .int .i64 J, .int .u64 x.a, .bool false].set 5 (.bool true)).toArray).heap.size = W6.heap.size := by simp [World.setRow]
            generalize ((W6.drewN nq).setRow bb ([.int .i64 x.o, .int .i64 x.d, .int .i64 D, .int .i64 J, .int .u64 x.a, .bool false].set 5 (.bool true)).toArray) = W7 at *
            have g7 : Bk g W7 #[v, .bool false, .int .u64 la] 39 := HGb.out.kept (hne7 g (by have := HG.out; have := Hbw.out; omega))
            have r7 : Bk w.heap.size W7 #[.int .i64 0, .int .i64 0, .int .i64 0, .int .i64 0, .int .u64 0, .bool false] 33 := HRb.out.kept (hne7 _ (by have := Hbw.out; omega))
            have H7 : Hid (Bk bb W7 (bsL x.o x.d D J x.a true).toArray 33 ∧ Bk g W7 #[v, .bool false, .int .u64 la] 39 ∧ Bk w.heap.size W7 #[.int .i64 0, .int .i64 0, .int .i64 0, .int .i64 0, .int .u64 0, .bool false] 33 ∧ w.grownBy W7 none) := ⟨h7, g7, r7, b7⟩
            have i5 : W7.cell? ⟨bb, 5, none⟩ = some (.bool true) := h7.cell 5
            have i4 : W7.cell? ⟨bb, 4, none⟩ = some (.int .u64 x.a) := h7.cell 4
            have j1 : W7.cell? ⟨g, 1, none⟩ = some (.bool false) := g7.cell 1
            have j2 : W7.cell? ⟨g, 2, none⟩ = some (.int .u64 la) := g7.cell 2
            have jf := g7.frozen
            clear h7 g7 r7 b7 hk4 hne7 hz7 c1 c2 b4
            go_wp2_with fail
            rw [hR.out]
            clear hR
            have hng : ¬ (bb = g) := by have := HG.out; have := Hbw.out; omega
            have hng2 : ¬ (g = bb) := by omega
            have hwg : g ≠ w.heap.size := Nat.ne_of_lt HG.out
            have k8 : Bk bb ((W7.setCell ⟨g, 1, none⟩ (.bool true)).setCell ⟨g, 2, none⟩ (.int .u64 x.a)) (bsL x.o x.d D J x.a true).toArray 33 := (H7.out.1.kept (Below.heap_setCell W7 ⟨g, 1, none⟩ _ bb hng)).kept (Below.heap_setCell _ ⟨g, 2, none⟩ _ bb hng)
            have r8 : Bk w.heap.size ((W7.setCell ⟨g, 1, none⟩ (.bool true)).setCell ⟨g, 2, none⟩ (.int .u64 x.a)) #[.int .i64 0, .int .i64 0, .int .i64 0, .int .i64 0, .int .u64 0, .bool false] 33 := (H7.out.2.2.1.kept (Below.heap_setCell W7 ⟨g, 1, none⟩ _ _ hwg.symm)).kept (Below.heap_setCell _ ⟨g, 2, none⟩ _ _ hwg.symm)
            have g8 : Bk g ((W7.setCell ⟨g, 1, none⟩ (.bool true)).setCell ⟨g, 2, none⟩ (.int .u64 x.a)) #[v, .bool true, .int .u64 x.a] 39 := (H7.out.2.1.set (j := 1) (.bool true)).set (j := 2) (.int .u64 x.a)
            have b8 : w.grownBy ((W7.setCell ⟨g, 1, none⟩ (.bool true)).setCell ⟨g, 2, none⟩ (.int .u64 x.a)) (some g) := by
              have h0 : w.grownBy W7 (some g) := ⟨H7.out.2.2.2.os, H7.out.2.2.2.tape, H7.out.2.2.2.output, H7.out.2.2.2.size, fun q hq _ => H7.out.2.2.2.block q hq (by simp)⟩
              exact grownBy_trans h0 (grownBy_trans (grownBy_set W7 ⟨g, 1, none⟩ _) (grownBy_set _ ⟨g, 2, none⟩ _))
            have HC8 : Hid (∀ j u, (bsL x.o x.d D J x.a true)[j]? = some u → ((W7.setCell ⟨g, 1, none⟩ (.bool true)).setCell ⟨g, 2, none⟩ (.int .u64 x.a)).cell? ((⟨bb, 0, none⟩ : Addr).add j) = some u) := cells_of (l := bsL x.o x.d D J x.a true) k8
            have HR8 : Hid (((W7.setCell ⟨g, 1, none⟩ (.bool true)).setCell ⟨g, 2, none⟩ (.int .u64 x.a)).heap[w.heap.size]? = some (.cells #[.int .i64 0, .int .i64 0, .int .i64 0, .int .i64 0, .int .u64 0, .bool false] 33 (0, 0))) := r8
            have H8 : Hid (Bk g ((W7.setCell ⟨g, 1, none⟩ (.bool true)).setCell ⟨g, 2, none⟩ (.int .u64 x.a)) #[v, .bool true, .int .u64 x.a] 39 ∧ w.grownBy ((W7.setCell ⟨g, 1, none⟩ (.bool true)).setCell ⟨g, 2, none⟩ (.int .u64 x.a)) (some g)) := ⟨g8, b8⟩
            clear k8 r8 g8 b8 H7
            go_wp2_with (first | (refine step_ldat 33 _ rfl rfl ⟨bb, 0, none⟩ (by rfl) (bsL x.o x.d D J x.a true) _ Try.underlying33 rfl (by kernel_rfl) HC8.out ?_) | (refine step_stR (by rfl) _ _ rfl w.heap.size (bsL x.o x.d D J x.a true).toArray (by rfl) (by rfl) #[.int .i64 0, .int .i64 0, .int .i64 0, .int .i64 0, .int .u64 0, .bool false] (by kernel_rfl) (by rfl) (by kernel_rfl) HR8.out ?_))
            rw [hQ.out]
            have hR9 := setRow_heap _ _ _ (bsL x.o x.d D J x.a true).toArray _ _ HR8.out
            have g9 : Bk g (((W7.setCell ⟨g, 1, none⟩ (.bool true)).setCell ⟨g, 2, none⟩ (.int .u64 x.a)).setRow w.heap.size (bsL x.o x.d D J x.a true).toArray) #[v, .bool true, .int .u64 x.a] 39 := H8.out.1.kept (setRow_other _ _ _ _ (Nat.ne_of_lt HG.out))
            have b9 : w.grownBy (((W7.setCell ⟨g, 1, none⟩ (.bool true)).setCell ⟨g, 2, none⟩ (.int .u64 x.a)).setRow w.heap.size (bsL x.o x.d D J x.a true).toArray) (some g) := ⟨H8.out.2.os, H8.out.2.tape, H8.out.2.output, by have := H8.out.2.size; simpa [World.setRow] using this, fun q hq hn => (setRow_other _ _ _ _ (by omega)).trans (H8.out.2.block q hq hn)⟩
            exact bodyPost_ret (v := .agg (bsL x.o x.d D J x.a true).toArray) (results_cell_row Try.results12 _ _ w.heap.size _ _ (0, 0) _ (by rfl) hR9 Try.underlying33 rfl (by kernel_rfl)) rfl ⟨rfl, ⟨H.out.1, Nat.le_trans H.out.2.1 b9.size, H.out.2.2.1, v, g9, H.out.2.2.2.2.grown b9 H.out.1⟩, b9⟩
          · by_cases hE0 : E ≤ 0
            · have e1 : decide (E ≤ 0) = true := decide_eq_true hE0
              rw [e1] at hQ
              simp only [Bool.true_and, Bool.not_true, Bool.or_false] at hQ
              have hE1 : decide (0 < E) = false := decide_eq_false (by omega)
              clear hE0
              go_wp2_with fail
              refine wp_region_lastW (by kernel_rfl) (by kernel_rfl) (by rfl) (by kernel_rfl) ?_
              simp only [idleLast, idle]
              repeat (refine qw_step (fun K hK => ?_); go_simp; first | (refine hK _ ?_; clear hK K) | (apply Exists.intro; refine ⟨fun _ => ?_, hK _ ?_⟩; (go_at_call 27; exact Calls.quiet_of_same (HSi.out _)); clear hK K))
              refine qw_nil ?_
              intro _ hw'
              obtain ⟨nq, hw''⟩ := hw'
              subst hw''
              have hk4 : Bk bb (W6.drewN nq) #[.int .i64 x.o, .int .i64 x.d, .int .i64 D, .int .i64 J, .int .u64 x.a, .bool false] 33 := HW6.out.1
              refine wpOp_stin1 (cs := [.int .i64 x.o, .int .i64 x.d, .int .i64 D, .int .i64 J, .int .u64 x.a, .bool false]) _ (by rfl) rfl 4 _ _ rfl hk4 5 (.bool false) (by rfl) (by rfl) rfl (by kernel_rfl) (by simp) rfl ?_
              have h7 : Bk bb ((W6.drewN nq).setRow bb ([.int .i64 x.o, .int .i64 x.d, .int .i64 D, .int .i64 J, .int .u64 x.a, .bool false].set 5 (.bool false)).toArray) (bsL x.o x.d D J x.a false).toArray 33 := setRow_heap _ _ _ _ _ _ hk4
              have hne7 : ∀ q, q ≠ bb → ((W6.drewN nq).setRow bb ([.int .i64 x.o, .int .i64 x.d, .int .i64 D, .int .i64 J, .int .u64 x.a, .bool false].set 5 (.bool false)).toArray).heap[q]? = W6.heap[q]? := fun q hq => setRow_other (W6.drewN nq) bb q _ hq
              have b7 : w.grownBy ((W6.drewN nq).setRow bb ([.int .i64 x.o, .int .i64 x.d, .int .i64 D, .int .i64 J, .int .u64 x.a, .bool false].set 5 (.bool false)).toArray) none := ⟨HW6b.out.os, HW6b.out.tape, HW6b.out.output, by have := HW6b.out.size; simpa [World.setRow] using this, fun q hq _ => (hne7 q (by have := Hbw.out; omega)).trans (HW6b.out.block q hq)⟩
              have hz7 : ((W6.drewN nq).setRow bb ([.int .i64 x.o, .int .i64 x.d, .int .i64 D, .int .i64 J, .int .u64 x.a, .bool false].set 5 (.bool false)).toArray).heap.size = W6.heap.size := by simp [World.setRow]
              generalize ((W6.drewN nq).setRow bb ([.int .i64 x.o, .int .i64 x.d, .int .i64 D, .int .i64 J, .int .u64 x.a, .bool false].set 5 (.bool false)).toArray) = W7 at *
              have g7 : Bk g W7 #[v, .bool true, .int .u64 la] 39 := HGb.out.kept (hne7 g (by have := HG.out; have := Hbw.out; omega))
              have r7 : Bk w.heap.size W7 #[.int .i64 0, .int .i64 0, .int .i64 0, .int .i64 0, .int .u64 0, .bool false] 33 := HRb.out.kept (hne7 _ (by have := Hbw.out; omega))
              have H7 : Hid (Bk bb W7 (bsL x.o x.d D J x.a false).toArray 33 ∧ Bk g W7 #[v, .bool true, .int .u64 la] 39 ∧ Bk w.heap.size W7 #[.int .i64 0, .int .i64 0, .int .i64 0, .int .i64 0, .int .u64 0, .bool false] 33 ∧ w.grownBy W7 none) := ⟨h7, g7, r7, b7⟩
              have i5 : W7.cell? ⟨bb, 5, none⟩ = some (.bool false) := h7.cell 5
              have i4 : W7.cell? ⟨bb, 4, none⟩ = some (.int .u64 x.a) := h7.cell 4
              have j1 : W7.cell? ⟨g, 1, none⟩ = some (.bool true) := g7.cell 1
              have j2 : W7.cell? ⟨g, 2, none⟩ = some (.int .u64 la) := g7.cell 2
              have jf := g7.frozen
              clear h7 g7 r7 b7 hk4 hne7 hz7 c1 c2 b4
              go_wp2_with fail
              rw [hR.out]
              clear hR
              have k8 := H7.out.1
              have r8 := H7.out.2.2.1
              have g8 := H7.out.2.1
              have b8 : w.grownBy W7 (some g) := ⟨H7.out.2.2.2.os, H7.out.2.2.2.tape, H7.out.2.2.2.output, H7.out.2.2.2.size, fun q hq _ => H7.out.2.2.2.block q hq (by simp)⟩
              have HC8 : Hid (∀ j u, (bsL x.o x.d D J x.a false)[j]? = some u → W7.cell? ((⟨bb, 0, none⟩ : Addr).add j) = some u) := cells_of (l := bsL x.o x.d D J x.a false) k8
              have HR8 : Hid (W7.heap[w.heap.size]? = some (.cells #[.int .i64 0, .int .i64 0, .int .i64 0, .int .i64 0, .int .u64 0, .bool false] 33 (0, 0))) := r8
              have H8 : Hid (Bk g W7 #[v, .bool true, .int .u64 la] 39 ∧ w.grownBy W7 (some g)) := ⟨g8, b8⟩
              clear k8 r8 g8 b8 H7
              go_wp2_with (first | (refine step_ldat 33 _ rfl rfl ⟨bb, 0, none⟩ (by rfl) (bsL x.o x.d D J x.a false) _ Try.underlying33 rfl (by kernel_rfl) HC8.out ?_) | (refine step_stR (by rfl) _ _ rfl w.heap.size (bsL x.o x.d D J x.a false).toArray (by rfl) (by rfl) #[.int .i64 0, .int .i64 0, .int .i64 0, .int .i64 0, .int .u64 0, .bool false] (by kernel_rfl) (by rfl) (by kernel_rfl) HR8.out ?_))
              rw [hQ.out]
              have hR9 := setRow_heap _ _ _ (bsL x.o x.d D J x.a false).toArray _ _ HR8.out
              have g9 : Bk g (W7.setRow w.heap.size (bsL x.o x.d D J x.a false).toArray) #[v, .bool true, .int .u64 la] 39 := H8.out.1.kept (setRow_other _ _ _ _ (Nat.ne_of_lt HG.out))
              have b9 : w.grownBy (W7.setRow w.heap.size (bsL x.o x.d D J x.a false).toArray) (some g) := ⟨H8.out.2.os, H8.out.2.tape, H8.out.2.output, by have := H8.out.2.size; simpa [World.setRow] using this, fun q hq hn => (setRow_other _ _ _ _ (by omega)).trans (H8.out.2.block q hq hn)⟩
              exact bodyPost_ret (v := .agg (bsL x.o x.d D J x.a false).toArray) (results_cell_row Try.results12 _ _ w.heap.size _ _ (0, 0) _ (by rfl) hR9 Try.underlying33 rfl (by kernel_rfl)) rfl ⟨rfl, ⟨H.out.1, Nat.le_trans H.out.2.1 b9.size, H.out.2.2.1, v, g9, H.out.2.2.2.2.grown b9 H.out.1⟩, b9⟩
            · have e1 : decide (E ≤ 0) = false := decide_eq_false hE0
              rw [e1] at hQ
              simp only [Bool.and_false, Bool.not_false, Bool.or_true, if_true] at hQ
              have hE1 : 0 < E := by omega
              go_wp2_with fail
              refine wp_region_lastW (by kernel_rfl) (by kernel_rfl) (by rfl) (by kernel_rfl) ?_
              simp only [idleLast, idle]
              repeat (refine qw_step (fun K hK => ?_); go_simp; first | (refine hK _ ?_; clear hK K) | (apply Exists.intro; refine ⟨fun _ => ?_, hK _ ?_⟩; (go_at_call 27; exact Calls.quiet_of_same (HSi.out _)); clear hK K))
              refine qw_nil ?_
              intro _ hw'
              obtain ⟨nq, hw''⟩ := hw'
              subst hw''
              have hk4 : Bk bb (W6.drewN nq) #[.int .i64 x.o, .int .i64 x.d, .int .i64 D, .int .i64 J, .int .u64 x.a, .bool false] 33 := HW6.out.1
              refine wpOp_stin1 (cs := [.int .i64 x.o, .int .i64 x.d, .int .i64 D, .int .i64 J, .int .u64 x.a, .bool false]) _ (by rfl) rfl 4 _ _ rfl hk4 5 (.bool true) (by rfl) (by rfl) rfl (by kernel_rfl) (by simp) rfl ?_
              have h7 : Bk bb ((W6.drewN nq).setRow bb ([.int .i64 x.o, .int .i64 x.d, .int .i64 D, .int .i64 J, .int .u64 x.a, .bool false].set 5 (.bool true)).toArray) (bsL x.o x.d D J x.a true).toArray 33 := setRow_heap _ _ _ _ _ _ hk4
              have hne7 : ∀ q, q ≠ bb → ((W6.drewN nq).setRow bb ([.int .i64 x.o, .int .i64 x.d, .int .i64 D, .int .i64 J, .int .u64 x.a, .bool false].set 5 (.bool true)).toArray).heap[q]? = W6.heap[q]? := fun q hq => setRow_other (W6.drewN nq) bb q _ hq
              have b7 : w.grownBy ((W6.drewN nq).setRow bb ([.int .i64 x.o, .int .i64 x.d, .int .i64 D, .int .i64 J, .int .u64 x.a, .bool false].set 5 (.bool true)).toArray) none := ⟨HW6b.out.os, HW6b.out.tape, HW6b.out.output, by have := HW6b.out.size; simpa [World.setRow] using this, fun q hq _ => (hne7 q (by have := Hbw.out; omega)).trans (HW6b.out.block q hq)⟩
              have hz7 : ((W6.drewN nq).setRow bb ([.int .i64 x.o, .int .i64 x.d, .int .i64 D, .int .i64 J, .int .u64 x.a, .bool false].set 5 (.bool true)).toArray).heap.size = W6.heap.size := by simp [World.setRow]
              generalize ((W6.drewN nq).setRow bb ([.int .i64 x.o, .int .i64 x.d, .int .i64 D, .int .i64 J, .int .u64 x.a, .bool false].set 5 (.bool true)).toArray) = W7 at *
              have g7 : Bk g W7 #[v, .bool true, .int .u64 la] 39 := HGb.out.kept (hne7 g (by have := HG.out; have := Hbw.out; omega))
              have r7 : Bk w.heap.size W7 #[.int .i64 0, .int .i64 0, .int .i64 0, .int .i64 0, .int .u64 0, .bool false] 33 := HRb.out.kept (hne7 _ (by have := Hbw.out; omega))
              have H7 : Hid (Bk bb W7 (bsL x.o x.d D J x.a true).toArray 33 ∧ Bk g W7 #[v, .bool true, .int .u64 la] 39 ∧ Bk w.heap.size W7 #[.int .i64 0, .int .i64 0, .int .i64 0, .int .i64 0, .int .u64 0, .bool false] 33 ∧ w.grownBy W7 none) := ⟨h7, g7, r7, b7⟩
              have i5 : W7.cell? ⟨bb, 5, none⟩ = some (.bool true) := h7.cell 5
              have i4 : W7.cell? ⟨bb, 4, none⟩ = some (.int .u64 x.a) := h7.cell 4
              have j1 : W7.cell? ⟨g, 1, none⟩ = some (.bool true) := g7.cell 1
              have j2 : W7.cell? ⟨g, 2, none⟩ = some (.int .u64 la) := g7.cell 2
              have jf := g7.frozen
              clear h7 g7 r7 b7 hk4 hne7 hz7 c1 c2 b4
              go_wp2_with fail
              rw [hR.out]
              clear hR
              have hng : ¬ (bb = g) := by have := HG.out; have := Hbw.out; omega
              have hng2 : ¬ (g = bb) := by omega
              have hwg : g ≠ w.heap.size := Nat.ne_of_lt HG.out
              have k8 : Bk bb ((W7.setCell ⟨g, 1, none⟩ (.bool true)).setCell ⟨g, 2, none⟩ (.int .u64 x.a)) (bsL x.o x.d D J x.a true).toArray 33 := (H7.out.1.kept (Below.heap_setCell W7 ⟨g, 1, none⟩ _ bb hng)).kept (Below.heap_setCell _ ⟨g, 2, none⟩ _ bb hng)
              have r8 : Bk w.heap.size ((W7.setCell ⟨g, 1, none⟩ (.bool true)).setCell ⟨g, 2, none⟩ (.int .u64 x.a)) #[.int .i64 0, .int .i64 0, .int .i64 0, .int .i64 0, .int .u64 0, .bool false] 33 := (H7.out.2.2.1.kept (Below.heap_setCell W7 ⟨g, 1, none⟩ _ _ hwg.symm)).kept (Below.heap_setCell _ ⟨g, 2, none⟩ _ _ hwg.symm)
              have g8 : Bk g ((W7.setCell ⟨g, 1, none⟩ (.bool true)).setCell ⟨g, 2, none⟩ (.int .u64 x.a)) #[v, .bool true, .int .u64 x.a] 39 := (H7.out.2.1.set (j := 1) (.bool true)).set (j := 2) (.int .u64 x.a)
              have b8 : w.grownBy ((W7.setCell ⟨g, 1, none⟩ (.bool true)).setCell ⟨g, 2, none⟩ (.int .u64 x.a)) (some g) := by
                have h0 : w.grownBy W7 (some g) := ⟨H7.out.2.2.2.os, H7.out.2.2.2.tape, H7.out.2.2.2.output, H7.out.2.2.2.size, fun q hq _ => H7.out.2.2.2.block q hq (by simp)⟩
                exact grownBy_trans h0 (grownBy_trans (grownBy_set W7 ⟨g, 1, none⟩ _) (grownBy_set _ ⟨g, 2, none⟩ _))
              have HC8 : Hid (∀ j u, (bsL x.o x.d D J x.a true)[j]? = some u → ((W7.setCell ⟨g, 1, none⟩ (.bool true)).setCell ⟨g, 2, none⟩ (.int .u64 x.a)).cell? ((⟨bb, 0, none⟩ : Addr).add j) = some u) := cells_of (l := bsL x.o x.d D J x.a true) k8
              have HR8 : Hid (((W7.setCell ⟨g, 1, none⟩ (.bool true)).setCell ⟨g, 2, none⟩ (.int .u64 x.a)).heap[w.heap.size]? = some (.cells #[.int .i64 0, .int .i64 0, .int .i64 0, .int .i64 0, .int .u64 0, .bool false] 33 (0, 0))) := r8
              have H8 : Hid (Bk g ((W7.setCell ⟨g, 1, none⟩ (.bool true)).setCell ⟨g, 2, none⟩ (.int .u64 x.a)) #[v, .bool true, .int .u64 x.a] 39 ∧ w.grownBy ((W7.setCell ⟨g, 1, none⟩ (.bool true)).setCell ⟨g, 2, none⟩ (.int .u64 x.a)) (some g)) := ⟨g8, b8⟩
              clear k8 r8 g8 b8 H7
              go_wp2_with (first | (refine step_ldat 33 _ rfl rfl ⟨bb, 0, none⟩ (by rfl) (bsL x.o x.d D J x.a true) _ Try.underlying33 rfl (by kernel_rfl) HC8.out ?_) | (refine step_stR (by rfl) _ _ rfl w.heap.size (bsL x.o x.d D J x.a true).toArray (by rfl) (by rfl) #[.int .i64 0, .int .i64 0, .int .i64 0, .int .i64 0, .int .u64 0, .bool false] (by kernel_rfl) (by rfl) (by kernel_rfl) HR8.out ?_))
              rw [hQ.out]
              have hR9 := setRow_heap _ _ _ (bsL x.o x.d D J x.a true).toArray _ _ HR8.out
              have g9 : Bk g (((W7.setCell ⟨g, 1, none⟩ (.bool true)).setCell ⟨g, 2, none⟩ (.int .u64 x.a)).setRow w.heap.size (bsL x.o x.d D J x.a true).toArray) #[v, .bool true, .int .u64 x.a] 39 := H8.out.1.kept (setRow_other _ _ _ _ (Nat.ne_of_lt HG.out))
              have b9 : w.grownBy (((W7.setCell ⟨g, 1, none⟩ (.bool true)).setCell ⟨g, 2, none⟩ (.int .u64 x.a)).setRow w.heap.size (bsL x.o x.d D J x.a true).toArray) (some g) := ⟨H8.out.2.os, H8.out.2.tape, H8.out.2.output, by have := H8.out.2.size; simpa [World.setRow] using this, fun q hq hn => (setRow_other _ _ _ _ (by omega)).trans (H8.out.2.block q hq hn)⟩
              exact bodyPost_ret (v := .agg (bsL x.o x.d D J x.a true).toArray) (results_cell_row Try.results12 _ _ w.heap.size _ _ (0, 0) _ (by rfl) hR9 Try.underlying33 rfl (by kernel_rfl)) rfl ⟨rfl, ⟨H.out.1, Nat.le_trans H.out.2.1 b9.size, H.out.2.2.1, v, g9, H.out.2.2.2.2.grown b9 H.out.1⟩, b9⟩
end Go.Proofs.Ytgkjgkdlcmmpoaa
