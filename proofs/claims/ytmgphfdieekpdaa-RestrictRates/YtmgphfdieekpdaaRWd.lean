/- Rates: RestrictRates. -/
import Derived.Test.YtmgphfdieekpdaaRWc
import Derived.Test.YtmgphfdieekpdaaGM
import Derived.Test.YtmgphfdieekpdaaGQ
namespace Go.Proofs.Ytmgphfdieekpdaa
open Go Go.RowKit Go.Maps
set_option linter.unusedVariables false
theorem ix_pk {ao : Option Addr} {ad : Addr} (n cap k : Nat) (h : ao = some ad) (hk : (k : Int) < n) (w : World) : Sem.run Try.prog (Instr.indexAt 38 (.slice ao n cap) (.int .i64 (k : Int))) w = .ok (.pointer (some (ad.add (k * 3)))) w := by
  subst h
  have u := Try.underlying38
  have c3 : Try.prog.cellsOf 46 = 3 := by kernel_rfl
  have h0 : (0 : Int) ≤ k := Int.natCast_nonneg k
  go_simp
theorem inv_k6 (key : Value) (kl : Lit) (h : keyOf Try.prog 24 key = some kl) : ∃ x : Int, key = .int .u32 x := by
  obtain ⟨x, h1, _⟩ := Maps.keyOf_int_inv Try.underlying24 h
  exact ⟨x, h1⟩
theorem inv_v6 (wS : World) (B : Nat) (v : Value) (y : DataW Unit × List MemPlace) (h : rowElem wS B 3 .i64 v = some y) : ∃ c : Option Addr × Nat × Nat, v = .slice c.1 c.2.1 c.2.2 := by
  obtain ⟨zs, ho, _⟩ := rowElem_inv h
  rcases ho.1.2 with ⟨h1, _⟩ | ⟨g, cap, cur, h1, _⟩
  · exact ⟨(none, 0, 0), h1⟩
  · exact ⟨(some ⟨g, 0, none⟩, _, cap), h1⟩
def adG (o : Option Addr) (i : Nat) : Addr := match o with
  | some a => a.add i
  | none => ⟨0, 0, none⟩
theorem ix_int6 {ao : Option Addr} {ad : Addr} (n cap k : Nat) (h : ao = some ad) (hk : (k : Int) < n) (w : World) : Sem.run Try.prog (Instr.indexAt 23 (.slice ao n cap) (.int .i64 (k : Int))) w = .ok (.pointer (some (ad.add k))) w := by
  have u' := Try.underlying23
  have c3 : Try.prog.cellsOf 3 = 1 := by kernel_rfl
  have h0 : (0 : Int) ≤ k := Int.natCast_nonneg k
  subst h
  go_simp
theorem ints_at6 {wS u : World} {B n c r : Nat} {o : Option Addr} {zs : List Int} (ho : wS.ownsInts B 3 .i64 (.slice o n c) zs) (hn : zs.length = n) (hu : Below r wS u) (hr : wS.heap.size = r) (i : Nat) (y : Int) (hy : zs[i]? = some y) : (∀ v, Sem.run Try.prog (Instr.indexAt 23 (.slice o n c) (.int .i64 (i : Int))) v = .ok (.pointer (some (adG o i))) v) ∧ u.cell? (adG o i) = some (.int .i64 y) := by
  have hil : i < zs.length := by
    rcases Nat.lt_or_ge i zs.length with h | h
    · exact h
    · rw [List.getElem?_eq_none h] at hy; cases hy
  rcases ho.1.2 with ⟨h1, h2⟩ | ⟨g, cap, cur, h1, h2, h3, h4, h5, h6, h7⟩
  · injection h1 with _ h1 _; omega
  · injection h1 with h1 e2 e3
    subst h1
    refine ⟨fun v => ix_int6 n c i rfl (by omega) v, ?_⟩
    have e : adG (some ⟨g, 0, none⟩) i = ⟨g, i, none⟩ := by unfold adG; simp only; unfold Addr.add; split <;> simp_all
    rw [e]
    have hlt : g < wS.heap.size := get_lt h3
    rw [hu.cell (p := ⟨g, i, none⟩) (by rw [← hr]; exact hlt), cell_of_row wS g i _ _ _ h3]
    have h8 : (cur.toList.take (zs.length * 1))[i]? = some (.int .i64 y) := by rw [h7, List.getElem?_map, hy]; rfl
    rw [List.getElem?_take_of_lt (by omega)] at h8
    rw [← h8, Array.getElem?_toList]
theorem u32min : IntKind.u32.min = 0 := by decide
theorem u32max : IntKind.u32.max = 4294967295 := by decide
set_option maxRecDepth 20000 in
set_option maxHeartbeats 4000000 in
theorem RestrictRates_walk (av mn : Int) (v : Value) (ps : List Ru) (w : World) (ha : Rk w.heap.size w 3 v (ps.map ruL)) (hp : ∀ a ∈ ps, (0 ≤ a.addr ∧ a.addr < 4294967296) ∧ (-9223372036854775808 ≤ a.bits ∧ a.bits ≤ 9223372036854775807)) (hl : ps.length * 24 ≤ 140737488351232) :
    Calls Try.prog 7 #[.int .i64 av, .int .i64 mn, v] w fun e w' => e = .returned (.bool true) ∧ Below w.heap.size w w' := by
  obtain ⟨ao, cap, hv, hc, hcell⟩ := ha.ru
  subst hv
  obtain ⟨L, hL⟩ : ∃ L, L = ps.length := ⟨_, rfl⟩
  have l1 : (L : Int) ≤ 140737488351232 := by omega
  have HP : Hid (L = ps.length ∧ (∀ i (hi : i < ps.length), ∃ ad, ao = some ad ∧ ad.block < w.heap.size ∧ ∀ j u, (ruL ps[i])[j]? = some u → w.cell? ((ad.add (i * 3)).add j) = some u) ∧ ∀ a ∈ ps, (0 ≤ a.addr ∧ a.addr < 4294967296) ∧ (-9223372036854775808 ≤ a.bits ∧ a.bits ≤ 9223372036854775807)) := ⟨hL, hcell, hp⟩
  rw [← hL]
  clear hL hcell hp hc hl ha
  have hmm := @run_makeMap Try.prog
  obtain ⟨i0, hi, hz0, hz1, hz2⟩ := info_parts info_int
  have HI0 : Hid (Try.prog.info? 3 = some i0 ∧ i0.zero = some (.int .i64 0) ∧ i0.size = 1 ∧ i0.bytes = 8) := ⟨hi, hz0, hz1, hz2⟩
  clear hi hz0 hz1 hz2
  go_enter Try.func7, Try.ntmps7
  refine post_hid fun Q hQ => ?_
  refine seq_hid fun R hR => ?_
  go_wp2_with fail
  rw [hR.out]
  clear hR
  refine seq_hid fun R hR => ?_
  go_wp2_with fail
  refine (shown_any _).mono ?_
  rintro e w1 ⟨rfl, hb1⟩
  have HB1 : Hid (Below w.heap.size w w1) := hb1
  clear hb1
  go_wp2_with fail
  rw [hR.out]
  clear hR
  by_cases hbig : 400 < (L : Int)
  · go_wp2_with fail
    rw [hQ.out]
    go_ret
    exact ⟨rfl, HB1.out⟩
  have hL400 : (L : Int) ≤ 400 := by omega
  clear hbig
  refine seq_hid fun R hR => ?_
  go_wp2_with fail
  rw [hR.out]
  clear hR
  by_cases hn : ¬ (0 ≤ av ∧ av ≤ 10 ∧ 0 ≤ mn ∧ mn ≤ 1024)
  · go_wp2_with (go_at_call 17; refine (new_bad av mn w1 hn).mono ?_; rintro e w2 ⟨rfl, hw2⟩; rw [hw2]; clear hw2)
    rw [hQ.out]
    go_ret
    exact ⟨rfl, HB1.out⟩
  obtain ⟨a0, a1, m0, m1⟩ := Decidable.not_not.1 hn
  clear hn
  obtain ⟨C, hC⟩ : ∃ C, coS av = C := ⟨_, rfl⟩
  have HCo : Hid (1 ≤ C ∧ C ≤ 1024) := by have := coS_bd av a0 a1; rw [hC] at this; exact this
  have HCv : Hid (coS av = C) := hC
  refine seq_hid fun R hR => ?_
  go_wp2_with fail
  refine (new_ok av mn w1 a0 a1 m0 m1).mono ?_
  rintro e w2 ⟨rfl, hw2⟩
  obtain ⟨g, hg⟩ : ∃ g, w1.heap.size = g := ⟨_, rfl⟩
  have H2 : Hid (Mm w2 g g (.slice none 0 0) C mn (-9223372036854775808) 0 [] ∧ w.heap.size ≤ g ∧ Below w.heap.size w w2) := by
    have h := Mm.fresh w1 C mn
    rw [hC] at hw2
    refine ⟨?_, hg ▸ HB1.out.size, ?_⟩
    · rw [hw2, ← hg]; exact h
    · rw [hw2]; exact HB1.out.alloc HB1.out.size _
  rw [hg]
  clear hw2 hg HB1 hC
  go_wp2_with fail
  rw [hR.out]
  clear hR
  refine seq_hid fun R hR => ?_
  go_wp2_with fail
  rw [hR.out]
  clear hR
  refine seq_hid fun R hR => ?_
  go_wp2_with fail
  rw [hR.out]
  clear hR
  refine seq_hid fun R hR => ?_
  go_wp2_with fail
  obtain ⟨b, hb⟩ : ∃ b, w2.heap.size = b := ⟨_, rfl⟩
  obtain ⟨w3, hw3⟩ : ∃ w3, w3 = w2.alloc (.map #[] 0) := ⟨_, rfl⟩
  have H3 : Hid (Rl w w3 g b C mn 0 0) := by
    have hbb : Below w2.heap.size w2 w3 := by rw [hw3]; exact (Below.refl _ _).alloc (Nat.le_refl _) _
    refine ⟨⟨.slice none 0 0, -9223372036854775808, [], fun _ => [], H2.out.1.below hbb, ?_, Rv.start _ _ _, by omega, by omega⟩, H2.out.2.2.trans (hbb.mono H2.out.2.2.size), H2.out.2.1, by rw [← hb]; exact H2.out.2.2.size⟩
    rw [hw3, ← hb]
    exact Gv.made w2
  rw [← hw3, hb]
  clear hw3 hb H2
  rw [hR.out]
  clear hR
  refine seq_hid fun R hR => ?_
  go_wp2_with fail
  go_loopw [9, 44] (fun nv iv wr => ∃ (k : Nat) (N : Int), nv = .int .i64 N ∧ iv = .int .i64 (k : Int) ∧ (k : Int) ≤ L ∧ 0 ≤ N ∧ N ≤ 1048576 * (k : Int) ∧ Hid (Rl w wr g b C mn N k)) (fun _ iv _ => (L - intOf iv).toNat)
  case atStart => exact ⟨0, 0, rfl, rfl, by omega, by omega, by omega, H3⟩
  case round =>
    obtain ⟨k, N, rfl, rfl, hk, hN0, hN1, HI⟩ := hrel
    clear H3
    by_cases hlt : (k : Int) < L
    · have hkx : k < ps.length := by have := HP.out.1; omega
      obtain ⟨ad, g1, g2, g3⟩ := HP.out.2.1 k hkx
      have hix : ∀ w, Sem.run Try.prog (Instr.indexAt 38 (.slice ao L cap) (.int .i64 (k : Int))) w = .ok (.pointer (some (ad.add (k * 3)))) w := ix_pk L cap k g1 hlt
      have HC : Hid (∀ j u, (ruL ps[k])[j]? = some u → wr.cell? ((ad.add (k * 3)).add j) = some u) := fun j u hu => by
        rw [HI.out.be.cell (p := (ad.add (k * 3)).add j) (by rw [add_block, add_block]; exact g2)]
        exact g3 j u hu
      have hpk := HP.out.2.2 _ (List.getElem_mem hkx)
      obtain ⟨A, hA0⟩ : ∃ A, A = ad.add (k * 3) := ⟨_, rfl⟩
      obtain ⟨E, hE⟩ : ∃ E, E = ps[k] := ⟨_, rfl⟩
      rw [← hA0] at hix HC
      rw [← hE] at HC hpk
      clear hA0 hE g1 g2 g3
      obtain ⟨x0, x1, x2⟩ := E
      unfold ruL at HC
      simp only at HC hpk
      obtain ⟨pb, hpb⟩ : ∃ pb, wr.heap.size = pb := ⟨_, rfl⟩
      go_upto_region 13 with (refine step_ldat 46 _ (by rfl) (by rfl) A (by rfl) [.int .u32 x0, .int .i64 x1, .int .i64 x2] _ Try.underlying46 (by rfl) (by kernel_rfl) HC.out ?_)
      obtain ⟨W3, hW3⟩ : ∃ W3, W3 = wr.alloc (.cells #[.int .u32 x0, .int .i64 x1, .int .i64 x2] 46) := ⟨_, rfl⟩
      rw [← hW3]
      have H3 : Hid (Rl w W3 g b C mn N k ∧ Bk pb W3 #[.int .u32 x0, .int .i64 x1, .int .i64 x2] 46) := by
        have hbb : Below wr.heap.size wr W3 := by rw [hW3]; exact (Below.refl _ _).alloc (Nat.le_refl _) _
        exact ⟨HI.out.below hbb, by rw [hW3, ← hpb]; exact Bk.new wr _ _⟩
      have o0 : W3.cell? ⟨pb, 0, none⟩ = some (.int .u32 x0) := H3.out.2.cell 0
      have o1 : W3.cell? ⟨pb, 1, none⟩ = some (.int .i64 x1) := H3.out.2.cell 1
      have o2 : W3.cell? ⟨pb, 2, none⟩ = some (.int .i64 x2) := H3.out.2.cell 2
      clear hW3 hpb HI HC hix
      obtain ⟨A32, hA⟩ : ∃ z, x0.tmod 32 = z := ⟨_, rfl⟩
      have HA : Hid (0 ≤ A32 ∧ A32 < 32) := by
        have := hpk.1.1
        rw [← hA, pk_rem x0 this]
        show _ ∧ _
        omega
      obtain ⟨FL, hFL⟩ : ∃ z, bits .or .i64 x2 32 = z := ⟨_, rfl⟩
      have HFL : Hid (bits .or .i64 x2 32 = FL) := hFL
      by_cases hx : 0 < x1
      · obtain ⟨D1, hD1⟩ : ∃ z, (if (1048576 : Int) < x1 then 1048576 else x1) = z := ⟨_, rfl⟩
        have hmn := run_mn6 x1 1048576 D1 hD1
        have hDb : 0 ≤ D1 ∧ D1 ≤ 1048576 := by rw [← hD1]; split <;> omega
        obtain ⟨hDb0, hDb1⟩ := hDb
        obtain ⟨M, hM⟩ : ∃ M, N + D1 = M := ⟨_, rfl⟩
        have HM : Hid (N ≤ M ∧ 0 ≤ M ∧ M ≤ 419430400 ∧ M ≤ 1048576 * ((k : Int) + 1)) := by show _ ∧ _; omega
        clear hD1
        go_upto_region 16 with fail
        have CH : Hid (Calls Try.prog 19 #[.pointer (some ⟨g, 0, none⟩), .int .u32 A32, .int .i64 M, .int .i64 FL] W3 fun e w' => ∃ v f, e = .returned (.int .i64 v) ∧ Hid ((v = 0 ∧ Rh w w' g b C mn M k f (upd f A32 M)) ∨ (v = 1 ∧ Rh w w' g b C mn M k f f) ∨ (v = 2 ∧ bits .and .i64 x2 64 ≠ 0 ∧ Rh w w' g b C mn M k f f)) ∧ Hid (∀ p cs, Bk p W3 cs 46 → Bk p w' cs 46)) := by
          rw [← HFL.out]
          exact (H3.out.1.up HM.out.1).heard HCo.out.1 HCo.out.2 m0 m1 HM.out.2.1 HM.out.2.2.1 (by omega) HA.out.1 HA.out.2
        go_upto_region 18 with (go_at_call 19; refine CH.out.mono ?_; rintro e w4 ⟨v, f, rfl, HV, HB4⟩)
        have p2 : w4.cell? ⟨pb, 2, none⟩ = some (.int .i64 x2) := (HB4.out pb _ H3.out.2).cell 2
        clear CH o0 o1 o2 H3 HB4 hFL hA
        have hk1 : (k : Int) + 1 ≤ 400 := by omega
        have hv := HV.out
        rcases hv with ⟨rfl, hv⟩ | ⟨rfl, hv⟩ | ⟨rfl, h64, hv⟩
        · have HR : Hid (Rh w w4 g b C mn M k f (upd f A32 M)) := hv
          clear HV hv p2
          obtain ⟨D, hown, hD⟩ := HR.out.gv.ex
          have HO : Hid (w4.ownsGroups Try.prog 24 (b + 1) 3 .i64 b k D ∧ IsMap D) := ⟨hown, by obtain ⟨es, clock, _, _, _, e, _⟩ := hown; exact ⟨_, e⟩⟩
          have HD : Hid (∀ a, 0 ≤ a → a < 4294967296 → Dat (D.atKey (.int .u32 a) .nil) (f a)) := hD
          have HKy : Hid (keyOf Try.prog 24 (.int .u32 A32) = some (.int .u32 A32)) := keyOf_int_mk Try.underlying24 (by have := HA.out; simp [Lit.wf, u32min, u32max]; omega)
          have HWf : Hid ((Lit.int .i64 M).wf = true) := WalkArith.wf_i64 (by have := HM.out; omega)
          have HKm : Hid (k < maxLen ∧ k ≤ 400) := ⟨by unfold maxLen; omega, by omega⟩
          have HBs : Hid (b + 1 ≤ w4.heap.size) := by obtain ⟨es, clock, h, _⟩ := hown; exact get_lt h
          clear hown hD
          go_wp2_with (first
            | (at_lookup; refine wpList_lookup_groups _ rfl _ _ 50 rfl 24 23 3 .i64 keyU Try.underlying50 (zero_ints _) (b + 1) b k D rfl HO.out.1 HKm.out.1 _ _ rfl HKy.out ?_; intro v zs hat hoi hzl hback; have HZ : Hid (zs = f A32 ∧ w4.ownsInts (b + 1) 3 .i64 v zs ∧ zs.length ≤ k) := ⟨Dat.inj (by rw [hat]; exact dat_row hoi) (HD.out A32 HA.out.1 (by have := HA.out; omega)), hoi, hzl⟩; have HBk : Hid (w4.groupBack Try.prog 50 24 (b + 1) 3 .i64 b k D (.int .u32 A32) (.int .u32 A32) v) := hback; clear hat hoi hzl hback)
            | (at_builtin; refine wpList_append_own_at _ rfl _ _ 23 rfl (b + 1) 3 i0 (.int .i64 0) 1 8 Try.underlying23 HI0.out.1 HI0.out.2.1 HI0.out.2.2.1 HI0.out.2.2.2 rfl (by decide) _ _ _ rfl (HZ.out.2.1.1.alloc _) ⟨w4.heap.size, 0, none⟩ 1 1 [.int .i64 M] rfl rfl (cell_one_new _ _ _) (ints_oneCell .i64 [M]) (by have := HZ.out.2.2; have := HKm.out; simp only [maxLen] at *; omega) (by have := HZ.out.2.2; have := HKm.out; omega) (by have := HBs.out; simp; omega) ?_; intro v' w5 hown' hgrow hnil hloc; have H5 : Hid (w5.ownsInts (b + 1) 3 .i64 v' (zs ++ [M]) ∧ w4.grownBy w5 v.ownBlock ∧ (v'.ownBlock = v.ownBlock ∨ ∃ g, v'.ownBlock = some g ∧ w4.heap.size ≤ g)) := ⟨HZ.out.2.1.appended hown' HWf.out, (World.grownBy_alloc _ _ _).trans hgrow, hloc.imp id (fun h => ⟨_, h, by simp⟩)⟩; clear hown' hgrow hnil hloc)
            | (at_mapUpdate; refine wpList_mapUpdate_back _ rfl _ _ _ 50 rfl HBk.out rfl rfl rfl H5.out.2.1 H5.out.1 (by have := HZ.out.2.2; simp; omega) H5.out.2.2 ?_; intro w6 hown2 hgrow2; have H6 : Hid (Rl w w6 g b C mn M (k + 1)) := HR.out.put HM.out.2.1 HD.out HO.out.2 (by rw [← HZ.out.1]; exact HZ.out.2.1) (by rw [← HZ.out.1]; exact H5.out.1) (by rw [← HZ.out.1]; exact hown2) H5.out.2.1 hgrow2; clear hown2 hgrow2))
          go_roundw
          case rel => exact ⟨k + 1, M, rfl, by go_num, by omega, HM.out.2.1, by have := HM.out.2.2.2; omega, H6⟩
          case measure => simp [intOf]; omega
        · have HR : Hid (Rh w w4 g b C mn M k f f) := hv
          clear HV hv p2
          go_wp2_with fail
          go_roundw
          case rel => exact ⟨k + 1, M, rfl, by go_num, by omega, HM.out.2.1, by have := HM.out.2.2.2; omega, HR.out.done HM.out.2.1⟩
          case measure => simp [intOf]; omega
        · have HR : Hid (Rh w w4 g b C mn M k f f) := hv
          obtain ⟨K64, h65⟩ : ∃ z, bits .and .i64 x2 64 = z := ⟨_, rfl⟩
          rw [h65] at h64
          have h66 : (K64 == 0) = false := by simpa using h64
          clear HV hv
          go_wp2_with fail
          go_roundw
          case rel => exact ⟨k + 1, M, rfl, by go_num, by omega, HM.out.2.1, by have := HM.out.2.2.2; omega, HR.out.done HM.out.2.1⟩
          case measure => simp [intOf]; omega
      · obtain ⟨M, hM⟩ : ∃ M, N = M := ⟨_, rfl⟩
        subst hM
        have HM : Hid (N ≤ N ∧ 0 ≤ N ∧ N ≤ 419430400 ∧ N ≤ 1048576 * ((k : Int) + 1)) := by show _ ∧ _; omega
        go_upto_region 16 with fail
        have CH : Hid (Calls Try.prog 19 #[.pointer (some ⟨g, 0, none⟩), .int .u32 A32, .int .i64 N, .int .i64 FL] W3 fun e w' => ∃ v f, e = .returned (.int .i64 v) ∧ Hid ((v = 0 ∧ Rh w w' g b C mn N k f (upd f A32 N)) ∨ (v = 1 ∧ Rh w w' g b C mn N k f f) ∨ (v = 2 ∧ bits .and .i64 x2 64 ≠ 0 ∧ Rh w w' g b C mn N k f f)) ∧ Hid (∀ p cs, Bk p W3 cs 46 → Bk p w' cs 46)) := by
          rw [← HFL.out]
          exact (H3.out.1.up HM.out.1).heard HCo.out.1 HCo.out.2 m0 m1 HM.out.2.1 HM.out.2.2.1 (by omega) HA.out.1 HA.out.2
        go_upto_region 18 with (go_at_call 19; refine CH.out.mono ?_; rintro e w4 ⟨v, f, rfl, HV, HB4⟩)
        have p2 : w4.cell? ⟨pb, 2, none⟩ = some (.int .i64 x2) := (HB4.out pb _ H3.out.2).cell 2
        clear CH o0 o1 o2 H3 HB4 hFL hA
        have hk1 : (k : Int) + 1 ≤ 400 := by omega
        have hv := HV.out
        rcases hv with ⟨rfl, hv⟩ | ⟨rfl, hv⟩ | ⟨rfl, h64, hv⟩
        · have HR : Hid (Rh w w4 g b C mn N k f (upd f A32 N)) := hv
          clear HV hv p2
          obtain ⟨D, hown, hD⟩ := HR.out.gv.ex
          have HO : Hid (w4.ownsGroups Try.prog 24 (b + 1) 3 .i64 b k D ∧ IsMap D) := ⟨hown, by obtain ⟨es, clock, _, _, _, e, _⟩ := hown; exact ⟨_, e⟩⟩
          have HD : Hid (∀ a, 0 ≤ a → a < 4294967296 → Dat (D.atKey (.int .u32 a) .nil) (f a)) := hD
          have HKy : Hid (keyOf Try.prog 24 (.int .u32 A32) = some (.int .u32 A32)) := keyOf_int_mk Try.underlying24 (by have := HA.out; simp [Lit.wf, u32min, u32max]; omega)
          have HWf : Hid ((Lit.int .i64 N).wf = true) := WalkArith.wf_i64 (by have := HM.out; omega)
          have HKm : Hid (k < maxLen ∧ k ≤ 400) := ⟨by unfold maxLen; omega, by omega⟩
          have HBs : Hid (b + 1 ≤ w4.heap.size) := by obtain ⟨es, clock, h, _⟩ := hown; exact get_lt h
          clear hown hD
          go_wp2_with (first
            | (at_lookup; refine wpList_lookup_groups _ rfl _ _ 50 rfl 24 23 3 .i64 keyU Try.underlying50 (zero_ints _) (b + 1) b k D rfl HO.out.1 HKm.out.1 _ _ rfl HKy.out ?_; intro v zs hat hoi hzl hback; have HZ : Hid (zs = f A32 ∧ w4.ownsInts (b + 1) 3 .i64 v zs ∧ zs.length ≤ k) := ⟨Dat.inj (by rw [hat]; exact dat_row hoi) (HD.out A32 HA.out.1 (by have := HA.out; omega)), hoi, hzl⟩; have HBk : Hid (w4.groupBack Try.prog 50 24 (b + 1) 3 .i64 b k D (.int .u32 A32) (.int .u32 A32) v) := hback; clear hat hoi hzl hback)
            | (at_builtin; refine wpList_append_own_at _ rfl _ _ 23 rfl (b + 1) 3 i0 (.int .i64 0) 1 8 Try.underlying23 HI0.out.1 HI0.out.2.1 HI0.out.2.2.1 HI0.out.2.2.2 rfl (by decide) _ _ _ rfl (HZ.out.2.1.1.alloc _) ⟨w4.heap.size, 0, none⟩ 1 1 [.int .i64 N] rfl rfl (cell_one_new _ _ _) (ints_oneCell .i64 [N]) (by have := HZ.out.2.2; have := HKm.out; simp only [maxLen] at *; omega) (by have := HZ.out.2.2; have := HKm.out; omega) (by have := HBs.out; simp; omega) ?_; intro v' w5 hown' hgrow hnil hloc; have H5 : Hid (w5.ownsInts (b + 1) 3 .i64 v' (zs ++ [N]) ∧ w4.grownBy w5 v.ownBlock ∧ (v'.ownBlock = v.ownBlock ∨ ∃ g, v'.ownBlock = some g ∧ w4.heap.size ≤ g)) := ⟨HZ.out.2.1.appended hown' HWf.out, (World.grownBy_alloc _ _ _).trans hgrow, hloc.imp id (fun h => ⟨_, h, by simp⟩)⟩; clear hown' hgrow hnil hloc)
            | (at_mapUpdate; refine wpList_mapUpdate_back _ rfl _ _ _ 50 rfl HBk.out rfl rfl rfl H5.out.2.1 H5.out.1 (by have := HZ.out.2.2; simp; omega) H5.out.2.2 ?_; intro w6 hown2 hgrow2; have H6 : Hid (Rl w w6 g b C mn N (k + 1)) := HR.out.put HM.out.2.1 HD.out HO.out.2 (by rw [← HZ.out.1]; exact HZ.out.2.1) (by rw [← HZ.out.1]; exact H5.out.1) (by rw [← HZ.out.1]; exact hown2) H5.out.2.1 hgrow2; clear hown2 hgrow2))
          go_roundw
          case rel => exact ⟨k + 1, N, rfl, by go_num, by omega, HM.out.2.1, by have := HM.out.2.2.2; omega, H6⟩
          case measure => simp [intOf]; omega
        · have HR : Hid (Rh w w4 g b C mn N k f f) := hv
          clear HV hv p2
          go_wp2_with fail
          go_roundw
          case rel => exact ⟨k + 1, N, rfl, by go_num, by omega, HM.out.2.1, by have := HM.out.2.2.2; omega, HR.out.done HM.out.2.1⟩
          case measure => simp [intOf]; omega
        · have HR : Hid (Rh w w4 g b C mn N k f f) := hv
          obtain ⟨K64, h65⟩ : ∃ z, bits .and .i64 x2 64 = z := ⟨_, rfl⟩
          rw [h65] at h64
          have h66 : (K64 == 0) = false := by simpa using h64
          clear HV hv
          go_wp2_with fail
          go_roundw
          case rel => exact ⟨k + 1, N, rfl, by go_num, by omega, HM.out.2.1, by have := HM.out.2.2.2; omega, HR.out.done HM.out.2.1⟩
          case measure => simp [intOf]; omega
    · obtain ⟨wS, hwS⟩ : ∃ wS, wS = wr := ⟨_, rfl⟩
      subst hwS
      obtain ⟨sv, m0', xs, f, q1, q2, q3, q4, q5⟩ := HI.out.ex
      obtain ⟨D, hown, hD⟩ := q2.ex
      have HO : Hid (wS.ownsMap Try.prog 24 (rowElem (H := Unit) wS (b + 1) 3 .i64) b k D) := by obtain ⟨es, clock, h1, h2, h3, h4, _⟩ := hown; exact ⟨es, clock, h1, h2, h3, h4⟩
      have HD : Hid (∀ a, 0 ≤ a → a < 4294967296 → ∀ l, Dat (D.atKey (.int .u32 a) .nil) l → Gd C mn l) := fun a h1 h2 l hl => by
        rw [hl.inj (hD a h1 h2)]
        exact q3.gd a
      have HBw : Hid (Below w.heap.size w wS) := HI.out.be
      clear hown hD q1 q2 q3 q4 q5 HI HP
      go_wp2_with fail
      rw [hR.out]
      clear hR
      refine seq_hid fun R hR => ?_
      go_wp2_with (at_range; refine wpList_range_own _ rfl _ 50 rfl 24 23 keyU Try.underlying50 _ b k D rfl HO.out ?_; intro w0 hrg0 hg0 hs0; have H0 : Hid (w0.ranges Try.prog 24 (rowElem (H := Unit) wS (b + 1) 3 .i64) b wS.heap.size k D (Maps.has D) (Maps.size D) ∧ Below wS.heap.size wS w0) := ⟨hrg0, ⟨hg0.os, hg0.tape, hg0.output, hg0.size, fun p hp => hg0.block p hp (by simp)⟩⟩; clear hrg0 hg0 hs0; go_frame)
      obtain ⟨r, hr⟩ : ∃ r, wS.heap.size = r := ⟨_, rfl⟩
      have HRr : Hid (wS.heap.size = r) := hr
      rw [hr] at H0 ⊢
      clear hr
      go_loopw [15] (fun _ wr => ∃ left cnt, Hid (wr.ranges Try.prog 24 (rowElem (H := Unit) wS (b + 1) 3 .i64) b r k D left cnt ∧ Below r wS wr)) (fun _ wr => wr.rangeLeft b r)
      case atStart => exact ⟨_, _, H0⟩
      case round =>
        obtain ⟨left, cnt, HG⟩ := hrel
        clear H0
        obtain ⟨wa, hwa⟩ : ∃ wa, wa = wr := ⟨_, rfl⟩
        subst hwa
        go_wp2_with (at_next; refine wpList_next_ranges (α := Int) (β := Option Addr × Nat × Nat) _ rfl _ rfl 24 keyU (rowElem (H := Unit) wS (b + 1) 3 .i64) (Value.int .u32) (fun c => .slice c.1 c.2.1 c.2.2) inv_k6 (inv_v6 wS (b + 1)) b r k D left cnt rfl HG.out.1 ?_ ?_)
        · intro _ _
          go_wp2_with fail
          rw [hR.out]
          clear hR
          go_wp2_with fail
          rw [hQ.out]
          go_ret
          exact ⟨rfl, HBw.out.trans (HG.out.2.mono (by rw [← HRr.out]; exact HBw.out.size))⟩
        · intro x o n3 c3 kl y1 y2 w1 cnt1 hkey hlk hrow hat hrg hltc hgr hsz hen
          obtain ⟨zs, ho, he⟩ := rowElem_inv hrow
          obtain ⟨x', ex, ekl, hwx⟩ := Maps.keyOf_int_inv Try.underlying24 hkey
          cases ex
          have HZ : Hid (wS.ownsInts (b + 1) 3 .i64 (.slice o n3 c3) zs ∧ Gd C mn zs ∧ zs.length = n3) := by
            refine ⟨ho, HD.out x ?_ ?_ zs ?_, ?_⟩
            · simp [Lit.wf, u32min, u32max] at hwx; omega
            · simp [Lit.wf, u32min, u32max] at hwx; omega
            · rw [← ekl, hat .nil]
              have e1 : y1 = rowDatum .i64 (.slice o n3 c3) zs := congrArg Prod.fst he
              rw [e1]
              exact dat_row ho
            · rcases ho.1.2 with ⟨h1, h2⟩ | ⟨g', cap', cur, h1, _⟩
              · injection h1 with _ h1 _; omega
              · injection h1 with _ h1 _; exact h1.symm
          have hn3 : (n3 : Int) ≤ 9223372036854775807 := by
            rcases ho.1.2 with ⟨h1, h2⟩ | ⟨g', cap', cur, h1, _, _, h4, h5, _⟩
            · injection h1 with _ h1 _; omega
            · injection h1 with _ h1 _; unfold maxLen at h5; omega
          have H1 : Hid (w1.ranges Try.prog 24 (rowElem (H := Unit) wS (b + 1) 3 .i64) b r k D (fun z => left z && !z.sameKey kl) cnt1 ∧ Below r wS w1 ∧ cnt1 < wa.rangeLeft b r) := ⟨hrg, HG.out.2.trans ⟨hgr.os, hgr.tape, hgr.output, hgr.size, fun p hp => hgr.block p (Nat.lt_of_lt_of_le (by rw [HRr.out]; exact hp) HG.out.2.size) (fun e => by injection e with e; omega)⟩, by rw [HG.out.1.left_eq]; exact hltc⟩
          have HCe : Hid (∀ u, Below r wS u → ∀ (i : Nat) y, zs[i]? = some y → (∀ v, Sem.run Try.prog (Instr.indexAt 23 (.slice o n3 c3) (.int .i64 (i : Int))) v = .ok (.pointer (some (adG o i))) v) ∧ u.cell? (adG o i) = some (.int .i64 y)) := fun u hu i y hy => ints_at6 HZ.out.1 HZ.out.2.2 hu HRr.out i y hy
          clear hkey hlk hrow hat hrg hltc hgr hsz ho he ekl hwx
          go_wp2_with fail
          go_loopw [93] (fun iv wr => ∃ (i : Nat), iv = .int .i64 (i : Int) ∧ (i : Int) ≤ n3 ∧ Hid (wr.ranges Try.prog 24 (rowElem (H := Unit) wS (b + 1) 3 .i64) b r k D (fun z => left z && !z.sameKey kl) cnt1 ∧ Below r wS wr)) (fun iv _ => (n3 - intOf iv).toNat)
          case atStart => exact ⟨0, rfl, by omega, ⟨H1.out.1, H1.out.2.1⟩⟩
          case round =>
            obtain ⟨i, rfl, hi, HJ⟩ := hrel
            obtain ⟨wb, hwb⟩ : ∃ wb, wb = wr := ⟨_, rfl⟩
            subst hwb
            clear hen
            by_cases hi3 : (i : Int) < n3
            · have hil : i < zs.length := by rw [HZ.out.2.2]; omega
              obtain ⟨y, hy⟩ : ∃ y, zs[i]? = some y := ⟨_, List.getElem?_eq_getElem hil⟩
              obtain ⟨ix1, cl1⟩ := HCe.out wb HJ.out.2 i y hy
              obtain ⟨ad, hadi⟩ : ∃ ad, adG o i = ad := ⟨_, rfl⟩
              rw [hadi] at ix1 cl1
              have hyb : 0 ≤ y ∧ y ≤ 419430400 := (HZ.out.2.1 i y hy).1
              obtain ⟨hy0, hy1⟩ := hyb
              have HY : Hid (zs[i]? = some y ∧ ∀ u, Below r wS u → u.cell? ad = some (.int .i64 y)) := ⟨hy, fun u hu => by rw [← hadi]; exact (HCe.out u hu i y hy).2⟩
              clear hy hil hadi
              go_upto_region 31 with fail
              rename_i KK hKK
              have HKK : Hid _ := hKK
              clear hKK
              by_cases hz : i = 0
              · have dp : decide (0 < (i : Int)) = false := decide_eq_false (by omega)
                have dp2 : decide (0 < i) = false := decide_eq_false (by omega)
                have hip2 : ¬ 0 < i := by omega
                have hip : ¬ (0 : Int) < (i : Int) := by omega
                clear hz
                refine wp_region_quietW (by kernel_rfl) (by kernel_rfl) ?_
                repeat (refine qw_step (fun K hK => ?_); go_simp; refine hK _ ?_; clear hK K)
                refine qw_nil ?_
                rintro w' ⟨nq, rfl⟩
                refine HKK.out _ _ ?_
                clear HKK
                go_wp2_with fail
                go_loopw [17] (fun kv wr => ∃ (q : Nat), kv = .int .i64 (q : Int) ∧ (q : Int) ≤ (i : Int) ∧ Hid (wr.ranges Try.prog 24 (rowElem (H := Unit) wS (b + 1) 3 .i64) b r k D (fun z => left z && !z.sameKey kl) cnt1 ∧ Below r wS wr)) (fun kv _ => ((i : Int) - intOf kv).toNat)
                case atStart => exact ⟨0, rfl, by omega, ⟨HJ.out.1, ⟨HJ.out.2.os, HJ.out.2.tape, HJ.out.2.output, HJ.out.2.size, HJ.out.2.block⟩⟩⟩
                case round =>
                  obtain ⟨q, rfl, hq, HQ⟩ := hrel
                  obtain ⟨wc, hwc⟩ : ∃ wc, wc = wr := ⟨_, rfl⟩
                  subst hwc
                  by_cases hqi : (q : Int) < (i : Int)
                  · have hql : q < zs.length := by have := HY.out.1; rcases Nat.lt_or_ge q zs.length with h | h; (exact h); (rw [List.getElem?_eq_none (by omega)] at this; cases this)
                    obtain ⟨x4, hx4⟩ : ∃ y, zs[q]? = some y := ⟨_, List.getElem?_eq_getElem hql⟩
                    obtain ⟨ix4, cl4⟩ := HCe.out wc HQ.out.2 q x4 hx4
                    obtain ⟨ed, hed⟩ : ∃ ed, adG o q = ed := ⟨_, rfl⟩
                    rw [hed] at ix4 cl4
                    have cl5 : wc.cell? ad = some (.int .i64 y) := HY.out.2 wc HQ.out.2
                    have hx4b : 0 ≤ x4 ∧ x4 ≤ y := ⟨(HZ.out.2.1 q x4 hx4).1.1, ((HZ.out.2.1 i y HY.out.1).2.1 q x4 (by omega) hx4).1⟩
                    obtain ⟨hx40, hx41⟩ := hx4b
                    have hrt := HZ.out.2.1.rate HCo.out.1 HY.out.1 hx4 (by omega)
                    obtain ⟨Z, hZ⟩ : ∃ Z, (y - x4) / C = Z := ⟨_, rfl⟩
                    rw [hZ] at hrt
                    have hZb : 0 ≤ Z ∧ Z ≤ 419430400 := by
                      have hc1 := HCo.out.1
                      rw [← hZ]
                      exact ⟨Int.ediv_nonneg (by omega) (by omega), Int.le_trans (Int.ediv_le_self C (by omega)) (by omega)⟩
                    obtain ⟨hZ0, hZ1⟩ := hZb
                    have w1' : IntKind.i64.wrap ((i : Int) - (q : Int)) = (i : Int) - q := by rw [IntKind.wrap_i64]; omega
                    have w2' : IntKind.i64.wrap ((i : Int) - (q : Int) + 1) = (i : Int) - q + 1 := by rw [IntKind.wrap_i64]; omega
                    have w3' : IntKind.i64.wrap (y - x4) = y - x4 := by rw [IntKind.wrap_i64]; omega
                    have w4' : IntKind.i64.wrap (Z + 8) = Z + 8 := by rw [IntKind.wrap_i64]; omega
                    have HZZ : Hid ((y - x4) / C = Z) := hZ
                    have hsh : (y - x4) / 2 ^ av.toNat = Z := by rw [← hZ, ← HCv.out]; rfl
                    have dq : decide (Z + 8 < (i : Int) - (q : Int) + 1) = false := decide_eq_false (by omega)
                    have hq1 : (q : Int) + 1 ≤ (i : Int) := by omega
                    clear hx4 hql hed hZ hrt
                    go_upto_region 36 with fail
                    rename_i KK2 hKK2
                    have HKK2 : Hid _ := hKK2
                    clear hKK2
                    refine wp_region_quietW (by kernel_rfl) (by kernel_rfl) ?_
                    repeat (refine qw_step (fun K hK => ?_); go_simp; refine hK _ ?_; clear hK K)
                    refine qw_nil ?_
                    rintro w' ⟨nq2, rfl⟩
                    refine HKK2.out _ _ ?_
                    clear HKK2
                    clear w1' w2' w3' w4' hsh ix4 cl4 cl5
                    go_wp2_with fail
                    go_roundw
                    case rel => exact ⟨q + 1, by go_num, by omega, ⟨HQ.out.1, ⟨HQ.out.2.os, HQ.out.2.tape, HQ.out.2.output, HQ.out.2.size, HQ.out.2.block⟩⟩⟩
                    case measure => simp [intOf]; omega
                  · go_wp2_with fail
                    go_roundw
                    case rel => exact ⟨i + 1, by go_num, by omega, HQ⟩
                    case measure => simp [intOf]; omega
              · obtain ⟨j, hj⟩ : ∃ j : Nat, i = j + 1 := ⟨i - 1, by omega⟩
                have hjl : j < zs.length := by have := HY.out.1; rcases Nat.lt_or_ge j zs.length with h | h; (exact h); (rw [List.getElem?_eq_none (by omega)] at this; cases this)
                obtain ⟨x3, hx3⟩ : ∃ y, zs[j]? = some y := ⟨_, List.getElem?_eq_getElem hjl⟩
                obtain ⟨ix2, cl2⟩ := HCe.out wb HJ.out.2 j x3 hx3
                have hmn : mn ≤ y - x3 := (HZ.out.2.1 i y HY.out.1).2.2 x3 (by omega) (by rw [hj, Nat.add_sub_cancel]; exact hx3)
                have hxy : 0 ≤ x3 ∧ x3 ≤ y := ⟨(HZ.out.2.1 j x3 hx3).1.1, ((HZ.out.2.1 i y HY.out.1).2.1 j x3 (by omega) hx3).1⟩
                obtain ⟨hx0, hx1⟩ := hxy
                obtain ⟨bd, hbd⟩ : ∃ bd, adG o j = bd := ⟨_, rfl⟩
                rw [hbd] at ix2 cl2
                have wj : IntKind.i64.wrap ((i : Int) - 1) = (j : Int) := by rw [IntKind.wrap_i64]; omega
                have wd : IntKind.i64.wrap (y - x3) = y - x3 := by rw [IntKind.wrap_i64]; omega
                have dm : decide (y - x3 < mn) = false := decide_eq_false (by omega)
                have dp : decide (0 < (i : Int)) = true := decide_eq_true (by omega)
                have dp2 : decide (0 < i) = true := decide_eq_true (by omega)
                have hip2 : 0 < i := by omega
                have hip : (0 : Int) < (i : Int) := by omega
                clear hj hjl hx3 hbd hz
                refine wp_region_quietW (by kernel_rfl) (by kernel_rfl) ?_
                repeat (refine qw_step (fun K hK => ?_); go_simp; refine hK _ ?_; clear hK K)
                refine qw_nil ?_
                rintro w' ⟨nq, rfl⟩
                refine HKK.out _ _ ?_
                clear HKK ix2 cl2 wj wd dm hmn
                go_wp2_with fail
                go_loopw [17] (fun kv wr => ∃ (q : Nat), kv = .int .i64 (q : Int) ∧ (q : Int) ≤ (i : Int) ∧ Hid (wr.ranges Try.prog 24 (rowElem (H := Unit) wS (b + 1) 3 .i64) b r k D (fun z => left z && !z.sameKey kl) cnt1 ∧ Below r wS wr)) (fun kv _ => ((i : Int) - intOf kv).toNat)
                case atStart => exact ⟨0, rfl, by omega, ⟨HJ.out.1, ⟨HJ.out.2.os, HJ.out.2.tape, HJ.out.2.output, HJ.out.2.size, HJ.out.2.block⟩⟩⟩
                case round =>
                  obtain ⟨q, rfl, hq, HQ⟩ := hrel
                  obtain ⟨wc, hwc⟩ : ∃ wc, wc = wr := ⟨_, rfl⟩
                  subst hwc
                  by_cases hqi : (q : Int) < (i : Int)
                  · have hql : q < zs.length := by have := HY.out.1; rcases Nat.lt_or_ge q zs.length with h | h; (exact h); (rw [List.getElem?_eq_none (by omega)] at this; cases this)
                    obtain ⟨x4, hx4⟩ : ∃ y, zs[q]? = some y := ⟨_, List.getElem?_eq_getElem hql⟩
                    obtain ⟨ix4, cl4⟩ := HCe.out wc HQ.out.2 q x4 hx4
                    obtain ⟨ed, hed⟩ : ∃ ed, adG o q = ed := ⟨_, rfl⟩
                    rw [hed] at ix4 cl4
                    have cl5 : wc.cell? ad = some (.int .i64 y) := HY.out.2 wc HQ.out.2
                    have hx4b : 0 ≤ x4 ∧ x4 ≤ y := ⟨(HZ.out.2.1 q x4 hx4).1.1, ((HZ.out.2.1 i y HY.out.1).2.1 q x4 (by omega) hx4).1⟩
                    obtain ⟨hx40, hx41⟩ := hx4b
                    have hrt := HZ.out.2.1.rate HCo.out.1 HY.out.1 hx4 (by omega)
                    obtain ⟨Z, hZ⟩ : ∃ Z, (y - x4) / C = Z := ⟨_, rfl⟩
                    rw [hZ] at hrt
                    have hZb : 0 ≤ Z ∧ Z ≤ 419430400 := by
                      have hc1 := HCo.out.1
                      rw [← hZ]
                      exact ⟨Int.ediv_nonneg (by omega) (by omega), Int.le_trans (Int.ediv_le_self C (by omega)) (by omega)⟩
                    obtain ⟨hZ0, hZ1⟩ := hZb
                    have w1' : IntKind.i64.wrap ((i : Int) - (q : Int)) = (i : Int) - q := by rw [IntKind.wrap_i64]; omega
                    have w2' : IntKind.i64.wrap ((i : Int) - (q : Int) + 1) = (i : Int) - q + 1 := by rw [IntKind.wrap_i64]; omega
                    have w3' : IntKind.i64.wrap (y - x4) = y - x4 := by rw [IntKind.wrap_i64]; omega
                    have w4' : IntKind.i64.wrap (Z + 8) = Z + 8 := by rw [IntKind.wrap_i64]; omega
                    have HZZ : Hid ((y - x4) / C = Z) := hZ
                    have hsh : (y - x4) / 2 ^ av.toNat = Z := by rw [← hZ, ← HCv.out]; rfl
                    have dq : decide (Z + 8 < (i : Int) - (q : Int) + 1) = false := decide_eq_false (by omega)
                    have hq1 : (q : Int) + 1 ≤ (i : Int) := by omega
                    clear hx4 hql hed hZ hrt
                    go_upto_region 36 with fail
                    rename_i KK2 hKK2
                    have HKK2 : Hid _ := hKK2
                    clear hKK2
                    refine wp_region_quietW (by kernel_rfl) (by kernel_rfl) ?_
                    repeat (refine qw_step (fun K hK => ?_); go_simp; refine hK _ ?_; clear hK K)
                    refine qw_nil ?_
                    rintro w' ⟨nq2, rfl⟩
                    refine HKK2.out _ _ ?_
                    clear HKK2
                    clear w1' w2' w3' w4' hsh ix4 cl4 cl5
                    go_wp2_with fail
                    go_roundw
                    case rel => exact ⟨q + 1, by go_num, by omega, ⟨HQ.out.1, ⟨HQ.out.2.os, HQ.out.2.tape, HQ.out.2.output, HQ.out.2.size, HQ.out.2.block⟩⟩⟩
                    case measure => simp [intOf]; omega
                  · go_wp2_with fail
                    go_roundw
                    case rel => exact ⟨i + 1, by go_num, by omega, HQ⟩
                    case measure => simp [intOf]; omega
            · go_wp2_with fail
              go_roundw
              case rel => exact ⟨_, cnt1, HJ⟩
              case measure => rw [HJ.out.1.left_eq]; exact H1.out.2.2
end Go.Proofs.Ytmgphfdieekpdaa
