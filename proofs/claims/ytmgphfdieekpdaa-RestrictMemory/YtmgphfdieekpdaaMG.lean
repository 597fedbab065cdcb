/- RestrictMemory. -/
import Derived.Test.YtmgphfdieekpdaaMF
namespace Go.Proofs.Ytmgphfdieekpdaa
open Go Go.RowKit Go.Sort
theorem ix_pk {ao : Option Addr} {ad : Addr} (n cap k : Nat) (h : ao = some ad) (hk : (k : Int) < n) (w : World) : Sem.run Try.prog (Instr.indexAt 38 (.slice ao n cap) (.int .i64 (k : Int))) w = .ok (.pointer (some (ad.add (k * 3)))) w := by
  subst h
  have u := Try.underlying38
  have c3 : Try.prog.cellsOf 46 = 3 := by kernel_rfl
  have h0 : (0 : Int) ≤ k := Int.natCast_nonneg k
  go_simp
set_option maxRecDepth 20000 in
set_option maxHeartbeats 2000000 in
theorem RestrictMemory_walk (hS : SortOk) (av mn : Int) (v : Value) (ps : List Ru) (w : World) (ha : Rk w.heap.size w 3 v (ps.map ruL)) (hp : ∀ a ∈ ps, (0 ≤ a.addr ∧ a.addr < 4294967296) ∧ (-9223372036854775808 ≤ a.bits ∧ a.bits ≤ 9223372036854775807)) (hl : ps.length * 24 ≤ 140737488351232) :
    Calls Try.prog 6 #[.int .i64 av, .int .i64 mn, v] w fun e w' => e = .returned (.bool true) ∧ Below w.heap.size w w' := by
  obtain ⟨ao, cap, hv, hc, hcell⟩ := ha.ru
  subst hv
  obtain ⟨L, hL⟩ : ∃ L, L = ps.length := ⟨_, rfl⟩
  have l1 : (L : Int) ≤ 140737488351232 := by omega
  have HP : Hid (L = ps.length ∧ SortOk ∧ (∀ i (hi : i < ps.length), ∃ ad, ao = some ad ∧ ad.block < w.heap.size ∧ ∀ j u, (ruL ps[i])[j]? = some u → w.cell? ((ad.add (i * 3)).add j) = some u) ∧ ∀ a ∈ ps, (0 ≤ a.addr ∧ a.addr < 4294967296) ∧ (-9223372036854775808 ≤ a.bits ∧ a.bits ≤ 9223372036854775807)) := ⟨hL, hS, hcell, hp⟩
  rw [← hL]
  clear hL hS hcell hp hc hl ha
  go_enter Try.func6, Try.ntmps6
  refine post_hid fun Q hQ => ?_
  refine seq_hid fun R hR => ?_
  go_wp2_with fail
  rw [hR.out]
  clear hR
  refine seq_hid fun R hR => ?_
  go_wp2_with fail
  refine (shown_any _).mono ?_
  rintro e w1 ⟨rfl, hb1⟩
  have HB1 : Hid (Below w.heap.size w w1) := hb1
  clear hb1
  go_wp2_with fail
  rw [hR.out]
  clear hR
  refine seq_hid fun R hR => ?_
  by_cases hn : 0 ≤ av ∧ av ≤ 10 ∧ 0 ≤ mn ∧ mn ≤ 1024
  · obtain ⟨a0, a1, m0, m1⟩ := hn
    go_wp2_with fail
    refine (new_ok av mn w1 a0 a1 m0 m1).mono ?_
    rintro e w2 ⟨rfl, hw2⟩
    obtain ⟨g, hg⟩ : ∃ g, w1.heap.size = g := ⟨_, rfl⟩
    have H2 : Hid (Mm w2 g g (.slice none 0 0) (coS av) mn (-9223372036854775808) 0 [] ∧ Below g w1 w2 ∧ w2.heap.size = g + 1 ∧ w.heap.size ≤ g ∧ Below w.heap.size w w2) := by
      have h := Mm.fresh w1 (coS av) mn
      refine ⟨?_, ?_, ?_, hg ▸ HB1.out.size, ?_⟩
      · rw [hw2, ← hg]; exact h
      · rw [hw2, ← hg]; exact (Below.refl _ _).alloc (Nat.le_refl _) _
      · rw [hw2, ← hg]; simp
      · rw [hw2]; exact HB1.out.alloc HB1.out.size _
    rw [hg]
    clear hw2 hg HB1
    go_wp2_with fail
    rw [hR.out]
    clear hR
    refine seq_hid fun R hR => ?_
    go_wp2_with fail
    refine (rnew_ok av mn w2 a0 a1 m0 m1).mono ?_
    rintro e w3 ⟨rfl, hw3⟩
    obtain ⟨h, hh⟩ : ∃ h, w2.heap.size = h := ⟨_, rfl⟩
    have H3 : Hid (Bo w3 g g h av mn 0 (-9223372036854775808) (.slice none 0 0) (.slice none 0 0) [] [] 0 false ∧ w.heap.size ≤ g ∧ Below w.heap.size w w3 ∧ g ≤ w3.heap.size) := by
      have hbb : Below w2.heap.size w2 w3 := by rw [hw3]; exact (Below.refl _ _).alloc (Nat.le_refl _) _
      have hgh : h = g + 1 := by rw [← hh]; exact H2.out.2.2.1
      refine ⟨⟨H2.out.1.below hbb, ⟨?_, OR.nil _ _ _ _, by omega⟩, Rq.nil _ _ _, by omega, by simp [Value.ownBlock], by simp [Value.ownBlock], by simp [Value.ownBlock], by omega, by omega, .inl ⟨rfl, rfl⟩⟩, H2.out.2.2.2.1, H2.out.2.2.2.2.trans (hbb.mono H2.out.2.2.2.2.size), ?_⟩
      · rw [hw3, ← hh]; exact Bk.new w2 _ _
      · have := hbb.size; have := H2.out.2.2.1; omega
    rw [hh]
    clear hw3 hh H2
    go_wp2_with fail
    rw [hR.out]
    clear hR
    refine seq_hid fun R hR => ?_
    go_wp2_with fail
    rw [hR.out]
    clear hR
    refine seq_hid fun R hR => ?_
    go_wp2_with fail
    rw [hR.out]
    clear hR
    refine seq_hid fun R hR => ?_
    go_wp2_with fail
    go_loopw [41] (fun iv wr => ∃ k : Nat, iv = .int .i64 (k : Int) ∧ (k : Int) ≤ L ∧ Hid (∃ now sv lv xs ss now' any, Bo wr g g h av mn (k : Int) now sv lv xs ss now' any ∧ Below w.heap.size w wr ∧ g ≤ wr.heap.size)) (fun iv _ => (L - intOf iv).toNat)
    case atStart => exact ⟨0, rfl, by omega, _, _, _, _, _, _, _, H3.out.1, H3.out.2.2.1, H3.out.2.2.2⟩
    case round =>
      obtain ⟨k, rfl, hk, HI⟩ := hrel
      have HG : Hid (w.heap.size ≤ g) := H3.out.2.1
      clear H3
      obtain ⟨now, sv, lv, xs, ss, now', any, hbo, hbw, hgw⟩ := HI.out
      clear HI
      by_cases hlt : (k : Int) < L
      · have hkx : k < ps.length := by have := HP.out.1; omega
        obtain ⟨ad, g1, g2, g3⟩ := HP.out.2.2.1 k hkx
        have hix : ∀ w, Sem.run Try.prog (Instr.indexAt 38 (.slice ao L cap) (.int .i64 (k : Int))) w = .ok (.pointer (some (ad.add (k * 3)))) w := ix_pk L cap k g1 hlt
        have HC : Hid (∀ j u, (ruL ps[k])[j]? = some u → wr.cell? ((ad.add (k * 3)).add j) = some u) := fun j u hu => by
          rw [hbw.cell (p := (ad.add (k * 3)).add j) (by rw [add_block, add_block]; exact g2)]
          exact g3 j u hu
        have hpk := (HP.out.2.2.2 _ (List.getElem_mem hkx)).2
        obtain ⟨A, hA0⟩ : ∃ A, A = ad.add (k * 3) := ⟨_, rfl⟩
        obtain ⟨E, hE⟩ : ∃ E, E = ps[k] := ⟨_, rfl⟩
        rw [← hA0] at hix HC
        rw [← hE] at HC hpk
        clear hA0 hE g1 g2 g3
        obtain ⟨x0, x1, x2⟩ := E
        unfold ruL at HC
        simp only at HC hpk
        obtain ⟨V, hVc⟩ := both_heard g g h av mn k now sv lv xs ss now' any x0 x1 x2 a0 a1 m0 m1 (by omega) (by omega) hpk.1 hpk.2
        have HVc : Hid _ := hVc
        clear hVc hpk
        obtain ⟨pb, hpb⟩ : ∃ pb, wr.heap.size = pb := ⟨_, rfl⟩
        have HB0 : Hid (Bo wr g g h av mn (k : Int) now sv lv xs ss now' any ∧ Below w.heap.size w wr ∧ g ≤ wr.heap.size ∧ wr.heap.size = pb) := ⟨hbo, hbw, hgw, hpb⟩
        clear hbo hbw hgw
        go_wp2_with (refine step_ldat 46 _ (by rfl) (by rfl) A (by rfl) [.int .u32 x0, .int .i64 x1, .int .i64 x2] _ Try.underlying46 (by rfl) (by kernel_rfl) HC.out ?_)
        refine world_hid fun W3 hW3 => ?_
        have H3 : Hid (Bk pb W3 #[.int .u32 x0, .int .i64 x1, .int .i64 x2] 46 ∧ Bo W3 g g h av mn (k : Int) now sv lv xs ss now' any ∧ Below w.heap.size w W3 ∧ g ≤ W3.heap.size ∧ (pb ≠ g ∧ sv.ownBlock ≠ some pb ∧ pb ≠ h ∧ lv.ownBlock ≠ some pb)) := by
          have hbb : Below wr.heap.size wr W3 := by rw [hW3.out]; exact (Below.refl _ _).alloc (Nat.le_refl _) _
          have h0 := HB0.out
          refine ⟨by rw [hW3.out, ← h0.2.2.2]; exact Bk.new wr _ _, h0.1.below hbb, h0.2.1.trans (hbb.mono h0.2.1.size), Nat.le_trans h0.2.2.1 hbb.size, ?_, ?_, ?_, ?_⟩
          · have := h0.1.m.blk.lt; omega
          · intro e; have := (h0.1.m.row.row.lt _ e).2; omega
          · have := h0.1.d.blk.lt; omega
          · intro e; have := (h0.1.d.row.row.lt _ e).2; omega
        have o0 := H3.out.1.cell 0
        have o1 := H3.out.1.cell 1
        have o2 := H3.out.1.cell 2
        simp at o0 o1 o2
        clear hW3 hpb HB0 hix HC
        go_region_held3 (fun w' => w'.cell? ⟨pb, 0, none⟩ = some (.int .u32 x0) ∧ w'.cell? ⟨pb, 1, none⟩ = some (.int .i64 x1) ∧ w'.cell? ⟨pb, 2, none⟩ = some (.int .i64 x2)) (first | with_reducible exact ⟨o0, o1, o2⟩ | with_reducible exact ⟨p0, p1, p2⟩ | with_reducible exact ⟨q0, q1, q2⟩ | with_reducible exact ⟨r0, r1, r2⟩ | go_keep) (first
          | (go_at_call 19; refine Calls.mono (HVc.out _ (H3.out.2.1.same rfl) H3.out.2.2.2.1) ?_; rintro e w4 ⟨rfl, hb4, hk4, hnx⟩; have H4 : Hid (Bk pb w4 #[.int .u32 x0, .int .i64 x1, .int .i64 x2] 46 ∧ Below w.heap.size w w4) := ⟨H3.out.1.kept (hk4 pb H3.out.1.lt H3.out.2.2.2.2.1 H3.out.2.2.2.2.2.1), H3.out.2.2.1.trans (Below.mono ⟨hb4.os, hb4.tape, hb4.output, hb4.size, hb4.block⟩ HG.out)⟩; have p0 : w4.cell? ⟨pb, 0, none⟩ = some (.int .u32 x0) := H4.out.1.cell 0; have p1 : w4.cell? ⟨pb, 1, none⟩ = some (.int .i64 x1) := H4.out.1.cell 1; have p2 : w4.cell? ⟨pb, 2, none⟩ = some (.int .i64 x2) := H4.out.1.cell 2; have HN : Hid _ := hnx; clear hb4 hk4 hnx)
          | (go_at_call 20; refine Calls.mono (HN.out w4 (Below.refl _ _)) ?_; rintro e w5 ⟨rfl, hb5, hk5, now1, sv1, lv1, xs1, ss1, now1', hbo1⟩; have H5 : Hid (Bk pb w5 #[.int .u32 x0, .int .i64 x1, .int .i64 x2] 46 ∧ Below w.heap.size w w5 ∧ Bo w5 g g h av mn ((k : Int) + 1) now1 sv1 lv1 xs1 ss1 now1' true) := ⟨H4.out.1.kept (hk5 pb H4.out.1.lt H3.out.2.2.2.2.2.2.1 H3.out.2.2.2.2.2.2.2), H4.out.2.trans (hb5.mono HG.out), hbo1⟩; have q0 : w5.cell? ⟨pb, 0, none⟩ = some (.int .u32 x0) := H5.out.1.cell 0; have q1 : w5.cell? ⟨pb, 1, none⟩ = some (.int .i64 x1) := H5.out.1.cell 1; have q2 : w5.cell? ⟨pb, 2, none⟩ = some (.int .i64 x2) := H5.out.1.cell 2; clear hb5 hk5 hbo1)
          | (go_at_call 21; refine Calls.mono (told_any HP.out.2.1 g g sv1 xs1 ss1 (coS av) mn now1 (k + 1) g h lv1 av mn now1' true x0 w5 H5.out.2.2.m H5.out.2.2.d H5.out.2.2.q) ?_; rintro e w6 ⟨rfl, hb6⟩; have H6 : Hid (Bk pb w6 #[.int .u32 x0, .int .i64 x1, .int .i64 x2] 46 ∧ Below w.heap.size w w6 ∧ Bo w6 g g h av mn ((k : Int) + 1) now1 sv1 lv1 xs1 ss1 now1' true) := ⟨H5.out.1.kept (hb6.block _ H5.out.1.lt), H5.out.2.1.trans (hb6.mono H5.out.2.1.size), H5.out.2.2.below hb6⟩; have r0 : w6.cell? ⟨pb, 0, none⟩ = some (.int .u32 x0) := H6.out.1.cell 0; have r1 : w6.cell? ⟨pb, 1, none⟩ = some (.int .i64 x1) := H6.out.1.cell 1; have r2 : w6.cell? ⟨pb, 2, none⟩ = some (.int .i64 x2) := H6.out.1.cell 2; clear hb6))
        have HZ : Hid (∃ now sv lv xs ss now' any, Bo w6 g g h av mn ((k + 1 : Nat) : Int) now sv lv xs ss now' any ∧ Below w.heap.size w w6 ∧ g ≤ w6.heap.size) := by
          have e : ((k + 1 : Nat) : Int) = (k : Int) + 1 := by omega
          refine ⟨now1, sv1, lv1, xs1, ss1, now1', true, ?_, H6.out.2.1, Nat.le_of_lt H6.out.2.2.m.blk.lt⟩
          rw [e]
          exact H6.out.2.2
        clear H3 H4 H5 H6 HN HVc o0 o1 o2 p0 p1 p2 q0 q1 q2 r0 r1 r2
        go_wp2_with fail
        exact ⟨⟨k + 1, by go_num, by omega, HZ⟩, by simp [intOf]; omega⟩
      · have HT : Hid (Calls Try.prog 21 #[.pointer (some ⟨g, 0, none⟩), .pointer (some ⟨h, 0, none⟩), .int .u32 0] wr fun e w' => e = .returned (.bool true) ∧ Below wr.heap.size wr w') := told_any HP.out.2.1 g g sv xs ss (coS av) mn now k g h lv av mn now' any 0 wr hbo.m hbo.d hbo.q
        have HW : Hid (Below w.heap.size w wr) := hbw
        clear hbo hbw hgw HG
        go_wp2_with fail
        rw [hR.out]
        clear hR
        go_wp2_with fail
        refine HT.out.mono ?_
        rintro e w9 ⟨rfl, hb9⟩
        have HB9 : Hid (Below w.heap.size w w9) := HW.out.trans (hb9.mono HW.out.size)
        clear hb9 HT HW
        go_wp2_with fail
        rw [hQ.out]
        exact bodyPost_ret (v := .bool true) (by simp [results, Try.results6]) rfl ⟨rfl, HB9.out⟩
  · go_wp2_with fail
    refine (new_bad av mn w1 hn).mono ?_
    rintro e w2 ⟨rfl, rfl⟩
    go_wp2_with fail
    rw [hR.out]
    clear hR
    refine seq_hid fun R hR => ?_
    go_wp2_with fail
    refine (rnew_bad av mn _ hn).mono ?_
    rintro e w3 ⟨rfl, rfl⟩
    go_wp2_with fail
    rw [hR.out]
    clear hR
    go_wp2_with fail
    rw [hQ.out]
    exact bodyPost_ret (v := .bool true) (by simp [results, Try.results6]) rfl ⟨rfl, HB1.out⟩
end Go.Proofs.Ytmgphfdieekpdaa
