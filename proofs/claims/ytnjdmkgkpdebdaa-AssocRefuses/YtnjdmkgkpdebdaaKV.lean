/- assoc: AssocRefuses. -/
import Derived.Test.YtnjdmkgkpdebdaaKVc
import Derived.Test.YtnjdmkgkpdebdaaKVd
import Derived.Test.YtnjdmkgkpdebdaaKVe
namespace Go.Proofs.Ytnjdmkgkpdebdaa
open Go Go.RowKit Go.Sort
set_option linter.unusedVariables false
set_option maxRecDepth 20000 in
set_option maxHeartbeats 4000000 in
theorem AssocRefuses_row (cf : List Value) (sv : Value) (pk : List Value) (frm to flags : Int) (auth : Bool) (xs : List As) (ls mc : Bool) (ss : List Stp) (mode poll key : Int) (w : World) (hc : Cx w.heap.size w cf xs ls mc) (hs : Sx w.heap.size w sv ss) (hp : Pf pk mode poll key) (hm : (Lit.int .i64 mode).wf = true) :
    Calls Try.prog 6 #[.agg cf.toArray, sv, .agg pk.toArray, .int .u32 frm, .int .u32 to, .int .i64 flags, .bool auth] w fun e w' => e = .returned (.bool true) ∧ Below w.heap.size w w' := by
  obtain ⟨av, hcf, hrk⟩ := hc.fm
  have HC : Hid (Cf cf av ls mc ∧ Rk w.heap.size w 12 av (xs.map asL) ∧ ∀ a ∈ xs, (Lit.int .i64 a.kind).wf = true) := ⟨hcf, hrk, hc.wk⟩
  obtain ⟨⟨ao, cap, hsv, hrow⟩, hok, hlen⟩ := hs
  obtain ⟨L, hL⟩ : ∃ L, ss.length = L := ⟨_, rfl⟩
  rw [hL] at hsv hlen
  subst hsv
  have HS : Hid ((∀ (k : Nat) (x : Stp), ss[k]? = some x → ∃ ad, ao = some ad ∧ ad.block < w.heap.size ∧ ∀ j u, (spC x)[j]? = some u → w.cell? ((ad.add (k * 37)).add j) = some u) ∧ (∀ x ∈ ss, okX x) ∧ ss.length = L) := ⟨hrow, hok, hL⟩
  have HP : Hid (Pf pk mode poll key ∧ (Lit.int .i64 mode).wf = true) := ⟨hp, hm⟩
  clear hc hcf hrk hrow hok hL hp hm
  go_enter Try.func6, Try.ntmps6
  refine post_hid fun Q hQ => ?_
  refine seq_hid fun R hR => ?_
  go_wp2_with (first
    | (refine step_boxL (by rfl) 29 _ rfl cf.toArray (by rfl) (fun u => by rfl) ?_; intro W1 gc H1)
    | (refine step_boxL (by rfl) 47 _ rfl pk.toArray (by rfl) (fun u => by rfl) ?_; intro W2 gp H2))
  rw [hR.out]
  clear hR
  have H3 : Hid (Bk gc W2 cf.toArray 29 ∧ Bk gp W2 pk.toArray 47 ∧ Below w.heap.size w W2) := ⟨H2.out.other H1.out.bk, H2.out.bk, below_thru H1.out.be H2.out.be⟩
  clear H1 H2
  refine seq_hid fun R hR => ?_
  go_wp2_with (go_at_call 7; refine (shown_any W2).mono ?_; rintro e w1 ⟨rfl, hb1⟩; have H4 : Hid (Bk gc w1 cf.toArray 29 ∧ Bk gp w1 pk.toArray 47 ∧ Below w.heap.size w w1) := ⟨H3.out.1.kept (hb1.block _ H3.out.1.lt), H3.out.2.1.kept (hb1.block _ H3.out.2.1.lt), below_thru H3.out.2.2 hb1⟩; clear hb1)
  rw [hR.out]
  clear hR H3
  have HCc : Hid (∀ j u, cf[j]? = some u → w1.cell? ((⟨gc, 0, none⟩ : Addr).add j) = some u) := cells_of H4.out.1
  have HLc : Hid ((Try.prog.info? 29).map (·.size) = some cf.length) := by show _ = _; rw [HC.out.1.len]; kernel_rfl
  have HN : Hid (Calls Try.prog 8 #[.agg cf.toArray] w1 fun e w' => NwR w1 w' xs e ∧ Below w1.heap.size w1 w') := new_any cf av ls mc xs w1 HC.out.1 ((HC.out.2.1.below H4.out.2.2 (Nat.le_refl _)).mono H4.out.2.2.size)
  go_upto_region 4 with (first
    | (refine step_ldat 29 _ rfl rfl ⟨gc, 0, none⟩ (by rfl) cf _ Try.underlying29 rfl HLc.out HCc.out ?_)
    | (go_at_call 8; refine HN.out.mono ?_; rintro e w2 ⟨h2, hb2⟩; have H5 : Hid (Below w1.heap.size w1 w2) := hb2; clear hb2; rcases h2 with ⟨hz, rfl⟩ | ⟨hz, q, bs, rfl, h2⟩))
  · obtain ⟨E, hE⟩ : ∃ E, nwE xs = E := ⟨_, rfl⟩
    rw [hE] at hz ⊢
    have hz2 : (E == 0) = false := by simpa using hz
    have hz3 : (E != 0) = true := by simpa using hz
    go_wp2_with fail
    rw [hQ.out]
    go_ret
    exact ⟨rfl, below_thru H4.out.2.2 H5.out⟩
  have H6 : Hid (Tw w w2 q (tbL xs bs) [(gc, cf, 29), (gp, pk, 47)]) := Tw.of h2 H4.out.2.2 HC.out.2.2 fun x hx => by
    simp only [List.mem_cons, List.not_mem_nil, or_false] at hx
    rcases hx with rfl | rfl
    · exact H4.out.1
    · exact H4.out.2.1
  clear h2 hz HN HCc H4 H5
  have hL2 : (L : Int) ≤ 9223372036854775807 := by omega
  go_wp2_with fail
  go_loopw [37] (fun i wr => ∃ (k : Nat) (ms : List (Option Mb)), i = .int .i64 k ∧ (k : Int) ≤ L ∧ Hid (Tw w wr q ms [(gc, cf, 29), (gp, pk, 47)])) (fun i _ => L - (intOf i).toNat)
  case atStart => exact ⟨0, tbL xs bs, rfl, by omega, H6⟩
  case round =>
    obtain ⟨k, ms, rfl, hk, HI⟩ := hrel
    clear H6
    by_cases hlt : (k : Int) < L
    · have hkl : k < ss.length := by rw [HS.out.2.2]; omega
      obtain ⟨x, hx⟩ : ∃ x, x = ss[k] := ⟨_, rfl⟩
      have hxk : ss[k]? = some x := by rw [List.getElem?_eq_getElem hkl, hx]
      obtain ⟨ad, g1', g2', g3'⟩ := HS.out.1 k x hxk
      have OK : Hid (okX x) := HS.out.2.1 x (List.mem_of_getElem? hxk)
      have hix := ix_sp L cap k g1' hlt
      have HX : Hid (∀ j u, (spC x)[j]? = some u → wr.cell? ((ad.add (k * 37)).add j) = some u) := fun j u hu => by
        rw [HI.out.be.cell (p := (ad.add (k * 37)).add j) (by rw [add_block, add_block]; exact g2')]
        exact g3' j u hu
      have HZ : Hid ((Try.prog.info? 49).map (·.size) = some (spC x).length) := sp_size OK.out
      clear g1' g2' g3' hx hxk hkl
      go_upto_region 9 with (first
        | (refine step_ldat 49 _ rfl rfl (ad.add (k * 37)) (by rfl) (spC x) _ Try.underlying49 rfl HZ.out HX.out ?_)
        | (refine step_alL (by rfl) 49 rfl (spC spZ).toArray (fun u => by kernel_rfl) ?_; intro w3 g H3)
        | (refine step_stL (by rfl) _ _ rfl g (spC x).toArray (by rfl) (by rfl) (spC spZ).toArray (sp_size OK.out) (sp_size2 OK.out) (sp_one OK.out) H3.out.bk ?_; intro w4 H4))
      have H5 : Hid (Tw w w4 q ms [(gc, cf, 29), (gp, pk, 47)] ∧ Sb w4 g x) := ⟨HI.out.below (H4.out.below H3.out.be H3.out.be.size (Nat.le_of_eq H3.out.at'.symm)), ⟨H4.out.bk, OK.out⟩⟩
      clear H3 H4 HI HX HZ hix
      have c0 : w4.cell? ⟨g, 0, none⟩ = some (.int .i64 x.k) := by rw [H5.out.2.cell 0]; exact (sp_at OK.out).1
      have L1 : (k : Int) + 1 ≤ 9223372036854775807 := by omega
      by_cases h6 : x.k = 6
      · rw [h6] at c0
        have c36 : w4.cell? ⟨g, 36, none⟩ = some (.int .i64 x.act) := by rw [H5.out.2.cell 36]; exact (sp_at OK.out).2.2.2.2.2.2.2.2.2
        have c13 : w4.cell? ⟨g, 13, none⟩ = some (.int .i64 x.id) := by rw [H5.out.2.cell 13]; exact (sp_at OK.out).2.2.1
        have c32 : w4.cell? ⟨g, 32, none⟩ = some (.int .u32 x.frm) := by rw [H5.out.2.cell 32]; exact (sp_at OK.out).2.2.2.2.2.1
        have c14 : w4.cell? ⟨g, 14, none⟩ = some (.int .i64 x.now) := by rw [H5.out.2.cell 14]; exact (sp_at OK.out).2.2.2.1
        have HPk : Hid (∀ j u, x.pk[j]? = some u → w4.cell? ((⟨g, 15, none⟩ : Addr).add j) = some u) := H5.out.2.pkt
        have HPl : Hid ((Try.prog.info? 47).map (·.size) = some x.pk.length) := by show _ = _; rw [OK.out.pf.len]; kernel_rfl
        have HM : Hid (Calls Try.prog 17 #[.pointer (some ⟨q, 0, none⟩), .int .i64 x.act, .int .i64 x.id, .agg x.pk.toArray, .int .u32 x.frm, .int .i64 x.now] w4 fun e w' => ∃ b, e = .returned (.tuple #[.int .i64 (moN ms x.act x.id x.poll x.key x.frm), .int .i64 (moE ms x.act x.id x.poll x.key x.frm)]) ∧ Tb w' q (moT ms x.act x.id x.poll x.key x.frm x.now b) ∧ w4.grownBy w' (some q) ∧ w4.heap.size ≤ b) := mobilise_any q ms x.pk x.act x.id x.mode x.poll x.key x.frm x.now w4 H5.out.1.tb OK.out.pf (i64_low OK.out.wn)
        go_wp2_with (first
          | (refine step_ldat 47 _ rfl rfl ⟨g, 15, none⟩ (by rfl) x.pk _ Try.underlying47 rfl HPl.out HPk.out ?_)
          | (go_at_call 17; refine HM.out.mono ?_; rintro e w5 ⟨b, rfl, h5, h6', h7⟩; have H7 : Hid (Tw w w5 q (moT ms x.act x.id x.poll x.key x.frm x.now b) [(gc, cf, 29), (gp, pk, 47)]) := H5.out.1.mo h5 h6' h7; clear h5 h6' h7))
        go_roundw
        case rel => exact ⟨k + 1, _, by go_num, by omega, H7⟩
        case measure => simp [intOf]; omega
      · have h62 : (x.k == 6) = false := by simpa using h6
        go_wp2_with fail
        go_roundw
        case rel => exact ⟨k + 1, ms, by go_num, by omega, H5.out.1⟩
        case measure => simp [intOf]; omega
    · obtain ⟨w5, hw5⟩ : ∃ w5, w5 = wr := ⟨_, rfl⟩
      subst hw5
      obtain ⟨hcc, hcq⟩ := HI.out.bk (gc, cf, 29) (by simp)
      obtain ⟨hpp, hpq⟩ := HI.out.bk (gp, pk, 47) (by simp)
      have HCc : Hid (∀ j u, cf[j]? = some u → w5.cell? ((⟨gc, 0, none⟩ : Addr).add j) = some u) := cells_of hcc
      have HPc : Hid (∀ j u, pk[j]? = some u → w5.cell? ((⟨gp, 0, none⟩ : Addr).add j) = some u) := cells_of hpp
      have HPl : Hid ((Try.prog.info? 47).map (·.size) = some pk.length) := by show _ = _; rw [HP.out.1.len]; kernel_rfl
      clear hcc hcq hpp hpq
      obtain ⟨A, hA⟩ : ∃ A, rtA ms ls mc auth mode frm to (bits .and .i64 flags 1) (bits .and .i64 flags 8) (bits .and .i64 flags 16) = A := ⟨_, rfl⟩
      obtain ⟨n, hn⟩ : ∃ n, rtI ms auth mode frm (bits .and .i64 flags 8) (bits .and .i64 flags 16) = n := ⟨_, rfl⟩
      have HW : Hid (Rw ms auth mode frm (bits .and .i64 flags 1) (bits .and .i64 flags 8) (bits .and .i64 flags 16) A n) := by
        rw [← hA, ← hn]
        exact rw_of HI.out.tb.len HI.out.tb.ids ls mc auth mode frm to _ _ _
      have HR : Hid (Calls Try.prog 19 #[.pointer (some ⟨q, 0, none⟩), .agg cf.toArray, .agg pk.toArray, .int .u32 frm, .int .u32 to, .int .i64 flags, .bool auth] w5 fun e w' => e = .returned (.tuple #[.int .i64 A, .int .i64 n]) ∧ Below w5.heap.size w5 w') := by
        rw [← hA, ← hn]
        exact route_any q ms cf pk av ls mc auth mode poll key frm to flags w5 HI.out.tb HC.out.1 HP.out.1 HI.out.kw HP.out.2
      clear hA hn
      go_upto_region 13 with (first
        | (refine step_ldat 29 _ rfl rfl ⟨gc, 0, none⟩ (by rfl) cf _ Try.underlying29 rfl HLc.out HCc.out ?_)
        | (refine step_ldat 47 _ rfl rfl ⟨gp, 0, none⟩ (by rfl) pk _ Try.underlying47 rfl HPl.out HPc.out ?_)
        | (go_at_call 19; refine HR.out.mono ?_; rintro e w6 ⟨rfl, hb6⟩; have H6 : Hid (Tw w w6 q ms [(gc, cf, 29), (gp, pk, 47)]) := HI.out.below hb6; clear hb6))
      clear HI HR HCc HPc hlt hk
      obtain ⟨y, hy⟩ : ∃ y, geM ms n = y := ⟨_, rfl⟩
      obtain ⟨is, his⟩ : ∃ b, (atM ms n).isSome = b := ⟨_, rfl⟩
      have HY : Hid (geM ms n = y ∧ (atM ms n).isSome = is) := ⟨hy, his⟩
      have HG : Hid (Calls Try.prog 18 #[.pointer (some ⟨q, 0, none⟩), .int .i64 n] w6 fun e w' => e = .returned (.tuple #[.agg (enL y).toArray, .bool is]) ∧ Below w6.heap.size w6 w') := by rw [← hy, ← his]; exact get_any q ms n w6 H6.out.tb
      clear hy his
      go_upto_region 14 with (first
        | (go_at_call 18; refine HG.out.mono ?_; rintro e w7 ⟨rfl, hb7⟩; have H7 : Hid (Tw w w7 q ms [(gc, cf, 29), (gp, pk, 47)]) := H6.out.below hb7; clear hb7)
        | (refine step_alL (by rfl) 62 rfl (enL zMb).toArray (fun u => by kernel_rfl) ?_; intro w8 g H8)
        | (refine step_stL (by rfl) _ _ rfl g (enL y).toArray (by rfl) (by rfl) (enL zMb).toArray (by kernel_rfl) (by kernel_rfl) (by kernel_rfl) H8.out.bk ?_; intro w9 H9))
      have H10 : Hid (Tw w w9 q ms [(gc, cf, 29), (gp, pk, 47)] ∧ Bk g w9 (enL y).toArray 62) := ⟨H7.out.below (H9.out.below H8.out.be H8.out.be.size (Nat.le_of_eq H8.out.at'.symm)), H9.out.bk⟩
      clear H6 H7 H8 H9 HG
      have d2 : w9.cell? ⟨gp, 2, none⟩ = some (.int .i64 mode) := by rw [(H10.out.1.bk (gp, pk, 47) (by simp)).1.cell 2, List.getElem?_toArray]; exact HP.out.1.mode
      have hw := HW.out
      rename_i KK hKK
      refine rf_group (by kernel_rfl) [] frm flags A n auth is gp q g w9 _ ?_
      intro u74 u75 u76 u77 u78 u79 u80 u81 u82 u83 u84
      refine hKK _ _ ?_
      clear hKK
      have fin : Hid (∀ (tm' : Array Value) (W' : World), tm'.getD 14 undef = .bool true → Below w9.heap.size w9 W' → Q .ret { tmps := tm', defers := [] } W') := fun tm' W' h14 hb => by
        rw [hQ.out]
        refine bodyPost_ret (results_tmp rfl _ _ _) rfl ?_
        exact ⟨by show Ending.returned (tm'.getD 14 undef) = _; rw [h14], below_thru H10.out.1.be hb⟩
      rcases hw with ⟨rfl, rfl⟩ | ⟨rfl, ha, hn, hg, hmo⟩ | ⟨rfl, m, hat, had, hkd, hds⟩ | ⟨rfl, ha, hnp, hau, hkd, hln⟩ | ⟨rfl, m, hat, hkk, hnp, hau, hkd, hln⟩
      · exact rf_no (by kernel_rfl) [] w w9 q gp g ms _ frm flags mode auth is y (grB frm) _ H10.out.1 H10.out.2 d2 fin.out
      · exact rf_answer (by kernel_rfl) [] w w9 q gp g ms _ frm flags mode auth is A y (grB frm) _ H10.out.1 H10.out.2 d2 ha hn hg hmo fin.out
      · have e1 : y = m := by rw [← HY.out.1]; exact (get_at hat).1
        have e2 : is = true := by rw [← HY.out.2]; exact (get_at hat).2
        subst e1 e2
        obtain ⟨i, hi, -, -⟩ := atM_mem hat
        exact rf_process (by kernel_rfl) [] w w9 q gp g ms _ frm flags mode auth n y (grB frm) _ H10.out.1 H10.out.2 d2 had hkd hds (H10.out.1.kw i y hi) HP.out.2 fin.out
      · exact rf_fresh (by kernel_rfl) [] w w9 q gp g ms _ frm flags mode auth is A y (grB frm) _ H10.out.1 H10.out.2 d2 ha hnp hau hkd hln fin.out
      · have e1 : y = m := by rw [← HY.out.1]; exact (get_at hat).1
        have e2 : is = true := by rw [← HY.out.2]; exact (get_at hat).2
        subst e1 e2
        exact rf_found (by kernel_rfl) [] w w9 q gp g ms _ frm flags mode auth n y (grB frm) _ H10.out.1 H10.out.2 d2 hkk hnp hau hkd hln fin.out
end Go.Proofs.Ytnjdmkgkpdebdaa
