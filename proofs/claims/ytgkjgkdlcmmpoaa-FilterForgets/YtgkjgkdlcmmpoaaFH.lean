/- What byDelay returns. -/
import Derived.Test.YtgkjgkdlcmmpoaaFG
namespace Go.Proofs.Ytgkjgkdlcmmpoaa
open Go Go.RowKit Fi
/-- eight samples in block q -/
structure Rg8 (w : World) (q : Nat) (rs : List Smp) : Prop where
  len : rs.length = 8
  blk : Bk q w (smF rs).toArray 49
theorem Rg8.at {w : World} {q : Nat} {rs : List Smp} (h : Rg8 w q rs) (i : Nat) (hi : i < 8) : ∀ j u, (smL (rs.getD i z0))[j]? = some u → w.cell? ((⟨q, i * 4, none⟩ : Addr).add j) = some u := fun j u hu => by
  have hj : j < 4 := by
    rcases Nat.lt_or_ge j 4 with hlt | hge
    · exact hlt
    · rw [List.getElem?_eq_none (by simpa [smL] using hge)] at hu; cases hu
  have hi' : i < rs.length := by rw [h.len]; exact hi
  rw [add_at, h.blk.cell]
  simp only [List.getElem?_toArray]
  rw [smF_get rs i j hi' hj, ← hu, List.getD_eq_getElem?_getD, List.getElem?_eq_getElem hi']
  rfl
theorem Rg8.c1 {w : World} {q : Nat} {rs : List Smp} (h : Rg8 w q rs) (i : Nat) (hi : i < 8) (j : Nat) (hj : j < 4) : w.cell? ⟨q, i * 4 + j, none⟩ = (smL (rs.getD i z0))[j]? := by
  have := h.at i hi j _ (List.getElem?_eq_getElem (show j < (smL (rs.getD i z0)).length from hj))
  rw [add_at] at this
  rw [this, List.getElem?_eq_getElem (show j < (smL (rs.getD i z0)).length from hj)]
theorem Rg8.kept {w w' : World} {q : Nat} {rs : List Smp} (h : Rg8 w q rs) (hb : w'.heap[q]? = w.heap[q]?) : Rg8 w' q rs := ⟨h.len, h.blk.kept hb⟩
theorem Rg8.set {w : World} {q : Nat} {rs : List Smp} (h : Rg8 w q rs) (i : Nat) (hi : i < 8) (s : Smp) : Rg8 (w.setRow q ((smF rs).take (i * 4) ++ smL s ++ (smF rs).drop (i * 4 + (smL s).length)).toArray) q (rs.set i s) := by
  refine ⟨by rw [List.length_set]; exact h.len, ?_⟩
  rw [show (smL s).length = 4 from rfl, smF_set rs i s (by rw [h.len]; exact hi)]
  exact setRow_heap w q _ _ _ _ h.blk
/-- a place is open: those behind it have moved on by one -/
structure Gap (rs L : List Smp) (j k : Nat) : Prop where
  lo : ∀ i, i < j → rs.getD i z0 = L.getD i z0
  hi : ∀ i, j ≤ i → i < k → rs.getD (i + 1) z0 = L.getD i z0
theorem getD_lt (l : List Smp) (i : Nat) (h : i < l.length) : l.getD i z0 = l[i] := by rw [List.getD_eq_getElem?_getD, List.getElem?_eq_getElem h]; rfl
theorem Gap.fill {rs L : List Smp} {j k : Nat} (h : Gap rs L j k) (hr : rs.length = 8) (hL : L.length = k) (hj : j ≤ k) (hk : k < 8) (s : Smp) : (rs.set j s).take (k + 1) = L.take j ++ s :: L.drop j := by
  apply List.ext_getElem
  · simp; omega
  · intro i h1 h2
    have h1' : i < k + 1 := by simp at h1; omega
    rw [List.getElem_take]
    rcases Nat.lt_trichotomy i j with h3 | h3 | h3
    · rw [List.getElem_set_ne (by omega), List.getElem_append_left (by simp; omega), List.getElem_take, ← getD_lt rs i (by omega), h.lo i h3, getD_lt L i (by omega)]
    · subst h3
      rw [List.getElem_set_self, List.getElem_append_right (by rw [List.length_take]; omega)]
      simp [Nat.min_eq_left (show i ≤ L.length by omega)]
    · rw [List.getElem_set_ne (by omega), List.getElem_append_right (by simp; omega)]
      obtain ⟨i', rfl⟩ : ∃ i', i = i' + 1 := ⟨i - 1, by omega⟩
      rw [← getD_lt rs (i' + 1) (by omega), h.hi i' (by omega) (by omega), getD_lt L i' (by omega)]
      have e : i' + 1 - (L.take j).length = (i' - j) + 1 := by rw [List.length_take]; omega
      simp only [e, List.getElem_cons_succ, List.getElem_drop]
      congr 1
      omega
theorem Gap.start {rs L : List Smp} {k : Nat} (hL : rs.take k = L) : Gap rs L k k := ⟨fun i hi => by
    rw [← hL, List.getD_eq_getElem?_getD, List.getD_eq_getElem?_getD, List.getElem?_take_of_lt hi], fun i h1 h2 => by omega⟩
theorem Gap.step {rs L : List Smp} {j k : Nat} (h : Gap rs L (j + 1) k) (hr : rs.length = 8) (hj : j + 1 < 8) : Gap (rs.set (j + 1) (L.getD j z0)) L j k := ⟨fun i hi => by
    rw [getD_set _ _ _ _ _ (by omega), if_neg (by omega)]; exact h.lo i (by omega), fun i h1 h2 => by
    rw [getD_set _ _ _ _ _ (by omega)]
    by_cases e : j = i
    · rw [if_pos (by omega), e]
    · rw [if_neg (by omega)]; exact h.hi i (by omega) h2⟩
theorem smF_all (xs : List Smp) : (smF xs).toArray.all (·.oneCell') = true := by
  rw [Array.all_eq_true_iff_forall_mem]
  intro u hu
  rw [List.mem_toArray] at hu
  unfold smF at hu
  obtain ⟨r, hr, hur⟩ := List.mem_flatten.1 hu
  obtain ⟨s, _, rfl⟩ := List.mem_map.1 hr
  exact smL_one s u hur
set_option maxRecDepth 20000 in
set_option maxHeartbeats 1000000 in
theorem byDelay_any (p : Nat) (xs : List Smp) (t : Bool) (la : Int) (w : World) (h : Fl w p xs t la) :
    Calls Try.prog 17 #[.pointer (some ⟨p, 0, none⟩)] w fun e w' => (∃ rs : List Smp, rs.length = 8 ∧ rs.take xs.length = srt xs ∧ e = .returned (.agg (smF rs).toArray)) ∧ Below w.heap.size w w' := by
  have hc := h.c
  obtain ⟨n, hn⟩ : ∃ n, n = xs.length := ⟨_, rfl⟩
  rw [← hn] at hc ⊢
  have HN : Hid (n = xs.length) := hn
  have hn8 : (n : Int) ≤ 8 := by have := h.len; omega
  have H : Hid (Fl w p xs t la) := h
  have HP : Hid (p < w.heap.size) := h.lt
  obtain ⟨q, hq⟩ : ∃ q, q = w.heap.size + 1 := ⟨_, rfl⟩
  clear h hn
  go_enter Try.func17, Try.ntmps17
  go_wp2
  go_step3
  refine post_hid fun Q hQ => ?_
  refine seq_hid fun R hR => ?_
  go_wp2
  rw [← hq]
  refine world_hid fun W hW => ?_
  have hB : Below w.heap.size w W := by rw [hW.out]; exact ((Below.refl _ _).alloc (Nat.le_refl _) _).alloc (by simp) _
  have HW : Hid (Bk w.heap.size W (smF (List.replicate 8 z0)).toArray 49 ∧ Rg8 W q (List.replicate 8 z0) ∧ Below w.heap.size w W ∧ q + 1 = W.heap.size) := by
    refine ⟨?_, ⟨rfl, ?_⟩, hB, by rw [hW.out, hq]; simp⟩
    · rw [hW.out]
      refine (Bk.new w _ _).kept ?_
      exact ((Below.refl (w.heap.size + 1) _).alloc (by simp) _).block w.heap.size (by omega)
    · rw [hW.out, hq, ← size_alloc1]
      exact Bk.new _ _ _
  have g1 : W.cell? ⟨p, 33, none⟩ = some (.int .i64 n) := (hB.cell (p := ⟨p, 33, none⟩) HP.out).trans hc
  have Hq : Hid (q = w.heap.size + 1) := hq
  clear hW hB hc hq
  rw [hR.out]
  clear hR
  go_wp2
  go_step3
  go_wp2
  go_loopw [11] (fun i wr => ∃ (k : Nat), i = .int .i64 k ∧ (k : Int) ≤ n ∧ Hid (Bk w.heap.size wr (smF (List.replicate 8 z0)).toArray 49 ∧ (∃ rs, Rg8 wr q rs ∧ rs.take k = srt (xs.take k)) ∧ Below w.heap.size w wr ∧ q + 1 ≤ wr.heap.size)) (fun i _ => n - (intOf i).toNat)
  case atStart => exact ⟨0, rfl, by omega, ⟨HW.out.1, ⟨_, HW.out.2.1, rfl⟩, HW.out.2.2.1, Nat.le_of_eq HW.out.2.2.2⟩⟩
  case round =>
    clear HW g1
    obtain ⟨k, rfl, hk, HK⟩ := hrel
    obtain ⟨wa, hwa⟩ : ∃ wa, wa = wr := ⟨_, rfl⟩
    subst hwa
    by_cases hlt : (k : Int) < n
    · have hkx : k < xs.length := by have := HN.out; omega
      obtain ⟨s, hs⟩ : ∃ s, s = xs.getD k z0 := ⟨_, rfl⟩
      have HSm : Hid (Calls Try.prog 28 #[.pointer (some ⟨p, 0, none⟩), .int .i64 k] wa fun e w' => e = .returned (.agg (smL s).toArray) ∧ Below wa.heap.size wa w') := by
        rw [hs]; exact sample_any p xs t la k wa (H.out.below HK.out.2.2.1 HP.out) hkx
      have HX : Hid (srt (xs.take (k + 1)) = ins (srt (xs.take k)) s ∧ (srt (xs.take k)).length = k) := by
        refine ⟨?_, by rw [srt_len, List.length_take]; omega⟩
        rw [List.take_succ_eq_append_getElem hkx, srt_snoc, hs, getD_lt xs k hkx]
      clear hs hkx
      go_wp2_with fail
      refine HSm.out.mono ?_
      rintro e w2 ⟨rfl, hb2⟩
      obtain ⟨sb, hsb⟩ : ∃ sb, w2.heap.size = sb := ⟨_, rfl⟩
      have HT : Hid ((w2.alloc (.cells #[.int .i64 0, .int .i64 0, .int .i64 0, .int .u64 0] 27)).heap[sb]? = some (.cells #[.int .i64 0, .int .i64 0, .int .i64 0, .int .u64 0] 27 (0, 0))) := by
        have h0 := alloc_at w2 (.cells #[.int .i64 0, .int .i64 0, .int .i64 0, .int .u64 0] 27)
        rw [hsb] at h0
        exact h0
      have H2 : Hid (Below wa.heap.size wa w2) := hb2
      clear hb2 HSm
      go_wp2_with (refine step_stR (by rfl) _ _ rfl sb (smL s).toArray (by rfl) (by rfl) #[.int .i64 0, .int .i64 0, .int .i64 0, .int .u64 0] (by kernel_rfl) (by rfl) (by kernel_rfl) HT.out ?_)
      have hS3 := setRow_heap _ _ _ (smL s).toArray _ _ HT.out
      have hB3 : Below wa.heap.size wa ((w2.alloc (.cells #[.int .i64 0, .int .i64 0, .int .i64 0, .int .u64 0] 27)).setRow sb (smL s).toArray) := below_row (H2.out.alloc (by have := H2.out.size; omega) _) (by rw [← hsb]; exact H2.out.size) _
      have hz3 : ((w2.alloc (.cells #[.int .i64 0, .int .i64 0, .int .i64 0, .int .u64 0] 27)).setRow sb (smL s).toArray).heap.size = sb + 1 := by simp [World.setRow, hsb]
      have Hsb : Hid (wa.heap.size ≤ sb) := by show wa.heap.size ≤ sb; rw [← hsb]; exact H2.out.size
      generalize (w2.alloc (.cells #[.int .i64 0, .int .i64 0, .int .i64 0, .int .u64 0] 27)).setRow sb (smL s).toArray = w3 at *
      have H3 : Hid (Bk sb w3 (smL s).toArray 27 ∧ Below wa.heap.size wa w3 ∧ w3.heap.size = sb + 1) := ⟨hS3, hB3, hz3⟩
      clear hS3 hB3 hz3 HT H2 hsb
      go_loopw [6] (fun i wi => ∃ (j : Nat), i = .int .i64 j ∧ (j : Int) ≤ k ∧ Hid (Bk w.heap.size wi (smF (List.replicate 8 z0)).toArray 49 ∧ Bk sb wi (smL s).toArray 27 ∧ (∃ rs, Rg8 wi q rs ∧ Gap rs (srt (xs.take k)) j k) ∧ (∀ i, j ≤ i → i < k → s.d < ((srt (xs.take k)).getD i z0).d) ∧ Below w.heap.size w wi ∧ wi.heap.size = sb + 1)) (fun i _ => (intOf i).toNat)
      case atStart =>
        obtain ⟨k1, ⟨rs, k2, k3⟩, k4, k5⟩ := HK.out
        have hq2 := Hq.out
        have hq3 : q < wa.heap.size := by omega
        exact ⟨k, rfl, by omega, ⟨k1.kept (H3.out.2.1.block _ (by omega)), H3.out.1, ⟨rs, k2.kept (H3.out.2.1.block _ hq3), Gap.start k3⟩, fun i h1 h2 => by omega, k4.trans (H3.out.2.1.mono k4.size), H3.out.2.2⟩⟩
      case round =>
        clear H3
        obtain ⟨j, rfl, hj, HJ⟩ := hrel
        obtain ⟨rs, hrw, hgp⟩ := HJ.out.2.2.1
        have HRS : Hid (Rg8 wr q rs ∧ Gap rs (srt (xs.take k)) j k) := ⟨hrw, hgp⟩
        have HCS : Hid (∀ i u, (smL s)[i]? = some u → wr.cell? ((⟨sb, 0, none⟩ : Addr).add i) = some u) := cells_of (l := smL s) HJ.out.2.1
        have HNE : Hid (w.heap.size ≠ q ∧ sb ≠ q ∧ q < wr.heap.size) := ⟨by have := Hq.out; omega, by have := Hsb.out; have := HK.out.2.2.2; omega, by have := HJ.out.2.2.2.2.2; have := Hsb.out; have := HK.out.2.2.2; omega⟩
        have hk8 : k < 8 := by omega
        have HFILL : Hid (ins (srt (xs.take k)) s = (srt (xs.take k)).take j ++ s :: (srt (xs.take k)).drop j → ∀ nq wz, wz = (wr.drewN nq).setRow q ((smF rs).take (j * 4) ++ smL s ++ (smF rs).drop (j * 4 + (smL s).length)).toArray → (Bk w.heap.size wz (smF (List.replicate 8 z0)).toArray 49 ∧ (∃ rs, Rg8 wz q rs ∧ rs.take (k + 1) = srt (xs.take (k + 1))) ∧ Below w.heap.size w wz ∧ q + 1 ≤ wz.heap.size)) := by
          intro hins nq wz hwz
          have h1 := (hrw.kept (w' := wr.drewN nq) rfl).set j (by omega) s
          rw [hwz]
          refine ⟨HJ.out.1.kept (setRow_other (wr.drewN nq) _ _ _ HNE.out.1), ⟨_, h1, ?_⟩, below_row (below_dr HJ.out.2.2.2.2.1 nq) (by have := Hq.out; omega) _, by have := HNE.out.2.2; simp [World.setRow]; omega⟩
          rw [hgp.fill hrw.len HX.out.2 (by omega) hk8, HX.out.1, hins]
        by_cases hj0 : (j : Int) = 0
        · have hj00 : j = 0 := by omega
          subst hj00
          have HIN := HFILL.out (ins_at s (srt_up _) 0 (Nat.zero_le _) (fun i hi _ => by have := HJ.out.2.2.2.1 i (Nat.zero_le _) (by have := HX.out.2; omega); rw [getD_lt _ _ hi] at this; exact this) (fun h => by omega))
          have HI : Hid _ := HIN
          have hix := ix_ring q 0 0 (by omega)
          clear hrw hgp hj0 HIN HFILL
          go_wp2_with (first | (refine step_ldat 27 _ rfl rfl ⟨sb, 0, none⟩ (by rfl) (smL s) _ Try.underlying27 rfl (by kernel_rfl) HCS.out ?_) | (refine wpList_stin rfl 27 _ _ rfl HRS.out.1.blk 0 (smL s) (by rfl) (by rfl) (by kernel_rfl) (by rw [smF_len, HRS.out.1.len]; show 0 + 4 ≤ 8 * 4; omega) (smL_one _) ?_))
          go_roundw
          case rel => exact ⟨k + 1, by go_num, by omega, HI.out 0 _ (by simp; rfl)⟩
          case measure => simp [intOf]; omega
        · obtain ⟨i, hi⟩ : ∃ i, i + 1 = j := ⟨j - 1, by omega⟩
          have ej : (j : Int) - 1 = (i : Int) := by omega
          have hjp : 0 < (j : Int) := by omega
          have hix1 := ix_ring q 0 i (by omega)
          have hix2 := ix_ring q 0 j (by omega)
          rw [Nat.zero_add] at hix1 hix2
          obtain ⟨x, hx⟩ : ∃ x, x = (srt (xs.take k)).getD i z0 := ⟨_, rfl⟩
          have ex : rs.getD i z0 = x := by rw [hx]; exact hgp.lo i (by omega)
          have c1 : wr.cell? ⟨q, i * 4 + 1, none⟩ = some (.int .i64 x.d) := by rw [← ex]; exact hrw.c1 i (by omega) 1 (by omega)
          have c2 : wr.cell? ⟨sb, 1, none⟩ = some (.int .i64 s.d) := HJ.out.2.1.cell 1
          have ew : IntKind.i64.wrap ((j : Int) - 1) = (i : Int) := by rw [IntKind.wrap_i64]; omega
          by_cases hd : x.d ≤ s.d
          · have HIN := HFILL.out (ins_at s (srt_up _) j (by have := HX.out.2; omega) (fun i' hi' h1 => by have := HJ.out.2.2.2.1 i' h1 (by have := HX.out.2; omega); rw [getD_lt _ _ hi'] at this; exact this) (fun h => by
              have e : j - 1 = i := by omega
              have hil : i < (srt (xs.take k)).length := by have := HX.out.2; omega
              rw [hx, getD_lt _ _ hil] at hd
              simp only [e]
              exact hd))
            have HI : Hid _ := HIN
            clear hrw hgp hj0 HIN HFILL hi hx ex
            go_wp2_with fail
            go_quiet (fail)
            go_wp2_with (first | (refine step_ldat 27 _ rfl rfl ⟨sb, 0, none⟩ (by rfl) (smL s) _ Try.underlying27 rfl (by kernel_rfl) HCS.out ?_) | (refine wpList_stin rfl 27 _ _ rfl HRS.out.1.blk (j * 4) (smL s) (by rfl) (by rfl) (by kernel_rfl) (by rw [smF_len, HRS.out.1.len]; show j * 4 + 4 ≤ 8 * 4; omega) (smL_one _) ?_))
            go_roundw
            case rel => exact ⟨k + 1, by go_num, by omega, HI.out nq _ (by simp)⟩
            case measure => simp [intOf]; omega
          · have HSt : Hid (∀ nq wz, wz = (wr.drewN nq).setRow q ((smF rs).take (j * 4) ++ smL x ++ (smF rs).drop (j * 4 + (smL x).length)).toArray → (Bk w.heap.size wz (smF (List.replicate 8 z0)).toArray 49 ∧ Bk sb wz (smL s).toArray 27 ∧ (∃ rs, Rg8 wz q rs ∧ Gap rs (srt (xs.take k)) i k) ∧ (∀ i', i ≤ i' → i' < k → s.d < ((srt (xs.take k)).getD i' z0).d) ∧ Below w.heap.size w wz ∧ wz.heap.size = sb + 1)) := by
              intro nq wz hwz
              have h1 := (hrw.kept (w' := wr.drewN nq) rfl).set j (by omega) x
              rw [hwz]
              refine ⟨HJ.out.1.kept (setRow_other (wr.drewN nq) _ _ _ HNE.out.1), HJ.out.2.1.kept (setRow_other (wr.drewN nq) _ _ _ HNE.out.2.1), ⟨_, h1, ?_⟩, fun i' h2 h3 => ?_, below_row (below_dr HJ.out.2.2.2.2.1 nq) (by have := Hq.out; omega) _, by have := HJ.out.2.2.2.2.2; simp [World.setRow]; exact this⟩
              · rw [← hi] at hgp ⊢
                rw [hx]
                exact hgp.step hrw.len (by omega)
              · by_cases e : i' = i
                · rw [e, ← hx]; omega
                · exact HJ.out.2.2.2.1 i' (by omega) h3
            have HCX : Hid (∀ nq a u, (smL x)[a]? = some u → (wr.drewN nq).cell? ((⟨q, i * 4, none⟩ : Addr).add a) = some u) := fun nq a u hu => by
              rw [← ex] at hu
              exact hrw.at i (by omega) a u hu
            clear hrw hgp hj0 HFILL hx ex
            go_wp2_with fail
            go_quiet (fail)
            go_wp2_with (first | (refine step_ldat 27 _ rfl rfl ⟨q, i * 4, none⟩ (by rfl) (smL x) _ Try.underlying27 rfl (by kernel_rfl) (HCX.out _) ?_) | (refine wpList_stin rfl 27 _ _ rfl HRS.out.1.blk (j * 4) (smL x) (by rfl) (by rfl) (by kernel_rfl) (by rw [smF_len, HRS.out.1.len]; show j * 4 + 4 ≤ 8 * 4; omega) (smL_one _) ?_))
            go_roundw
            case rel => exact ⟨i, rfl, by omega, HSt.out nq _ (by simp)⟩
            case measure => simp [intOf]; omega
    · have hkn : k = n := by omega
      subst hkn
      obtain ⟨k1, ⟨rs, k2, k3⟩, k4, k5⟩ := HK.out
      have HE : Hid (Bk w.heap.size wa (smF (List.replicate 8 z0)).toArray 49 ∧ Rg8 wa q rs ∧ rs.take k = srt xs ∧ Below w.heap.size w wa) := ⟨k1, k2, by rw [k3, HN.out, List.take_length], k4⟩
      have HCR : Hid (∀ a u, (smF rs)[a]? = some u → wa.cell? ((⟨q, 0, none⟩ : Addr).add a) = some u) := cells_of (l := smF rs) k2.blk
      have HLN : Hid ((Try.prog.info? 49).map (·.size) = some (smF rs).length) := by
        show _ = _
        rw [smF_len, k2.len]; kernel_rfl
      clear HK k1 k2 k3 k4 k5
      go_wp2_with (first | (refine step_ldat 49 _ rfl rfl ⟨q, 0, none⟩ (by rfl) (smF rs) _ Try.underlying49 rfl HLN.out HCR.out ?_) | (refine step_stR (by rfl) _ _ rfl w.heap.size (smF rs).toArray (by rfl) (by rfl) (smF (List.replicate 8 z0)).toArray (by simpa using HLN.out) (by simp [smF_len, HE.out.2.1.len]) (smF_all rs) HE.out.1 ?_))
      have hR5 := setRow_heap wa _ _ (smF rs).toArray _ _ HE.out.1
      have hB5 := below_row HE.out.2.2.2 (Nat.le_refl _) (smF rs).toArray
      rw [hQ.out, Exit.noGoto_ret]
      exact bodyPost_ret (v := .agg (smF rs).toArray) (results_cell_row Try.results17 _ _ w.heap.size _ _ (0, 0) _ (by rfl) hR5 Try.underlying49 rfl (by simpa using HLN.out)) rfl ⟨⟨rs, HE.out.2.1.len, HE.out.2.2.1, rfl⟩, hB5⟩
end Go.Proofs.Ytgkjgkdlcmmpoaa
