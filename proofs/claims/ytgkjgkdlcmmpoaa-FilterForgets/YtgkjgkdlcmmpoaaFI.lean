/- What Best tells. -/
import Derived.Test.YtgkjgkdlcmmpoaaFH
namespace Go.Proofs.Ytgkjgkdlcmmpoaa
open Go Go.RowKit Fi
/-- what is told, its cells -/
def bsL (o d p j a : Int) (n : Bool) : List Value := [.int .i64 o, .int .i64 d, .int .i64 p, .int .i64 j, .int .u64 a, .bool n]
theorem grownBy_new {a b : World} {r : Option Nat} (h : a.grownBy b r) (ad : Addr) (hge : a.heap.size ≤ ad.block) (v : Value) : a.grownBy (b.setCell ad v) r :=
  ⟨h.os, h.tape, h.output, by have := h.size; simpa using this, fun k hk hne => (Below.heap_setCell b ad v k (by omega)).trans (h.block k hk hne)⟩
theorem Fl.setNew {w : World} {p : Nat} {xs : List Smp} {t : Bool} {la : Int} (h : Fl w p xs t la) (ad : Addr) (hne : ad.block ≠ p) (v : Value) : Fl (w.setCell ad v) p xs t la := h.kept (Below.heap_setCell w ad v p (by omega))
theorem sub_ring (p n : Nat) (h2 : n ≤ 8) (u : World) : (Instr.sliceAt 49 (.pointer (some ⟨p, 0, none⟩)) none (some (.int .i64 (n : Int))) none).run Try.prog u = .ok (.slice (some ⟨p, 0, none⟩) n 8) u := by
  simp [Instr.sliceAt, Instr.sliceBounds, Instr.sliceBound, asIntOf, run_underlying Try.underlying49, h2, add_own, Instr.sureAddr]
set_option maxRecDepth 20000 in
set_option maxHeartbeats 1000000 in
theorem best_any (p : Nat) (xs : List Smp) (t : Bool) (la now : Int) (w : World) (h : Fl w p xs t la) (hp : 0 < xs.length) (ok : ∀ s ∈ xs, okS s) :
    Calls Try.prog 10 #[.pointer (some ⟨p, 0, none⟩), .int .u64 now] w fun e w' => e = .returned (.agg (bsL (fst (srt xs)).o (fst (srt xs)).d (ds (srt xs) now 8) (jt (srt xs)) (fst (srt xs)).a (nwB t la (fst (srt xs)).a)).toArray) ∧ Fl w' p xs (t || nwB t la (fst (srt xs)).a) (nwL t la (fst (srt xs)).a) ∧ w.grownBy w' (some p) := by
  have hc := h.c
  obtain ⟨n, hn⟩ : ∃ n, n = xs.length := ⟨_, rfl⟩
  rw [← hn] at hc hp
  have HN : Hid (n = xs.length) := hn
  have hn8 : (n : Int) ≤ 8 := by have := h.len; omega
  have hn0 : ¬ ((n : Int) = 0) := by omega
  have H : Hid (Fl w p xs t la) := h
  have HP : Hid (p < w.heap.size) := h.lt
  clear h hn
  have HX0 : Hid ((srt xs).length = n ∧ ∀ s ∈ srt xs, okS s) := ⟨by rw [srt_len]; exact HN.out.symm, fun s hs => ok s ((srt_perm xs).mem_iff.1 hs)⟩
  clear ok
  go_enter Try.func10, Try.ntmps10
  refine post_hid fun Q hQ => ?_
  refine seq_hid fun R hR => ?_
  go_wp2
  refine world_hid fun W0 hW0 => ?_
  have hB0 : Below w.heap.size w W0 := by rw [hW0.out]; exact (Below.refl _ _).alloc (Nat.le_refl _) _
  have HR0 : Hid (Bk w.heap.size W0 #[.int .i64 0, .int .i64 0, .int .i64 0, .int .i64 0, .int .u64 0, .bool false] 33) := by show Bk _ _ _ _; rw [hW0.out]; exact Bk.new _ _ _
  have g0 : W0.cell? ⟨p, 33, none⟩ = some (.int .i64 n) := (hB0.cell (p := ⟨p, 33, none⟩) HP.out).trans hc
  have HB0 : Hid (Below w.heap.size w W0) := hB0
  have HZ0 : Hid (w.heap.size < W0.heap.size) := by show w.heap.size < _; rw [hW0.out]; simp
  have HBD : Hid _ := byDelay_any p xs t la W0 (H.out.below hB0 HP.out)
  clear hW0 hB0 hc
  rw [hR.out]
  clear hR
  refine seq_hid fun R hR => ?_
  go_wp2
  rw [hR.out]
  clear hR
  refine seq_hid fun R hR => ?_
  go_wp2_with fail
  refine Calls.mono HBD.out ?_
  rintro e w2 ⟨⟨rs, hrl, hrt, rfl⟩, hb2⟩
  obtain ⟨rb, hrb⟩ : ∃ rb, w2.heap.size = rb := ⟨_, rfl⟩
  have HT : Hid ((w2.alloc (.cells #[.int .i64 0, .int .i64 0, .int .i64 0, .int .u64 0, .int .i64 0, .int .i64 0, .int .i64 0, .int .u64 0, .int .i64 0, .int .i64 0, .int .i64 0, .int .u64 0, .int .i64 0, .int .i64 0, .int .i64 0, .int .u64 0, .int .i64 0, .int .i64 0, .int .i64 0, .int .u64 0, .int .i64 0, .int .i64 0, .int .i64 0, .int .u64 0, .int .i64 0, .int .i64 0, .int .i64 0, .int .u64 0, .int .i64 0, .int .i64 0, .int .i64 0, .int .u64 0] 49)).heap[rb]? = some (.cells (smF (List.replicate 8 z0)).toArray 49 (0, 0))) := by
    have h0 := alloc_at w2 (.cells #[.int .i64 0, .int .i64 0, .int .i64 0, .int .u64 0, .int .i64 0, .int .i64 0, .int .i64 0, .int .u64 0, .int .i64 0, .int .i64 0, .int .i64 0, .int .u64 0, .int .i64 0, .int .i64 0, .int .i64 0, .int .u64 0, .int .i64 0, .int .i64 0, .int .i64 0, .int .u64 0, .int .i64 0, .int .i64 0, .int .i64 0, .int .u64 0, .int .i64 0, .int .i64 0, .int .i64 0, .int .u64 0, .int .i64 0, .int .i64 0, .int .i64 0, .int .u64 0] 49)
    rw [hrb] at h0
    exact h0
  have H2 : Hid (Below W0.heap.size W0 w2) := hb2
  have HRS : Hid (rs.length = 8 ∧ rs.take n = srt xs) := ⟨hrl, by rw [HN.out]; exact hrt⟩
  have HLN : Hid ((Try.prog.info? 49).map (·.size) = some (smF rs).toArray.size) := by
    show _ = _
    rw [List.size_toArray, smF_len, hrl]; kernel_rfl
  have HSZ : Hid ((smF (List.replicate 8 z0)).toArray.size = (smF rs).toArray.size) := by
    show _ = _
    rw [List.size_toArray, List.size_toArray, smF_len, smF_len, hrl]; rfl
  clear hb2 HBD hrl hrt
  go_wp2_with (refine step_stR (by rfl) _ _ rfl rb (smF rs).toArray (by rfl) (by rfl) (smF (List.replicate 8 z0)).toArray HLN.out HSZ.out (smF_all rs) HT.out ?_)
  refine world_hid fun W1 hW1 => ?_
  have HW1 : Hid (Rg8 W1 rb rs ∧ Below W0.heap.size W0 W1 ∧ W0.heap.size ≤ rb ∧ W1.heap.size = rb + 1) := by
    have e : W0.heap.size ≤ rb := by rw [← hrb]; exact H2.out.size
    refine ⟨⟨HRS.out.1, ?_⟩, ?_, e, ?_⟩
    · rw [hW1.out]; exact setRow_heap _ _ _ _ _ _ HT.out
    · rw [hW1.out]; exact below_row (H2.out.alloc (by have := H2.out.size; omega) _) e _
    · rw [hW1.out]; simp [World.setRow, hrb]
  have g1 : W1.cell? ⟨p, 33, none⟩ = some (.int .i64 n) := (HW1.out.2.1.cell (p := ⟨p, 33, none⟩) (by have := HP.out; have := HZ0.out; show p < _; omega)).trans g0
  clear hW1 HT H2 HLN HSZ g0 hrb
  rw [hR.out]
  clear hR
  refine seq_hid fun R hR => ?_
  have hsl := sub_ring rb n (by omega)
  go_wp2
  rw [hR.out]
  clear hR
  refine seq_hid fun R hR => ?_
  have hix0 : ∀ u, Sem.run Try.prog (Instr.indexAt 22 (.slice (some ⟨rb, 0, none⟩) n 8) (.int .i64 0)) u = .ok (.pointer (some ⟨rb, 0, none⟩)) u := fun u => ix_sl rb n 8 0 (by omega) u
  obtain ⟨x, hx⟩ : ∃ x, x = fst (srt xs) := ⟨_, rfl⟩
  rw [← hx] at hQ
  have HX : Hid (rs.getD 0 z0 = x) := by
    show _ = _
    rw [hx, ← HRS.out.2]
    unfold fst
    cases rs with
    | nil => have := HRS.out.1; simp at this
    | cons y r => obtain ⟨m, rfl⟩ : ∃ m, n = m + 1 := ⟨n - 1, by omega⟩
                  rfl
  have HC : Hid (∀ j u, (smL x)[j]? = some u → W1.cell? ((⟨rb, 0, none⟩ : Addr).add j) = some u) := fun j u hu => by
    rw [← HX.out] at hu
    exact HW1.out.1.at 0 (by omega) j u hu
  obtain ⟨fb, hfb⟩ : ∃ fb, W1.heap.size = fb := ⟨_, rfl⟩
  have HT : Hid ((W1.alloc (.cells #[.int .i64 0, .int .i64 0, .int .i64 0, .int .u64 0] 27)).heap[fb]? = some (.cells #[.int .i64 0, .int .i64 0, .int .i64 0, .int .u64 0] 27 (0, 0))) := by
    have h0 := alloc_at W1 (.cells #[.int .i64 0, .int .i64 0, .int .i64 0, .int .u64 0] 27)
    rw [hfb] at h0
    exact h0
  clear g1 hsl hx
  go_wp2_with (first | (refine step_ldat 27 _ rfl rfl ⟨rb, 0, none⟩ (by rfl) (smL x) _ Try.underlying27 rfl (by kernel_rfl) HC.out ?_) | (refine step_stR (by rfl) _ _ rfl fb (smL x).toArray (by rfl) (by rfl) #[.int .i64 0, .int .i64 0, .int .i64 0, .int .u64 0] (by kernel_rfl) (by rfl) (by kernel_rfl) HT.out ?_))
  refine world_hid fun W2 hW2 => ?_
  have HW2 : Hid (Bk fb W2 (smL x).toArray 27 ∧ Below W1.heap.size W1 W2 ∧ W2.heap.size = fb + 1) := by
    refine ⟨?_, ?_, ?_⟩
    · rw [hW2.out]; exact setRow_heap _ _ _ _ _ _ HT.out
    · rw [hW2.out]; exact below_row ((Below.refl _ _).alloc (Nat.le_refl _) _) (by rw [hfb]; exact Nat.le_refl _) _
    · rw [hW2.out]; simp [World.setRow, hfb]
  have HA : Hid (Bk w.heap.size W2 #[.int .i64 0, .int .i64 0, .int .i64 0, .int .i64 0, .int .u64 0, .bool false] 33 ∧ Sg W2 rb (srt xs) ∧ Fl W2 p xs t la ∧ Below w.heap.size w W2 ∧ w.heap.size < W2.heap.size) := by
    have b1 := HW1.out.2.1
    have b2 := HW2.out.2.1
    have z0' := HZ0.out
    have z1 := b1.size
    have z2 := b2.size
    have hp' := HP.out
    refine ⟨?_, ⟨?_, fun i hi j u hu => ?_⟩, ?_, ?_, by omega⟩
    · exact HR0.out.kept ((b2.block _ (by omega)).trans (b1.block _ z0'))
    · have := HW1.out.2.2.2; omega
    · have hi' : i < n := by rw [← HX0.out.1]; exact hi
      have e : (srt xs).getD i z0 = rs.getD i z0 := by rw [← HRS.out.2, List.getD_eq_getElem?_getD, List.getElem?_take_of_lt hi', ← List.getD_eq_getElem?_getD]
      rw [e] at hu
      exact (b2.cell (p := (⟨rb, i * 4, none⟩ : Addr).add j) (by rw [add_block]; show rb < _; have := HW1.out.2.2.2; omega)).trans (HW1.out.1.at i (by omega) j u hu)
    · exact H.out.kept ((b2.block _ (by omega)).trans ((b1.block _ (by omega)).trans (HB0.out.block _ hp')))
    · exact (HB0.out.trans (b1.mono (by omega))).trans (b2.mono (by omega))
  have HF : Hid (fb < W2.heap.size ∧ fb ≠ p ∧ w.heap.size < fb) := by
    have := HW1.out.2.1.size; have := HZ0.out; have := HP.out; have := HW2.out.2.2
    exact ⟨by omega, by omega, by omega⟩
  clear hW2 HT HC HW1 HR0 HZ0 HB0 HRS HX hfb hix0
  obtain ⟨D, hD⟩ : ∃ D, D = ds (srt xs) now 8 := ⟨_, rfl⟩
  obtain ⟨J, hJ⟩ : ∃ J, J = jt (srt xs) := ⟨_, rfl⟩
  obtain ⟨N, hN⟩ : ∃ N, N = nwB t la x.a := ⟨_, rfl⟩
  rw [← hD, ← hJ, ← hN] at hQ
  have HDi : Hid (∀ u, Below W2.heap.size W2 u → Calls Try.prog 18 #[.slice (some ⟨rb, 0, none⟩) n 8, .int .u64 now] u fun e w' => e = .returned (.int .i64 D) ∧ Below u.heap.size u w') := fun u hu => by
    rw [hD]; exact dispersion_any rb n 8 (srt xs) now u (HA.out.2.1.below hu HA.out.2.1.lt) HX0.out.1 HX0.out.2
  have HJi : Hid (∀ u, Below W2.heap.size W2 u → Calls Try.prog 19 #[.slice (some ⟨rb, 0, none⟩) n 8] u fun e w' => e = .returned (.int .i64 J) ∧ Below u.heap.size u w') := fun u hu => by
    rw [hJ]; exact jitter_any rb n 8 (srt xs) u (HA.out.2.1.below hu HA.out.2.1.lt) HX0.out.1 hn8 (by omega) HX0.out.2
  have HTe : Hid (∀ u, Below W2.heap.size W2 u → Calls Try.prog 20 #[.pointer (some ⟨p, 0, none⟩), .int .u64 x.a] u fun e w' => e = .returned (.bool N) ∧ Fl w' p xs (t || N) (nwL t la x.a) ∧ u.grownBy w' (some p)) := fun u hu => by
    rw [hN]; exact tell_any p xs t la x.a u (HA.out.2.2.1.below hu HA.out.2.2.1.lt)
  have c0 : W2.cell? ⟨fb, 0, none⟩ = some (.int .i64 x.o) := HW2.out.1.cell 0
  have c1 : W2.cell? ⟨fb, 1, none⟩ = some (.int .i64 x.d) := HW2.out.1.cell 1
  have c3 : W2.cell? ⟨fb, 3, none⟩ = some (.int .u64 x.a) := HW2.out.1.cell 3
  clear hD hJ hN
  rw [hR.out]
  clear hR
  refine seq_hid fun R hR => ?_
  go_wp2_with fail
  go_region_held3 (fun w' => w'.cell? ⟨fb, 0, none⟩ = some (.int .i64 x.o) ∧ w'.cell? ⟨fb, 1, none⟩ = some (.int .i64 x.d) ∧ w'.cell? ⟨fb, 3, none⟩ = some (.int .u64 x.a)) (first | with_reducible exact ⟨f0, f1, f3⟩ | with_reducible exact ⟨e0, e1, e3⟩ | with_reducible exact ⟨d0, d1, d3⟩ | go_keep) (first
    | (go_at_call 18; refine (HDi.out _ (by repeat' (first | with_reducible exact Below.refl _ _ | with_reducible refine Below.setCell ?_ (by first | (simp; done) | (simp; omega) | omega) _ | with_reducible refine below_drewN ?_ _ | with_reducible refine Below.drew ?_ | with_reducible refine Below.alloc ?_ (by first | (simp; done) | (simp; omega) | omega) _))).mono ?_; rintro e w5 ⟨rfl, hb5⟩; have HB5 : Hid (Below W2.heap.size W2 w5) := (by first | exact hb5 | exact Below.then ((Below.refl _ _).drew) hb5); have d0 := (HB5.out.cell (p := ⟨fb, 0, none⟩) HF.out.1).trans c0; have d1 := (HB5.out.cell (p := ⟨fb, 1, none⟩) HF.out.1).trans c1; have d3 := (HB5.out.cell (p := ⟨fb, 3, none⟩) HF.out.1).trans c3)
    | (go_at_call 19; refine (HJi.out _ (by repeat' (first | with_reducible exact Below.refl _ _ | with_reducible exact HB5.out | with_reducible refine Below.setCell ?_ (by first | (simp; done) | (simp; omega) | omega) _ | with_reducible refine below_drewN ?_ _ | with_reducible refine Below.drew ?_ | with_reducible refine Below.alloc ?_ (by first | (simp; done) | (simp; omega) | omega) _))).mono ?_; rintro e w6 ⟨rfl, hb6⟩; have HB6 : Hid (Below W2.heap.size W2 w6) := (by first | exact Below.then HB5.out hb6 | exact Below.then (HB5.out.drew) hb6); have e0 := (HB6.out.cell (p := ⟨fb, 0, none⟩) HF.out.1).trans c0; have e1 := (HB6.out.cell (p := ⟨fb, 1, none⟩) HF.out.1).trans c1; have e3 := (HB6.out.cell (p := ⟨fb, 3, none⟩) HF.out.1).trans c3)
    | (go_at_call 20; refine (HTe.out _ (by repeat' (first | with_reducible exact Below.refl _ _ | with_reducible exact HB6.out | with_reducible refine Below.setCell ?_ (by first | (simp; done) | (simp; omega) | omega) _ | with_reducible refine below_drewN ?_ _ | with_reducible refine Below.drew ?_ | with_reducible refine Below.alloc ?_ (by first | (simp; done) | (simp; omega) | omega) _))).mono ?_; rintro e w7 ⟨rfl, hl7, hg7⟩; have HG7 : Hid (Fl w7 p xs (t || N) (nwL t la x.a) ∧ W2.grownBy w7 (some p)) := ⟨hl7, (by first | exact grownBy_trans (grownBy_below HB6.out _) hg7 | exact grownBy_trans (grownBy_below HB6.out.drew _) hg7)⟩; have hk7 : Bk fb w7 (smL x).toArray 27 := HW2.out.1.kept (HG7.out.2.block _ HF.out.1 (fun e => HF.out.2.1 (Option.some.inj e))); have f0 : w7.cell? ⟨fb, 0, none⟩ = some (.int .i64 x.o) := hk7.cell 0; have f1 : w7.cell? ⟨fb, 1, none⟩ = some (.int .i64 x.d) := hk7.cell 1; have f3 : w7.cell? ⟨fb, 3, none⟩ = some (.int .u64 x.a) := hk7.cell 3; have hr7 : Bk w.heap.size w7 #[.int .i64 0, .int .i64 0, .int .i64 0, .int .i64 0, .int .u64 0, .bool false] 33 := HA.out.1.kept (HG7.out.2.block _ HA.out.2.2.2.2 (fun e => Nat.ne_of_gt HP.out (Option.some.inj e))); have r0 : w7.cell? ⟨w.heap.size, 0, none⟩ = some (.int .i64 0) := hr7.cell 0; have r1 : w7.cell? ⟨w.heap.size, 1, none⟩ = some (.int .i64 0) := hr7.cell 1; have r2 : w7.cell? ⟨w.heap.size, 2, none⟩ = some (.int .i64 0) := hr7.cell 2; have r3 : w7.cell? ⟨w.heap.size, 3, none⟩ = some (.int .i64 0) := hr7.cell 3; have r4 : w7.cell? ⟨w.heap.size, 4, none⟩ = some (.int .u64 0) := hr7.cell 4; have r5 : w7.cell? ⟨w.heap.size, 5, none⟩ = some (.bool false) := hr7.cell 5; have rf := hr7.frozen; have hne : ¬ (w.heap.size = fb) := Nat.ne_of_lt HF.out.2.2; have hne2 : ¬ (fb = w.heap.size) := Nat.ne_of_gt HF.out.2.2))
  generalize hW8 : World.setCell (World.setCell (World.setCell (World.setCell (World.setCell (World.setCell w7 _ _) _ _) _ _) _ _) _ _) _ _ = W8 at *
  have hr8 : Bk w.heap.size W8 (bsL x.o x.d D J x.a N).toArray 33 := by
    rw [← hW8]
    exact (((((hr7.set (j := 0) (.int .i64 x.o)).set (j := 1) (.int .i64 x.d)).set (j := 2) (.int .i64 D)).set (j := 3) (.int .i64 J)).set (j := 4) (.int .u64 x.a)).set (j := 5) (.bool N)
  have hn : w.heap.size ≠ p := Nat.ne_of_gt HP.out
  have hf8 : Fl W8 p xs (t || N) (nwL t la x.a) := by
    rw [← hW8]
    exact (((((HG7.out.1.setNew _ hn _).setNew _ hn _).setNew _ hn _).setNew _ hn _).setNew _ hn _).setNew _ hn _
  have hg8 : w.grownBy W8 (some p) := by
    rw [← hW8]
    have h0 : w.grownBy w7 (some p) := grownBy_trans (grownBy_below HA.out.2.2.2.1 _) HG7.out.2
    exact grownBy_new (grownBy_new (grownBy_new (grownBy_new (grownBy_new (grownBy_new h0 _ (Nat.le_refl _) _) _ (Nat.le_refl _) _) _ (Nat.le_refl _) _) _ (Nat.le_refl _) _) _ (Nat.le_refl _) _) _ (Nat.le_refl _) _
  clear hW8 f0 f1 f3 r0 r1 r2 r3 r4 r5 rf hr7 hk7 hl7 hg7 HG7 HDi HJi HTe c0 c1 c3
  go_wp2_with fail
  rw [hR.out]
  clear hR
  go_wp2_with fail
  rw [hQ.out]
  exact bodyPost_ret (v := .agg (bsL x.o x.d D J x.a N).toArray) (results_cell_row Try.results10 _ _ w.heap.size _ _ (0, 0) _ (by rfl) hr8 Try.underlying33 rfl (by kernel_rfl)) rfl ⟨rfl, hf8, hg8⟩
set_option maxRecDepth 20000 in
set_option maxHeartbeats 1000000 in
theorem best_none (p : Nat) (t : Bool) (la now : Int) (w : World) (h : Fl w p [] t la) :
    Calls Try.prog 10 #[.pointer (some ⟨p, 0, none⟩), .int .u64 now] w fun e w' => e = .returned (.agg (bsL 0 0 68719476736 0 0 false).toArray) ∧ Below w.heap.size w w' := by
  have hc : w.cell? ⟨p, 33, none⟩ = some (.int .i64 0) := h.c
  have hp := h.lt
  clear h
  go_enter Try.func10, Try.ntmps10
  refine post_hid fun Q hQ => ?_
  refine seq_hid fun R hR => ?_
  go_wp2
  refine world_hid fun W0 hW0 => ?_
  have hB0 : Below w.heap.size w W0 := by rw [hW0.out]; exact (Below.refl _ _).alloc (Nat.le_refl _) _
  have HR0 : Hid (Bk w.heap.size W0 #[.int .i64 0, .int .i64 0, .int .i64 0, .int .i64 0, .int .u64 0, .bool false] 33) := by show Bk _ _ _ _; rw [hW0.out]; exact Bk.new _ _ _
  have g0 : W0.cell? ⟨p, 33, none⟩ = some (.int .i64 0) := (hB0.cell (p := ⟨p, 33, none⟩) hp).trans hc
  have HB0 : Hid (Below w.heap.size w W0) := hB0
  clear hW0 hB0 hc hp
  rw [hR.out]
  clear hR
  refine seq_hid fun R hR => ?_
  go_wp2_with (refine step_stR (by rfl) _ _ rfl w.heap.size (bsL 0 0 68719476736 0 0 false).toArray (by rfl) (by rfl) #[.int .i64 0, .int .i64 0, .int .i64 0, .int .i64 0, .int .u64 0, .bool false] (by kernel_rfl) (by rfl) (by kernel_rfl) HR0.out ?_)
  rw [hQ.out]
  exact bodyPost_ret (v := .agg (bsL 0 0 68719476736 0 0 false).toArray) (results_cell_row Try.results10 _ _ w.heap.size _ _ (0, 0) _ (by rfl) (setRow_heap W0 _ _ _ _ _ HR0.out) Try.underlying33 rfl (by kernel_rfl)) rfl ⟨rfl, below_row HB0.out (Nat.le_refl _) _⟩
end Go.Proofs.Ytgkjgkdlcmmpoaa
