/- Candidate of the program, and of the reference. -/
import Derived.Test.YtlggademcmkihaaHCa
namespace Go.Proofs.Ytlggademcmkihaa
open Go Go.RowKit Go.Sort
set_option maxRecDepth 20000 in
set_option maxHeartbeats 1000000 in
theorem candidate_any (id : Int) (a : As) (t : Td) (b : Be) (now : Int) (w : World) (ht : okT t) (hb : okB' b) : Calls Try.prog 26 #[.int .i64 id, .agg (asL a).toArray, .agg (tdL t).toArray, .agg (beL b).toArray, .int .u64 now] w fun e w' => e = .returned (.agg (cdL (cdI id a t b now)).toArray) ∧ Below w.heap.size w w' := by
  unfold cdI
  obtain ⟨D, hD⟩ : ∃ D, dsI t b now = D := ⟨_, rfl⟩
  have CD : Hid (∀ u, Calls Try.prog 24 #[.agg (tdL t).toArray, .agg (beL b).toArray, .int .u64 now] u fun e w' => e = .returned (.int .i64 D) ∧ Below u.heap.size u w') := fun u => by rw [← hD]; exact distance_any t b now u ht hb
  rw [hD]
  clear hD ht hb
  go_enter Try.func26, Try.ntmps26
  refine post_hid fun Q hQ => ?_
  refine seq_hid fun R hR => ?_
  go_wp2
  refine world_hid fun W hW => ?_
  have HA : Hid (VG w W a t b 60) := by show VG _ _ _ _ _ _; rw [hW.out]; exact VG.new _ _ _ _ _
  clear hW
  rw [hR.out]
  clear hR
  refine seq_hid fun R hR => ?_
  go_wp2_with fail
  refine wp_region_allocB 14 _ (.cells (cdL cd0).toArray 71) (by rfl) (by decide) (by rfl) (by intro a u; go_simp; rfl) (by kernel_rfl) (fun g => by kernel_rfl) (fun g => by kernel_rfl) ?_
  intro g C D1 hC hG hD1
  simp only [idleLast, idle, List.set, laid]
  have al : Hid (∀ u, C u → VG w u a t b 60) := fun u hu => HA.out.step (hC u hu)
  have q0 : Hid (∀ u, C u → u.cell? ⟨w.heap.size + 2, 0, none⟩ = some (.int .i64 b.o)) := fun u hu => (al.out u hu).be.cell 0
  have q3 : Hid (∀ u, C u → u.cell? ⟨w.heap.size + 2, 3, none⟩ = some (.int .i64 b.j)) := fun u hu => (al.out u hu).be.cell 3
  have q1 : Hid (∀ u, C u → u.cell? ⟨w.heap.size + 1, 1, none⟩ = some (.int .i64 t.str)) := fun u hu => (al.out u hu).td.cell 1
  have q7 : Hid (∀ u, C u → u.cell? ⟨w.heap.size, 7, none⟩ = some (.bool a.pref)) := fun u hu => (al.out u hu).asc.cell 7
  have cl : Hid (∀ u, C u → Calls Try.prog 24 #[.agg (tdL t).toArray, .agg (beL b).toArray, .int .u64 now] u fun e w' => e = .returned (.int .i64 D) ∧ C w') := fun u hu => (CD.out u).mono fun e w' ⟨h1, h2⟩ => ⟨h1, hG u w' hu h2⟩
  refine QW.out ?_
  repeat (first
    | (refine qa_ldW (by rfl) 60 _ rfl ⟨w.heap.size + 1, 0, none⟩ (by rfl) (tdL t) _ Try.underlying60 rfl (by kernel_rfl) (fun u hu => cells_of (al.out u hu).td) ?_; try go_simp)
    | (refine qa_ldW (by rfl) 66 _ rfl ⟨w.heap.size + 2, 0, none⟩ (by rfl) (beL b) _ Try.underlying66 rfl (by kernel_rfl) (fun u hu => cells_of (al.out u hu).be) ?_; try go_simp)
    | (refine qa_valW (by rfl) ?_; apply Exists.intro; refine ⟨fun u hu => ?_, ?_⟩; ((have e0 := q0.out u hu; have e3 := q3.out u hu; have e1 := q1.out u hu; have e7 := q7.out u hu); go_simp; exact rfl); try go_simp)
    | (refine qa_callW (by rfl) 24 _ _ (fun u hu => by go_simp; try exact rfl) (fun u hu => cl.out u hu) ?_; try go_simp))
  refine qw_nil ?_
  intro u hu
  obtain ⟨d1, d2, d3, d4⟩ := hD1 u hu
  refine wpOp_st (g := g) (T := 71) _ (by rfl) rfl _ _ rfl (cdL (⟨id, b.o, D, b.j, t.str, a.pref, false⟩ : Cd)).toArray (by rfl) (by rfl) (cdL cd0).toArray d4 (by kernel_rfl) (by rfl) (cdL_one _) ?_
  have HF : Hid (VH w (u.setRow g (cdL (⟨id, b.o, D, b.j, t.str, a.pref, false⟩ : Cd)).toArray) a t b 60 g (⟨id, b.o, D, b.j, t.str, a.pref, false⟩ : Cd)) := by
    have h := HA.out.step d1
    have hr := HA.out.room.lt
    have ne : ∀ k, k ≤ w.heap.size + 3 → (u.setRow g (cdL (⟨id, b.o, D, b.j, t.str, a.pref, false⟩ : Cd)).toArray).heap[k]? = u.heap[k]? := fun k hk => setRow_other _ _ _ _ (by omega)
    exact ⟨⟨below_row h.below (by omega) _, h.asc.kept (ne _ (by omega)), h.td.kept (ne _ (by omega)), h.be.kept (ne _ (by omega)), h.room.kept (ne _ (by omega))⟩, setRow_heap _ _ _ _ _ _ d4, by omega⟩
  generalize u.setRow g (cdL (⟨id, b.o, D, b.j, t.str, a.pref, false⟩ : Cd)).toArray = W6 at HF ⊢
  clear q0 q1 q3 q7 cl al hC hG hD1 d1 d2 d3 d4 HA hu CD
  go_wp2_with fail
  rw [hR.out]
  clear hR
  have k0 : W6.cell? ⟨w.heap.size, 0, none⟩ = some (.int .i64 a.kind) := HF.out.vg.asc.cell 0
  have k9 : W6.cell? ⟨w.heap.size, 9, none⟩ = some (.bool a.pulse) := HF.out.vg.asc.cell 9
  have k11 : W6.cell? ⟨w.heap.size, 11, none⟩ = some (.int .i64 a.str) := HF.out.vg.asc.cell 11
  have kc4 : W6.cell? ⟨g, 4, none⟩ = some (.int .i64 t.str) := HF.out.cd.cell 4
  have kc6 : W6.cell? ⟨g, 6, none⟩ = some (.bool false) := HF.out.cd.cell 6
  have kf := HF.out.cd.frozen
  by_cases h6 : a.kind = 6
  · rw [h6] at k0
    simp only [h6, if_true] at hQ
    refine seq_hid fun R hR => ?_
    go_wp2
    go_region
    have HF : Hid (VH w ((W6.setCell ⟨g, 4, none⟩ (.int .i64 a.str)).setCell ⟨g, 6, none⟩ (.bool a.pulse)).drew a t b 60 g (⟨id, b.o, D, b.j, a.str, a.pref, a.pulse⟩ : Cd)) := ((HF.out.cell (c' := ⟨id, b.o, D, b.j, a.str, a.pref, false⟩) 4 (.int .i64 a.str) rfl).cell 6 (.bool a.pulse) rfl).drew
    generalize ((W6.setCell ⟨g, 4, none⟩ (.int .i64 a.str)).setCell ⟨g, 6, none⟩ (.bool a.pulse)).drew = W7 at HF ⊢
    clear k0 k9 k11 kc4 kc6 kf
    go_wp2_with fail
    rw [hR.out]
    clear hR
    go_wp2_with (first
      | (refine step_ldat 71 _ rfl rfl ⟨g, 0, none⟩ (by rfl) (cdL (⟨id, b.o, D, b.j, a.str, a.pref, a.pulse⟩ : Cd)) _ Try.underlying71 rfl (by kernel_rfl) (cells_of HF.out.cd) ?_)
      | (refine step_stR (by rfl) _ _ rfl (w.heap.size + 3) (cdL (⟨id, b.o, D, b.j, a.str, a.pref, a.pulse⟩ : Cd)).toArray (by rfl) (by rfl) (cdL cd0).toArray (by kernel_rfl) (by kernel_rfl) (cdL_one _) HF.out.vg.room ?_))
    rw [hQ.out]
    exact bodyPost_ret (v := .agg (cdL (⟨id, b.o, D, b.j, a.str, a.pref, a.pulse⟩ : Cd)).toArray) (results_cell_row Try.results26 _ _ (w.heap.size + 3) _ _ (0, 0) _ (by rfl) (setRow_heap _ _ _ _ _ _ HF.out.vg.room) Try.underlying71 rfl (by kernel_rfl)) rfl ⟨rfl, below_row HF.out.vg.below (by omega) _⟩
  · have h6' : (a.kind == 6) = false := by simpa using h6
    simp only [h6, if_false] at hQ
    go_wp2_with (first
      | (refine step_ldat 71 _ rfl rfl ⟨g, 0, none⟩ (by rfl) (cdL (⟨id, b.o, D, b.j, t.str, a.pref, false⟩ : Cd)) _ Try.underlying71 rfl (by kernel_rfl) (cells_of HF.out.cd) ?_)
      | (refine step_stR (by rfl) _ _ rfl (w.heap.size + 3) (cdL (⟨id, b.o, D, b.j, t.str, a.pref, false⟩ : Cd)).toArray (by rfl) (by rfl) (cdL cd0).toArray (by kernel_rfl) (by kernel_rfl) (cdL_one _) HF.out.vg.room ?_))
    rw [hQ.out]
    exact bodyPost_ret (v := .agg (cdL (⟨id, b.o, D, b.j, t.str, a.pref, false⟩ : Cd)).toArray) (results_cell_row Try.results26 _ _ (w.heap.size + 3) _ _ (0, 0) _ (by rfl) (setRow_heap _ _ _ _ _ _ HF.out.vg.room) Try.underlying71 rfl (by kernel_rfl)) rfl ⟨rfl, below_row HF.out.vg.below (by omega) _⟩
set_option maxRecDepth 20000 in
set_option maxHeartbeats 1000000 in
theorem rcandidate_any (id : Int) (a : As) (t : Td) (b : Be) (now : Int) (w : World) (ht : okT t) (hb : okB' b) : Calls Try.prog 27 #[.int .i64 id, .agg (asL a).toArray, .agg (tdL t).toArray, .agg (beL b).toArray, .int .u64 now] w fun e w' => e = .returned (.agg (cdL (cdI id a t b now)).toArray) ∧ Below w.heap.size w w' := by
  unfold cdI
  obtain ⟨D, hD⟩ : ∃ D, dsI t b now = D := ⟨_, rfl⟩
  have CD : Hid (∀ u, Calls Try.prog 25 #[.agg (tdL t).toArray, .agg (beL b).toArray, .int .u64 now] u fun e w' => e = .returned (.int .i64 D) ∧ Below u.heap.size u w') := fun u => by rw [← hD]; exact rdistance_any t b now u ht hb
  rw [hD]
  clear hD ht hb
  go_enter Try.func27, Try.ntmps27
  refine post_hid fun Q hQ => ?_
  refine seq_hid fun R hR => ?_
  go_wp2
  refine world_hid fun W hW => ?_
  have HA : Hid (VG w W a t b 58) := by show VG _ _ _ _ _ _; rw [hW.out]; exact VG.new _ _ _ _ _
  clear hW
  rw [hR.out]
  clear hR
  refine seq_hid fun R hR => ?_
  go_wp2_with fail
  refine wp_region_allocB 14 _ (.cells (cdL cd0).toArray 71) (by rfl) (by decide) (by rfl) (by intro a u; go_simp; rfl) (by kernel_rfl) (fun g => by kernel_rfl) (fun g => by kernel_rfl) ?_
  intro g C D1 hC hG hD1
  simp only [idleLast, idle, List.set, laid]
  have al : Hid (∀ u, C u → VG w u a t b 58) := fun u hu => HA.out.step (hC u hu)
  have q0 : Hid (∀ u, C u → u.cell? ⟨w.heap.size + 2, 0, none⟩ = some (.int .i64 b.o)) := fun u hu => (al.out u hu).be.cell 0
  have q3 : Hid (∀ u, C u → u.cell? ⟨w.heap.size + 2, 3, none⟩ = some (.int .i64 b.j)) := fun u hu => (al.out u hu).be.cell 3
  have q1 : Hid (∀ u, C u → u.cell? ⟨w.heap.size + 1, 1, none⟩ = some (.int .i64 t.str)) := fun u hu => (al.out u hu).td.cell 1
  have q7 : Hid (∀ u, C u → u.cell? ⟨w.heap.size, 7, none⟩ = some (.bool a.pref)) := fun u hu => (al.out u hu).asc.cell 7
  have cl : Hid (∀ u, C u → Calls Try.prog 25 #[.agg (tdL t).toArray, .agg (beL b).toArray, .int .u64 now] u fun e w' => e = .returned (.int .i64 D) ∧ C w') := fun u hu => (CD.out u).mono fun e w' ⟨h1, h2⟩ => ⟨h1, hG u w' hu h2⟩
  refine QW.out ?_
  repeat (first
    | (refine qa_ldW (by rfl) 58 _ rfl ⟨w.heap.size + 1, 0, none⟩ (by rfl) (tdL t) _ Try.underlying58 rfl (by kernel_rfl) (fun u hu => cells_of (al.out u hu).td) ?_; try go_simp)
    | (refine qa_ldW (by rfl) 66 _ rfl ⟨w.heap.size + 2, 0, none⟩ (by rfl) (beL b) _ Try.underlying66 rfl (by kernel_rfl) (fun u hu => cells_of (al.out u hu).be) ?_; try go_simp)
    | (refine qa_valW (by rfl) ?_; apply Exists.intro; refine ⟨fun u hu => ?_, ?_⟩; ((have e0 := q0.out u hu; have e3 := q3.out u hu; have e1 := q1.out u hu; have e7 := q7.out u hu); go_simp; exact rfl); try go_simp)
    | (refine qa_callW (by rfl) 25 _ _ (fun u hu => by go_simp; try exact rfl) (fun u hu => cl.out u hu) ?_; try go_simp))
  refine qw_nil ?_
  intro u hu
  obtain ⟨d1, d2, d3, d4⟩ := hD1 u hu
  refine wpOp_st (g := g) (T := 71) _ (by rfl) rfl _ _ rfl (cdL (⟨id, b.o, D, b.j, t.str, a.pref, false⟩ : Cd)).toArray (by rfl) (by rfl) (cdL cd0).toArray d4 (by kernel_rfl) (by rfl) (cdL_one _) ?_
  have HF : Hid (VH w (u.setRow g (cdL (⟨id, b.o, D, b.j, t.str, a.pref, false⟩ : Cd)).toArray) a t b 58 g (⟨id, b.o, D, b.j, t.str, a.pref, false⟩ : Cd)) := by
    have h := HA.out.step d1
    have hr := HA.out.room.lt
    have ne : ∀ k, k ≤ w.heap.size + 3 → (u.setRow g (cdL (⟨id, b.o, D, b.j, t.str, a.pref, false⟩ : Cd)).toArray).heap[k]? = u.heap[k]? := fun k hk => setRow_other _ _ _ _ (by omega)
    exact ⟨⟨below_row h.below (by omega) _, h.asc.kept (ne _ (by omega)), h.td.kept (ne _ (by omega)), h.be.kept (ne _ (by omega)), h.room.kept (ne _ (by omega))⟩, setRow_heap _ _ _ _ _ _ d4, by omega⟩
  generalize u.setRow g (cdL (⟨id, b.o, D, b.j, t.str, a.pref, false⟩ : Cd)).toArray = W6 at HF ⊢
  clear q0 q1 q3 q7 cl al hC hG hD1 d1 d2 d3 d4 HA hu CD
  go_wp2_with fail
  rw [hR.out]
  clear hR
  have k0 : W6.cell? ⟨w.heap.size, 0, none⟩ = some (.int .i64 a.kind) := HF.out.vg.asc.cell 0
  have k9 : W6.cell? ⟨w.heap.size, 9, none⟩ = some (.bool a.pulse) := HF.out.vg.asc.cell 9
  have k11 : W6.cell? ⟨w.heap.size, 11, none⟩ = some (.int .i64 a.str) := HF.out.vg.asc.cell 11
  have kc4 : W6.cell? ⟨g, 4, none⟩ = some (.int .i64 t.str) := HF.out.cd.cell 4
  have kc6 : W6.cell? ⟨g, 6, none⟩ = some (.bool false) := HF.out.cd.cell 6
  have kf := HF.out.cd.frozen
  by_cases h6 : a.kind = 6
  · rw [h6] at k0
    simp only [h6, if_true] at hQ
    refine seq_hid fun R hR => ?_
    go_wp2
    go_region
    have HF : Hid (VH w ((W6.setCell ⟨g, 4, none⟩ (.int .i64 a.str)).setCell ⟨g, 6, none⟩ (.bool a.pulse)).drew a t b 58 g (⟨id, b.o, D, b.j, a.str, a.pref, a.pulse⟩ : Cd)) := ((HF.out.cell (c' := ⟨id, b.o, D, b.j, a.str, a.pref, false⟩) 4 (.int .i64 a.str) rfl).cell 6 (.bool a.pulse) rfl).drew
    generalize ((W6.setCell ⟨g, 4, none⟩ (.int .i64 a.str)).setCell ⟨g, 6, none⟩ (.bool a.pulse)).drew = W7 at HF ⊢
    clear k0 k9 k11 kc4 kc6 kf
    go_wp2_with fail
    rw [hR.out]
    clear hR
    go_wp2_with (first
      | (refine step_ldat 71 _ rfl rfl ⟨g, 0, none⟩ (by rfl) (cdL (⟨id, b.o, D, b.j, a.str, a.pref, a.pulse⟩ : Cd)) _ Try.underlying71 rfl (by kernel_rfl) (cells_of HF.out.cd) ?_)
      | (refine step_stR (by rfl) _ _ rfl (w.heap.size + 3) (cdL (⟨id, b.o, D, b.j, a.str, a.pref, a.pulse⟩ : Cd)).toArray (by rfl) (by rfl) (cdL cd0).toArray (by kernel_rfl) (by kernel_rfl) (cdL_one _) HF.out.vg.room ?_))
    rw [hQ.out]
    exact bodyPost_ret (v := .agg (cdL (⟨id, b.o, D, b.j, a.str, a.pref, a.pulse⟩ : Cd)).toArray) (results_cell_row Try.results27 _ _ (w.heap.size + 3) _ _ (0, 0) _ (by rfl) (setRow_heap _ _ _ _ _ _ HF.out.vg.room) Try.underlying71 rfl (by kernel_rfl)) rfl ⟨rfl, below_row HF.out.vg.below (by omega) _⟩
  · have h6' : (a.kind == 6) = false := by simpa using h6
    simp only [h6, if_false] at hQ
    go_wp2_with (first
      | (refine step_ldat 71 _ rfl rfl ⟨g, 0, none⟩ (by rfl) (cdL (⟨id, b.o, D, b.j, t.str, a.pref, false⟩ : Cd)) _ Try.underlying71 rfl (by kernel_rfl) (cells_of HF.out.cd) ?_)
      | (refine step_stR (by rfl) _ _ rfl (w.heap.size + 3) (cdL (⟨id, b.o, D, b.j, t.str, a.pref, false⟩ : Cd)).toArray (by rfl) (by rfl) (cdL cd0).toArray (by kernel_rfl) (by kernel_rfl) (cdL_one _) HF.out.vg.room ?_))
    rw [hQ.out]
    exact bodyPost_ret (v := .agg (cdL (⟨id, b.o, D, b.j, t.str, a.pref, false⟩ : Cd)).toArray) (results_cell_row Try.results27 _ _ (w.heap.size + 3) _ _ (0, 0) _ (by rfl) (setRow_heap _ _ _ _ _ _ HF.out.vg.room) Try.underlying71 rfl (by kernel_rfl)) rfl ⟨rfl, below_row HF.out.vg.below (by omega) _⟩
end Go.Proofs.Ytlggademcmkihaa
