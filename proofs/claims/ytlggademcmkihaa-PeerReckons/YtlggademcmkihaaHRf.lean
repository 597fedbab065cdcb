/- PeerReckons, walked. -/
import Derived.Test.YtlggademcmkihaaHCb
import Derived.Test.YtlggademcmkihaaHZ
namespace Go.Proofs.Ytlggademcmkihaa
open Go Go.RowKit Go.Sort
set_option maxRecDepth 20000 in
set_option maxHeartbeats 400000 in
theorem ltold_any (t : Td) (w : World) : Calls Try.prog 18 #[.agg (tdL t).toArray] w fun e w' => e = .returned (.agg (tdL t).toArray) ∧ Below w.heap.size w w' := by
  go_enter Try.func18, Try.ntmps18
  refine post_hid fun Q hQ => ?_
  refine seq_hid fun R hR => ?_
  go_wp2
  refine world_hid fun W hW => ?_
  have hB : Below w.heap.size w W := by rw [hW.out]; exact ((Below.refl _ _).alloc (Nat.le_refl _) _).alloc (by simp) _
  have hK : Bk w.heap.size W (tdL t).toArray 60 := by rw [hW.out]; exact (Bk.new w _ _).kept (((Below.refl _ _).alloc (Nat.le_refl _) _).block _ (by simp))
  have HZ : Hid (Bk (w.heap.size + 1) W tdZ 58) := by
    show Bk _ _ _ _
    rw [hW.out]
    have := Bk.new (w.alloc (.cells (tdL t).toArray 60)) tdZ 58
    rw [size_alloc1] at this
    exact this
  have HT : Hid (∀ j u, (tdL t)[j]? = some u → W.cell? ((⟨w.heap.size, 0, none⟩ : Addr).add j) = some u) := cells_of hK
  have HB : Hid (Below w.heap.size w W) := hB
  clear hW hB hK
  rw [hR.out]
  clear hR
  go_wp2_with (first
    | (refine step_ldat 60 _ rfl rfl ⟨w.heap.size, 0, none⟩ (by rfl) (tdL t) _ Try.underlying60 rfl (by kernel_rfl) HT.out ?_)
    | (refine step_stR (by rfl) _ _ rfl (w.heap.size + 1) (tdL t).toArray (by rfl) (by rfl) tdZ (by kernel_rfl) (by kernel_rfl) (tdL_one _) HZ.out ?_))
  rw [hQ.out]
  exact bodyPost_ret (v := .agg (tdL t).toArray) (results_cell_row Try.results18 _ _ (w.heap.size + 1) _ _ (0, 0) _ (by rfl) (setRow_heap _ _ _ _ _ _ HZ.out) Try.underlying58 rfl (by kernel_rfl)) rfl ⟨rfl, below_row HB.out (Nat.le_succ _) _⟩
/-- what was handed in, in the call's first five blocks -/
structure VR (w W : World) (s0 s1 s2 s3 : Int) (q : Pk) (t : Td) (b : Be) (a : As) : Prop where
  below : Below w.heap.size w W
  ar : Bk w.heap.size W #[.int .u64 s0, .int .u64 s1, .int .u64 s2, .int .u64 s3] 24
  pk : Kb W (w.heap.size + 1) q
  td : Bk (w.heap.size + 2) W (tdL t).toArray 60
  be : Bk (w.heap.size + 3) W (beL b).toArray 66
  asc : Bk (w.heap.size + 4) W (asL a).toArray 31
theorem VR.step {w W W' : World} {s0 s1 s2 s3 : Int} {q : Pk} {t : Td} {b : Be} {a : As} (h : VR w W s0 s1 s2 s3 q t b a) (hb : Below W.heap.size W W') : VR w W' s0 s1 s2 s3 q t b a :=
  ⟨h.below.trans (hb.mono h.below.size), h.ar.kept (hb.block _ h.ar.lt), h.pk.kept (hb.block _ h.pk.lt), h.td.kept (hb.block _ h.td.lt), h.be.kept (hb.block _ h.be.lt), h.asc.kept (hb.block _ h.asc.lt)⟩
theorem VR.new (w : World) (s0 s1 s2 s3 : Int) (q : Pk) (t : Td) (b : Be) (a : As) : VR w (((((w.alloc (.cells #[.int .u64 s0, .int .u64 s1, .int .u64 s2, .int .u64 s3] 24)).alloc (.cells (pkC q).toArray 44)).alloc (.cells (tdL t).toArray 60)).alloc (.cells (beL b).toArray 66)).alloc (.cells (asL a).toArray 31)) s0 s1 s2 s3 q t b a := by
  obtain ⟨w1, h1⟩ : ∃ w1, w.alloc (.cells #[.int .u64 s0, .int .u64 s1, .int .u64 s2, .int .u64 s3] 24) = w1 := ⟨_, rfl⟩
  obtain ⟨w2, h2⟩ : ∃ w2, w1.alloc (.cells (pkC q).toArray 44) = w2 := ⟨_, rfl⟩
  obtain ⟨w3, h3⟩ : ∃ w3, w2.alloc (.cells (tdL t).toArray 60) = w3 := ⟨_, rfl⟩
  obtain ⟨w4, h4⟩ : ∃ w4, w3.alloc (.cells (beL b).toArray 66) = w4 := ⟨_, rfl⟩
  rw [h1, h2, h3, h4]
  have s1' : w1.heap.size = w.heap.size + 1 := by rw [← h1]; simp
  have s2' : w2.heap.size = w.heap.size + 2 := by rw [← h2]; simp [s1']
  have s3' : w3.heap.size = w.heap.size + 3 := by rw [← h3]; simp [s2']
  have s4' : w4.heap.size = w.heap.size + 4 := by rw [← h4]; simp [s3']
  have b1 : Below w.heap.size w w1 := by rw [← h1]; exact (Below.refl _ _).alloc (Nat.le_refl _) _
  have b2 : Below w1.heap.size w1 w2 := by rw [← h2]; exact (Below.refl _ _).alloc (Nat.le_refl _) _
  have b3 : Below w2.heap.size w2 w3 := by rw [← h3]; exact (Below.refl _ _).alloc (Nat.le_refl _) _
  have b4 : Below w3.heap.size w3 w4 := by rw [← h4]; exact (Below.refl _ _).alloc (Nat.le_refl _) _
  have b5 : Below w4.heap.size w4 (w4.alloc (.cells (asL a).toArray 31)) := (Below.refl _ _).alloc (Nat.le_refl _) _
  have k1 : Bk w.heap.size w1 #[.int .u64 s0, .int .u64 s1, .int .u64 s2, .int .u64 s3] 24 := by rw [← h1]; exact Bk.new _ _ _
  have k2 : Bk w1.heap.size w2 (pkC q).toArray 44 := by rw [← h2]; exact Bk.new _ _ _
  have k3 : Bk w2.heap.size w3 (tdL t).toArray 60 := by rw [← h3]; exact Bk.new _ _ _
  have k4 : Bk w3.heap.size w4 (beL b).toArray 66 := by rw [← h4]; exact Bk.new _ _ _
  have k5 := Bk.new w4 (asL a).toArray 31
  refine ⟨Below.then (Below.then (Below.then (Below.then b1 b2) b3) b4) b5, (((k1.kept (b2.block _ k1.lt)).kept (b3.block _ (by omega))).kept (b4.block _ (by omega))).kept (b5.block _ (by omega)), ?_, ?_, ?_, ?_⟩
  · rw [← s1']; exact ((k2.kept (b3.block _ k2.lt)).kept (b4.block _ (by omega))).kept (b5.block _ (by omega))
  · rw [← s2']; exact (k3.kept (b4.block _ k3.lt)).kept (b5.block _ (by omega))
  · rw [← s3']; exact k4.kept (b5.block _ k4.lt)
  · rw [← s4']; exact k5
set_option maxRecDepth 20000 in
theorem eq_cand (c : Cd) (o : Oper) (a : Act) (x y : Operand) (ho : o.op = .binOp .eql 71 x y 71) (hx : a.eval x = .agg (cdL c).toArray) (hy : a.eval y = .agg (cdL c).toArray) (u : World) : (execOp a.eval o).run Try.prog u = .ok (.value (.bool true)) u := by
  obtain ⟨i, p, d, j, s, f, l⟩ := c
  unfold cdL at hx hy
  unfold execOp
  simp only [ho, hx, hy]
  go_simp
theorem wp_region_grown {id : Nat} {Q : Exit → Act → World → Prop} {a : Act} {w : World} {l : List Oper} (hm : Try.prog.follows .mixedOrders = true) (hB : Region.lexB .any l.toArray = true)
    (h : ∀ C : World → Prop, (∀ u, C u → Gr w u) → (∀ u u', C u → Gr u u' → C u') → wpQuiet Try.prog l.toArray C (fun a' => ∀ w', Gr w w' → Q .normal a' w') l a) : (Code.region id l.toArray true).wp Try.prog Q a w :=
  wp_region_quiet (C := Gr w) hm hB ((Below.refl _ _).drew) (by simpa using h (Gr w) (fun u h => h) (fun u u' h k => h.trans k))
set_option maxRecDepth 20000 in
set_option maxHeartbeats 2000000 in
theorem PeerReckons_row (s0 s1 s2 s3 : Int) (q : Pk) (own : Int) (t : Td) (b : Be) (a : As) (id : Int) (w : World) (hq : okP q) (ht : okT t) (hb : okB' b) :
    Calls Try.prog 5 #[.agg #[.int .u64 s0, .int .u64 s1, .int .u64 s2, .int .u64 s3], .agg (pkC q).toArray, .int .u32 own, .agg (tdL t).toArray, .agg (beL b).toArray, .agg (asL a).toArray, .int .i64 id] w fun e w' => e = .returned (.bool true) ∧ Below w.heap.size w w' := by
  obtain ⟨O, hO⟩ : ∃ O, exO s0 s1 s2 s3 = O := ⟨_, rfl⟩
  obtain ⟨D, hD⟩ : ∃ D, exD s0 s1 s2 s3 = D := ⟨_, rfl⟩
  obtain ⟨V, hV⟩ : ∃ V, hdI q own = V := ⟨_, rfl⟩
  obtain ⟨S, hS⟩ : ∃ S, dsI t b s0 = S := ⟨_, rfl⟩
  obtain ⟨c, hc⟩ : ∃ c, cdI id a t b s0 = c := ⟨_, rfl⟩
  have X1 : Hid (∀ u, Calls Try.prog 9 #[.int .u64 s0, .int .u64 s1, .int .u64 s2, .int .u64 s3] u fun e w' => e = .returned (.tuple #[.int .i64 O, .int .i64 D]) ∧ w' = u) := fun u => by rw [← hO, ← hD]; exact exchange_any _ _ _ _ u
  have X2 : Hid (∀ u, Calls Try.prog 21 #[.int .u64 s0, .int .u64 s1, .int .u64 s2, .int .u64 s3] u fun e w' => e = .returned (.tuple #[.int .i64 O, .int .i64 D]) ∧ Below u.heap.size u w') := fun u => by rw [← hO, ← hD]; exact rexchange_any _ _ _ _ u
  have H1 : Hid (∀ u, Calls Try.prog 10 #[] u fun e w' => e = .returned (.bool true) ∧ Below u.heap.size u w') := shown_any
  have Y1 : Hid (∀ u, Calls Try.prog 22 #[.agg (pkC q).toArray, .int .u32 own] u fun e w' => e = .returned (.int .i64 V) ∧ Below u.heap.size u w') := fun u => by rw [← hV]; exact header_any q own u hq
  have Y2 : Hid (∀ u, Calls Try.prog 23 #[.agg (pkC q).toArray, .int .u32 own] u fun e w' => e = .returned (.int .i64 V) ∧ Below u.heap.size u w') := fun u => by rw [← hV]; exact rheader_any q own u hq
  have Y3 : Hid (∀ u, Calls Try.prog 24 #[.agg (tdL t).toArray, .agg (beL b).toArray, .int .u64 s0] u fun e w' => e = .returned (.int .i64 S) ∧ Below u.heap.size u w') := fun u => by rw [← hS]; exact distance_any t b s0 u ht hb
  have Y4 : Hid (∀ u, Calls Try.prog 25 #[.agg (tdL t).toArray, .agg (beL b).toArray, .int .u64 s0] u fun e w' => e = .returned (.int .i64 S) ∧ Below u.heap.size u w') := fun u => by rw [← hS]; exact rdistance_any t b s0 u ht hb
  have Y5 : Hid (∀ u, Calls Try.prog 26 #[.int .i64 id, .agg (asL a).toArray, .agg (tdL t).toArray, .agg (beL b).toArray, .int .u64 s0] u fun e w' => e = .returned (.agg (cdL c).toArray) ∧ Below u.heap.size u w') := fun u => by rw [← hc]; exact candidate_any id a t b s0 u ht hb
  have Y6 : Hid (∀ u, Calls Try.prog 27 #[.int .i64 id, .agg (asL a).toArray, .agg (tdL t).toArray, .agg (beL b).toArray, .int .u64 s0] u fun e w' => e = .returned (.agg (cdL c).toArray) ∧ Below u.heap.size u w') := fun u => by rw [← hc]; exact rcandidate_any id a t b s0 u ht hb
  have Y7 : Hid (∀ u, Calls Try.prog 18 #[.agg (tdL t).toArray] u fun e w' => e = .returned (.agg (tdL t).toArray) ∧ Below u.heap.size u w') := ltold_any t
  clear hO hD hV hS hc hq ht hb
  go_enter Try.func5, Try.ntmps5
  refine post_hid fun Q hQ => ?_
  refine seq_hid fun R hR => ?_
  go_wp2
  refine world_hid fun W hW => ?_
  have HA : Hid (VR w W s0 s1 s2 s3 q t b a) := by show VR _ _ _ _ _ _ _ _ _ _; rw [hW.out]; exact VR.new _ _ _ _ _ _ _ _ _
  clear hW
  rw [hR.out]
  clear hR
  refine seq_hid fun R hR => ?_
  go_wp2_with (go_at_call 10; refine (H1.out _).mono ?_; rintro e w1 ⟨rfl, hb1⟩; have HA : Hid (VR w w1 s0 s1 s2 s3 q t b a) := VR.step HA.out hb1; clear hb1)
  rw [hR.out]
  clear hR H1
  refine seq_hid fun R hR => ?_
  have k0 : w1.cell? ⟨w.heap.size, 0, none⟩ = some (.int .u64 s0) := HA.out.ar.cell 0
  have k1 : w1.cell? ⟨w.heap.size, 1, none⟩ = some (.int .u64 s1) := HA.out.ar.cell 1
  have k2 : w1.cell? ⟨w.heap.size, 2, none⟩ = some (.int .u64 s2) := HA.out.ar.cell 2
  have k3 : w1.cell? ⟨w.heap.size, 3, none⟩ = some (.int .u64 s3) := HA.out.ar.cell 3
  go_wp2_with (go_at_call 9; refine (X1.out _).mono ?_; rintro e wq ⟨rfl, hwq⟩; rw [hwq]; clear hwq)
  rw [hR.out]
  clear hR X1
  refine seq_hid fun R hR => ?_
  go_wp2_with (go_at_call 21; refine (X2.out _).mono ?_; rintro e w2 ⟨rfl, hb2⟩; have HA : Hid (VR w w2 s0 s1 s2 s3 q t b a) := VR.step HA.out hb2; clear hb2)
  rw [hR.out]
  clear hR X2 k0 k1 k2 k3
  go_wp2_with fail
  refine wp_region_grown (by kernel_rfl) (by kernel_rfl) ?_
  intro C hC hG
  have al : Hid (∀ u, C u → VR w u s0 s1 s2 s3 q t b a) := fun u hu => HA.out.step (hC u hu)
  have q0 : Hid (∀ u, C u → u.cell? ⟨w.heap.size, 0, none⟩ = some (.int .u64 s0)) := fun u hu => (al.out u hu).ar.cell 0
  have cg : ∀ {f args v}, Hid (∀ u, Calls Try.prog f args u fun e w' => e = .returned v ∧ Below u.heap.size u w') → Hid (∀ u, C u → Calls Try.prog f args u fun e w' => e = .returned v ∧ C w') := fun h u hu => (h.out u).mono fun e w' ⟨h1, h2⟩ => ⟨h1, hG u w' hu h2⟩
  have Z1 := cg Y1
  have Z2 := cg Y2
  have Z3 := cg Y3
  have Z4 := cg Y4
  have Z5 := cg Y5
  have Z6 := cg Y6
  have Z7 := cg Y7
  clear cg Y1 Y2 Y3 Y4 Y5 Y6 Y7
  refine QW.out ?_
  repeat (first
    | (refine qa_ldW (by rfl) 44 _ rfl ⟨w.heap.size + 1, 0, none⟩ (by rfl) (pkC q) _ Try.underlying44 rfl (by kernel_rfl) (fun u hu => cells_of (al.out u hu).pk) ?_; try go_simp)
    | (refine qa_ldW (by rfl) 60 _ rfl ⟨w.heap.size + 2, 0, none⟩ (by rfl) (tdL t) _ Try.underlying60 rfl (by kernel_rfl) (fun u hu => cells_of (al.out u hu).td) ?_; try go_simp)
    | (refine qa_ldW (by rfl) 66 _ rfl ⟨w.heap.size + 3, 0, none⟩ (by rfl) (beL b) _ Try.underlying66 rfl (by kernel_rfl) (fun u hu => cells_of (al.out u hu).be) ?_; try go_simp)
    | (refine qa_ldW (by rfl) 31 _ rfl ⟨w.heap.size + 4, 0, none⟩ (by rfl) (asL a) _ Try.underlying31 rfl (by kernel_rfl) (fun u hu => cells_of (al.out u hu).asc) ?_; try go_simp)
    | (refine qa_valW (by rfl) ⟨_, fun u hu => eq_cand c _ _ _ _ rfl (by rfl) (by rfl) u, ?_⟩; try go_simp)
    | (refine qa_valW (by rfl) ?_; apply Exists.intro; refine ⟨fun u hu => ?_, ?_⟩; ((have e0 := q0.out u hu); go_simp; exact rfl); try go_simp)
    | (refine qa_callW (by rfl) 22 _ _ ?_ (fun u hu => Z1.out u hu) ?_; (focus (intro u hu; go_simp; first | done | exact rfl)); try go_simp)
    | (refine qa_callW (by rfl) 23 _ _ ?_ (fun u hu => Z2.out u hu) ?_; (focus (intro u hu; go_simp; first | done | exact rfl)); try go_simp)
    | (refine qa_callW (by rfl) 24 _ _ ?_ (fun u hu => Z3.out u hu) ?_; (focus (intro u hu; go_simp; first | done | exact rfl)); try go_simp)
    | (refine qa_callW (by rfl) 25 _ _ ?_ (fun u hu => Z4.out u hu) ?_; (focus (intro u hu; go_simp; first | done | exact rfl)); try go_simp)
    | (refine qa_callW (by rfl) 26 _ _ ?_ (fun u hu => Z5.out u hu) ?_; (focus (intro u hu; go_simp; first | done | exact rfl)); try go_simp)
    | (refine qa_callW (by rfl) 27 _ _ ?_ (fun u hu => Z6.out u hu) ?_; (focus (intro u hu; go_simp; first | done | exact rfl)); try go_simp)
    | (refine qa_callW (by rfl) 18 _ _ ?_ (fun u hu => Z7.out u hu) ?_; (focus (intro u hu; go_simp; first | done | exact rfl)); try go_simp))
  refine qw_nil ?_
  intro u hu
  have hB : Below w.heap.size w u := HA.out.below.trans (Below.mono hu HA.out.below.size)
  have HB : Hid (Below w.heap.size w u) := hB
  clear al q0 Z1 Z2 Z3 Z4 Z5 Z6 Z7 hC hG hu HA hB
  go_wp2_with fail
  rw [hQ.out]
  go_ret
  exact ⟨rfl, HB.out⟩
end Go.Proofs.Ytlggademcmkihaa
