/- Request of the program, a case. -/
import Derived.Test.YtlggademcmkihaaHWg
namespace Go.Proofs.Ytlggademcmkihaa
open Go Go.RowKit
set_option maxRecDepth 20000 in
set_option maxHeartbeats 1000000 in
theorem request_ff (p : Nat) (s : Ps) (y : Sy) (poll xmt : Int) (w : World) (h : Pm w p s) (hs : okS s) (c0 : ¬ (askI s.kind = 0 ∨ askI s.kind = 5 ∧ y.leap = 3)) (hK5 : ¬ askI s.kind = 5) (hsc : scB y.str = false) : Calls Try.prog 33 #[.pointer (some ⟨p, 0, none⟩), .agg (syL y).toArray, .int .i64 poll, .int .u64 xmt] w fun e w' => e = .returned (.tuple #[.agg (pkC (rqP s y poll xmt)).toArray, .bool (rqB s y)]) ∧ Pm w' p (rqS s y xmt) ∧ w.grownBy w' (some p) := by
  obtain ⟨K, hK⟩ : ∃ K, askI s.kind = K := ⟨_, rfl⟩
  have C1 : Hid (∀ u, Calls Try.prog 55 #[.int .i64 s.kind] u fun e w' => e = .returned (.int .i64 K) ∧ Below u.heap.size u w') := fun u => by rw [← hK]; exact askMode_any _ u (i64_lit hs.kind)
  rw [hK] at c0 hK5
  unfold rqP rqS rqB
  rw [hK]
  have HP : Hid (Pm w p s) := h
  clear h hs hK
  go_enter Try.func33, Try.ntmps33
  refine post_hid fun Q hQ => ?_
  refine seq_hid fun R hR => ?_
  go_wp2
  refine world_hid fun W hW => ?_
  have HA : Hid (VE w W p y s) := by
    have hb : Below w.heap.size w W := by rw [hW.out]; exact ((Below.refl _ _).alloc (Nat.le_refl _) _).alloc (by simp) _
    refine ⟨hb, ?_, ?_, HP.out.kept (hb.block p HP.out.lt), HP.out.lt⟩
    · rw [hW.out]; exact Yb.kept (Bk.new w _ _) (((Below.refl _ _).alloc (Nat.le_refl _) _).block _ (by simp))
    · rw [hW.out]
      have := Bk.new (w.alloc (.cells (syL y).toArray 40)) pkZ 44
      rw [size_alloc1] at this
      exact this
  clear hW HP
  rw [hR.out]
  clear hR
  refine seq_hid fun R hR => ?_
  have k1 := HA.out.pm.kind
  go_wp2_with (go_at_call 55; refine (C1.out _).mono ?_; rintro e w5 ⟨rfl, hb5⟩; have HA : Hid (VE w w5 p y s) := VE.step HA.out hb5; clear hb5)
  rw [hR.out]
  clear hR k1
  have k0 := HA.out.sy.leap
  have e0 : (!(decide (K = 0) || (decide (K = 5) && decide (y.leap = 3)))) = true := by simp; omega
  rw [e0] at hQ
  simp only [if_true, true_and] at hQ
  have n0 : (K == 0) = false := by simp; omega
  clear e0
  have k1 := HA.out.sy.str
  have k2 := HA.out.sy.del
  have k3 := HA.out.sy.dis
  have k4 := HA.out.sy.rid
  have k5 := HA.out.sy.ref
  have m1 := run_mxI
  have m2 := run_mnI
  have m3 := run_mxT
  have hb5 : (K == 5) = false := by simpa using hK5
  simp only [hK5, if_false, ne_eq, not_false_eq_true, if_true] at hQ
  refine seq_hid fun R hR => ?_
  go_wp2
  rw [hR.out]
  clear hR
  refine seq_hid fun R hR => ?_
  go_wp2_with fail
  refine wp_region_alloc 19 _ _ (.cells pkZ 44) (by rfl) rfl (by decide) (by rfl) (by intro a u; go_simp; rfl) (by kernel_rfl) (by kernel_rfl) (by kernel_rfl) ?_
  intro C hC hD
  simp only [idleLast, idle, List.set]
  have hlt : w.heap.size < w5.heap.size := HA.out.sy.lt
  have al : ∀ (j : Nat) (v : Value), w5.cell? ⟨w.heap.size, j, none⟩ = some v → Hid (∀ u, C u → u.cell? ⟨w.heap.size, j, none⟩ = some v) := fun j v h u hu => by
    rcases hC u hu with ⟨n, rfl⟩ | ⟨n, rfl⟩
    · exact h
    · exact (((Below.refl w5.heap.size w5).alloc (Nat.le_refl _) _).cell (p := ⟨w.heap.size, j, none⟩) hlt).trans h
  have a0 := al _ _ k0
  have a2 := al _ _ k2
  have a3 := al _ _ k3
  have a4 := al _ _ k4
  have a5 := al _ _ k5
  clear al hlt
  have co : Hid (∀ d u, C u → Calls Try.prog 56 #[.int .i64 d] u fun e w' => e = .returned (.int .i64 (ow d)) ∧ C w') := fun d u hu => (onWire_any d u).mono fun e w' ⟨h1, h2⟩ => ⟨h1, h2 ▸ hu⟩
  refine QW.out ?_
  repeat (first
    | (refine qa_valW (by rfl) ?_; apply Exists.intro; refine ⟨fun u hu => ?_, ?_⟩; ((have e0 := a0.out u hu; have e2 := a2.out u hu; have e3 := a3.out u hu; have e4 := a4.out u hu; have e5 := a5.out u hu); go_simp; exact rfl); try go_simp)
    | (refine qa_callW (by rfl) 56 _ _ (fun u hu => by go_simp; exact rfl) (fun u hu => co.out _ u hu) ?_; try go_simp))
  refine qw_nil ?_
  intro nq
  refine wpOp_st (g := w5.heap.size) (T := 44) _ (by rfl) rfl _ _ rfl (pkC (⟨y.leap, 4, K, 0, min (max poll (-128)) 127, -20, ow y.del, ow y.dis, y.rid, y.ref, 0, 0, max xmt 1, none, 0, 0, 0, false, none, 0, 0⟩ : Pk)).toArray (by rfl) (by rfl) pkZ (alloc_at w5 _) (by kernel_rfl) (by rfl) (pkC_one _) ?_
  have HF : Hid (VF w (((w5.alloc (.cells pkZ 44)).drewN nq).setRow w5.heap.size (pkC (⟨y.leap, 4, K, 0, min (max poll (-128)) 127, -20, ow y.del, ow y.dis, y.rid, y.ref, 0, 0, max xmt 1, none, 0, 0, 0, false, none, 0, 0⟩ : Pk)).toArray) p y s w5.heap.size (⟨y.leap, 4, K, 0, min (max poll (-128)) 127, -20, ow y.del, ow y.dis, y.rid, y.ref, 0, 0, max xmt 1, none, 0, 0, 0, false, none, 0, 0⟩ : Pk)) := by
    have h := HA.out
    have hb : Below w5.heap.size w5 (((w5.alloc (.cells pkZ 44)).drewN nq).setRow w5.heap.size (pkC (⟨y.leap, 4, K, 0, min (max poll (-128)) 127, -20, ow y.del, ow y.dis, y.rid, y.ref, 0, 0, max xmt 1, none, 0, 0, 0, false, none, 0, 0⟩ : Pk)).toArray) := below_row (below_dr ((Below.refl _ _).alloc (Nat.le_refl _) _) nq) (Nat.le_refl _) _
    have h2 := h.step hb
    exact ⟨grownBy_below h2.below _, h2.sy, h2.room, h2.pm, setRow_heap _ _ _ _ _ _ (alloc_at w5 _), h.lt, h.room.lt⟩
  generalize ((w5.alloc (.cells pkZ 44)).drewN nq).setRow w5.heap.size (pkC (⟨y.leap, 4, K, 0, min (max poll (-128)) 127, -20, ow y.del, ow y.dis, y.rid, y.ref, 0, 0, max xmt 1, none, 0, 0, 0, false, none, 0, 0⟩ : Pk)).toArray = W6 at HF ⊢
  generalize Value.agg #[Value.int IntKind.i64 y.leap, Value.int IntKind.i64 4, Value.int IntKind.i64 K, Value.int IntKind.i64 0, Value.int IntKind.i64 (min (max poll (-128)) 127), Value.int IntKind.i64 (-20), Value.int IntKind.i64 (ow y.del), Value.int IntKind.i64 (ow y.dis), Value.int IntKind.u32 y.rid, Value.int IntKind.u64 y.ref, Value.int IntKind.u64 0, Value.int IntKind.u64 0, Value.int IntKind.u64 (max xmt 1), Value.slice none 0 0, Value.int IntKind.i64 0, Value.bool false, Value.slice none 0 0] = v47
  generalize Value.agg (syL y).toArray = vy
  obtain ⟨g, hg⟩ : ∃ g, w5.heap.size = g := ⟨_, rfl⟩
  rw [hg] at HF ⊢
  clear a0 a2 a3 a4 a5 co hC hD k0 k1 k2 k3 k4 k5 HA hg
  have HS : Hid (∀ u, Calls Try.prog 45 #[.int .i64 y.str] u fun e w' => e = .returned (.bool false) ∧ w' = u) := fun u => by rw [← hsc]; exact sc_any _ u
  rw [hsc] at hQ
  clear hsc
  have k1 := HF.out.sy.str
  have k3 := HF.out.pk.str
  have kf := HF.out.pk.frozen
  go_wp2_with fail
  rw [hR.out]
  clear hR
  refine seq_hid fun R hR => ?_
  go_wp2_with (go_at_call 45; refine (HS.out _).mono ?_; rintro e wq ⟨rfl, hwq⟩; rw [hwq]; clear hwq)
  have eR : R = (rqTail Try.f33) := by rw [hR.out]; unfold rqTail Try.f33; simp only [dropSeq]
  rw [eR]
  clear hR HS eR
  obtain ⟨W7, hW7⟩ : ∃ W7, W6 = W7 := ⟨_, rfl⟩
  rw [hW7] at HF ⊢
  clear hW7
  clear k1 k3 kf
  simp only [Bool.false_eq_true, if_false] at hQ
  rw [hQ.out]
  exact request_tail p s y poll xmt K 0 w W7 g hK5 HF.out _ _ _ _ _ _ _ _ _ _ _ _ _ _ _ _ _ _ _ _ _ _ _ _ _ _ _ _ _ _ _ _ _ _ _ _ _ _ _ _ _ _ _ _ _ _ _ _ _ _ _ _ _ _ _ _ _ _ _ _ _ _ _ _ _ _ _ _ _ _ _ _ _
end Go.Proofs.Ytlggademcmkihaa
