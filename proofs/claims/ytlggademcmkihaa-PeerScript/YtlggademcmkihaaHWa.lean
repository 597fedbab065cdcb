/- Request, Clear, New of the program. -/
import Derived.Test.YtlggademcmkihaaHV
import Derived.Test.YtlggademcmkihaaHL
namespace Go.Proofs.Ytlggademcmkihaa
open Go Go.RowKit
def pkZ : Array Value := (pkC pk0).toArray
/-- the system's own, in a block -/
def Yb (w : World) (b : Nat) (y : Sy) : Prop := Bk b w (syL y).toArray 40
theorem Yb.lt {w : World} {p : Nat} {s : Sy} (h : Yb w p s) : p < w.heap.size := Bk.lt h
theorem Yb.kept {w w' : World} {p : Nat} {s : Sy} (h : Yb w p s) (hb : w'.heap[p]? = w.heap[p]?) : Yb w' p s := Bk.kept h hb
theorem Yb.leap {w : World} {b : Nat} {q : Sy} (h : Yb w b q) : w.cell? ⟨b, 0, none⟩ = some (.int .i64 q.leap) := Bk.cell h 0
theorem Yb.str {w : World} {b : Nat} {q : Sy} (h : Yb w b q) : w.cell? ⟨b, 1, none⟩ = some (.int .i64 q.str) := Bk.cell h 1
theorem Yb.del {w : World} {b : Nat} {q : Sy} (h : Yb w b q) : w.cell? ⟨b, 3, none⟩ = some (.int .i64 q.del) := Bk.cell h 3
theorem Yb.dis {w : World} {b : Nat} {q : Sy} (h : Yb w b q) : w.cell? ⟨b, 4, none⟩ = some (.int .i64 q.dis) := Bk.cell h 4
theorem Yb.rid {w : World} {b : Nat} {q : Sy} (h : Yb w b q) : w.cell? ⟨b, 5, none⟩ = some (.int .u32 q.rid) := Bk.cell h 5
theorem Yb.ref {w : World} {b : Nat} {q : Sy} (h : Yb w b q) : w.cell? ⟨b, 6, none⟩ = some (.int .u64 q.ref) := Bk.cell h 6
/-- the call's first two blocks: the system's own, and room for a packet; the association -/
structure VE (w W : World) (p : Nat) (y : Sy) (s : Ps) : Prop where
  below : Below w.heap.size w W
  sy : Yb W w.heap.size y
  room : Bk (w.heap.size + 1) W pkZ 44
  pm : Pm W p s
  lt : p < w.heap.size
theorem VE.step {w W W' : World} {p : Nat} {y : Sy} {s : Ps} (h : VE w W p y s) (hb : Below W.heap.size W W') : VE w W' p y s :=
  ⟨h.below.trans (hb.mono h.below.size), h.sy.kept (hb.block _ h.sy.lt), h.room.kept (hb.block _ h.room.lt), h.pm.kept (hb.block _ h.pm.lt), h.lt⟩
/-- the packet that is being made, in block g -/
structure VF (w W : World) (p : Nat) (y : Sy) (s : Ps) (g : Nat) (q : Pk) : Prop where
  grown : w.grownBy W (some p)
  sy : Yb W w.heap.size y
  room : Bk (w.heap.size + 1) W pkZ 44
  pm : Pm W p s
  pk : Kb W g q
  lt : p < w.heap.size
  far : w.heap.size + 1 < g
theorem VF.cell {w W : World} {p : Nat} {y : Sy} {s : Ps} {g : Nat} {q q' : Pk} (h : VF w W p y s g q) (j : Nat) (v : Value) (hq : (pkC q).toArray.setIfInBounds j v = (pkC q').toArray) : VF w (W.setCell ⟨g, j, none⟩ v) p y s g q' := by
  have hg := grownBy_set W ⟨g, j, none⟩ v
  have hf := h.far
  have hl := h.lt
  refine ⟨⟨h.grown.os, h.grown.tape, h.grown.output, by simpa using h.grown.size, fun k hk hne => ?_⟩, h.sy.kept (hg.block _ h.sy.lt (fun e => by injection e with e; simp at e; omega)), h.room.kept (hg.block _ h.room.lt (fun e => by injection e with e; simp at e; omega)), h.pm.kept (hg.block _ h.pm.lt (fun e => by injection e with e; simp at e; omega)), ?_, hl, hf⟩
  · exact (hg.block k (Nat.lt_of_lt_of_le hk h.grown.size) (fun e => by injection e with e; simp at e; omega)).trans (h.grown.block k hk hne)
  · have := Bk.set h.pk (j := j) v
    rw [hq] at this
    exact this
theorem VF.drew {w W : World} {p : Nat} {y : Sy} {s : Ps} {g : Nat} {q : Pk} (h : VF w W p y s g q) : VF w W.drew p y s g q := ⟨grownBy_trans h.grown (grownBy_drew _ _), h.sy, h.room, h.pm, h.pk, h.lt, h.far⟩
theorem VF.req {w W : World} {p : Nat} {y : Sy} {s : Ps} {g : Nat} {q : Pk} (h : VF w W p y s g q) (x : Int) : VF w (W.setCell ⟨p, 5, none⟩ (.int .u64 x)) p y { s with req := x } g q := by
  have hg := grownBy_set W ⟨p, 5, none⟩ (.int .u64 x)
  have hf := h.far
  have hl := h.lt
  exact ⟨grownBy_trans h.grown hg, h.sy.kept (hg.block _ h.sy.lt (fun e => by injection e with e; simp at e; omega)), h.room.kept (hg.block _ h.room.lt (fun e => by injection e with e; simp at e; omega)), h.pm.setReq x, h.pk.kept (hg.block _ h.pk.lt (fun e => by injection e with e; simp at e; omega)), hl, hf⟩
theorem VF.row {w W : World} {p : Nat} {y : Sy} {s : Ps} {g : Nat} {q : Pk} (h : VF w W p y s g q) (cs : Array Value) : Pm (W.setRow (w.heap.size + 1) cs) p s ∧ w.grownBy (W.setRow (w.heap.size + 1) cs) (some p) :=
  ⟨h.pm.kept (setRow_other _ _ _ _ (by have := h.lt; omega)), ⟨h.grown.os, h.grown.tape, h.grown.output, by simpa using h.grown.size, fun k hk hne => (setRow_other _ _ _ _ (by omega)).trans (h.grown.block k hk hne)⟩⟩
theorem run_mxI (a b : Int) (u : World) : (Builtin.max_ #[3, 3] 3 #[.int .i64 a, .int .i64 b]).run Try.prog u = .ok (.int .i64 (max a b)) u := by
  have : (Builtin.max_ #[3, 3] 3 #[.int .i64 a, .int .i64 b]).run Try.prog u = .ok (.int .i64 (if a < b then b else a)) u := by simp [go_sem]
  rw [this]; congr 2; split <;> omega
theorem run_mnI (a b : Int) (u : World) : (Builtin.min_ #[3, 3] 3 #[.int .i64 a, .int .i64 b]).run Try.prog u = .ok (.int .i64 (min a b)) u := by
  have : (Builtin.min_ #[3, 3] 3 #[.int .i64 a, .int .i64 b]).run Try.prog u = .ok (.int .i64 (if b < a then b else a)) u := by simp [go_sem]
  rw [this]; congr 2; split <;> omega
theorem run_mxT (a b : Int) (u : World) : (Builtin.max_ #[23, 23] 23 #[.int .u64 a, .int .u64 b]).run Try.prog u = .ok (.int .u64 (max a b)) u := by
  have : (Builtin.max_ #[23, 23] 23 #[.int .u64 a, .int .u64 b]).run Try.prog u = .ok (.int .u64 (if a < b then b else a)) u := by simp [go_sem]
  rw [this]; congr 2; split <;> omega
set_option maxRecDepth 20000 in
set_option maxHeartbeats 1000000 in
theorem request_no (p : Nat) (s : Ps) (y : Sy) (poll xmt : Int) (w : World) (h : Pm w p s) (hs : okS s) (c0 : askI s.kind = 0 ∨ askI s.kind = 5 ∧ y.leap = 3) : Calls Try.prog 33 #[.pointer (some ⟨p, 0, none⟩), .agg (syL y).toArray, .int .i64 poll, .int .u64 xmt] w fun e w' => e = .returned (.tuple #[.agg (pkC (rqP s y poll xmt)).toArray, .bool (rqB s y)]) ∧ Pm w' p (rqS s y xmt) ∧ w.grownBy w' (some p) := by
  obtain ⟨K, hK⟩ : ∃ K, askI s.kind = K := ⟨_, rfl⟩
  have C1 : Hid (∀ u, Calls Try.prog 55 #[.int .i64 s.kind] u fun e w' => e = .returned (.int .i64 K) ∧ Below u.heap.size u w') := fun u => by rw [← hK]; exact askMode_any _ u (i64_lit hs.kind)
  rw [hK] at c0
  unfold rqP rqS rqB
  rw [hK]
  have HP : Hid (Pm w p s) := h
  clear h hs hK
  go_enter Try.func33, Try.ntmps33
  refine post_hid fun Q hQ => ?_
  refine seq_hid fun R hR => ?_
  go_wp2
  refine world_hid fun W hW => ?_
  have HA : Hid (VE w W p y s) := by
    have hb : Below w.heap.size w W := by rw [hW.out]; exact ((Below.refl _ _).alloc (Nat.le_refl _) _).alloc (by simp) _
    refine ⟨hb, ?_, ?_, HP.out.kept (hb.block p HP.out.lt), HP.out.lt⟩
    · rw [hW.out]; exact Yb.kept (Bk.new w _ _) (((Below.refl _ _).alloc (Nat.le_refl _) _).block _ (by simp))
    · rw [hW.out]
      have := Bk.new (w.alloc (.cells (syL y).toArray 40)) pkZ 44
      rw [size_alloc1] at this
      exact this
  clear hW HP
  rw [hR.out]
  clear hR
  refine seq_hid fun R hR => ?_
  have k1 := HA.out.pm.kind
  go_wp2_with (go_at_call 55; refine (C1.out _).mono ?_; rintro e w5 ⟨rfl, hb5⟩; have HA : Hid (VE w w5 p y s) := VE.step HA.out hb5; clear hb5)
  rw [hR.out]
  clear hR k1
  have k0 := HA.out.sy.leap
  have e0 : (!(decide (K = 0) || (decide (K = 5) && decide (y.leap = 3)))) = false := by simp; omega
  rw [e0] at hQ
  simp only [Bool.false_eq_true, if_false, false_and] at hQ
  clear e0
  rcases c0 with rfl | ⟨rfl, hl⟩
  · skip
    go_wp2_with (refine step_stR (by rfl) _ _ rfl (w.heap.size + 1) (pkC pk0).toArray (by rfl) (by rfl) pkZ (by kernel_rfl) (by kernel_rfl) (pkC_one _) HA.out.room ?_)
    rw [hQ.out]
    exact bodyPost_ret (v := .tuple #[.agg (pkC pk0).toArray, .bool false]) (results_ct Try.results33 _ _ (w.heap.size + 1) _ _ _ _ (by rfl) (by rfl) (setRow_heap _ _ _ _ _ _ HA.out.room) Try.underlying44 rfl (by kernel_rfl)) rfl ⟨rfl, HA.out.pm.kept (setRow_other _ _ _ _ (by have := HA.out.lt; omega)), grownBy_below (below_row HA.out.below (Nat.le_succ _) _) _⟩
  · rw [hl] at k0
    go_wp2_with (refine step_stR (by rfl) _ _ rfl (w.heap.size + 1) (pkC pk0).toArray (by rfl) (by rfl) pkZ (by kernel_rfl) (by kernel_rfl) (pkC_one _) HA.out.room ?_)
    rw [hQ.out]
    exact bodyPost_ret (v := .tuple #[.agg (pkC pk0).toArray, .bool false]) (results_ct Try.results33 _ _ (w.heap.size + 1) _ _ _ _ (by rfl) (by rfl) (setRow_heap _ _ _ _ _ _ HA.out.room) Try.underlying44 rfl (by kernel_rfl)) rfl ⟨rfl, HA.out.pm.kept (setRow_other _ _ _ _ (by have := HA.out.lt; omega)), grownBy_below (below_row HA.out.below (Nat.le_succ _) _) _⟩
end Go.Proofs.Ytlggademcmkihaa
