/- The document's examples: shown. -/
import Derived.Test.YtlggademcmkihaaHWb
import Derived.Test.YtlggademcmkihaaHY
namespace Go.Proofs.Ytlggademcmkihaa
open Go Go.RowKit
/-- an association in block p, and blocks that stay -/
structure SW (w W : World) (p : Nat) (s : Ps) (L : List (Nat × List Value × TypeId)) : Prop where
  below : Below w.heap.size w W
  pm : Pm W p s
  hp : w.heap.size ≤ p
  kept : ∀ x ∈ L, Bk x.1 W x.2.1.toArray x.2.2 ∧ x.1 ≠ p ∧ w.heap.size ≤ x.1
theorem SW.grown {w W W' : World} {p : Nat} {s s' : Ps} {L : List (Nat × List Value × TypeId)} (h : SW w W p s L) (hp : Pm W' p s') (hg : W.grownBy W' (some p)) : SW w W' p s' L :=
  ⟨grown_new h.below hg h.hp, hp, h.hp, fun x hx => ⟨(h.kept x hx).1.kept (hg.block _ (h.kept x hx).1.lt (fun e => by injection e with e; exact (h.kept x hx).2.1 e)), (h.kept x hx).2⟩⟩
theorem SW.step {w W W' : World} {p : Nat} {s : Ps} {L : List (Nat × List Value × TypeId)} (h : SW w W p s L) (hb : Below W.heap.size W W') : SW w W' p s L :=
  ⟨h.below.trans (hb.mono h.below.size), h.pm.kept (hb.block _ h.pm.lt), h.hp, fun x hx => ⟨(h.kept x hx).1.kept (hb.block _ (h.kept x hx).1.lt), (h.kept x hx).2⟩⟩
theorem SW.push {w W : World} {p : Nat} {s : Ps} {L : List (Nat × List Value × TypeId)} (h : SW w W p s L) (c0 : Array Value) (T : TypeId) (cs : List Value) : SW w ((W.alloc (.cells c0 T)).setRow W.heap.size cs.toArray) p s ((W.heap.size, cs, T) :: L) := by
  have h2 := h.step (below_row ((Below.refl _ _).alloc (Nat.le_refl _) (.cells c0 T)) (Nat.le_refl _) cs.toArray)
  refine ⟨h2.below, h2.pm, h2.hp, fun x hx => ?_⟩
  rcases List.mem_cons.1 hx with rfl | hx
  · exact ⟨setRow_heap _ _ _ _ _ _ (alloc_at W _), fun e => by have := h.pm.lt; simp only at e; omega, h.below.size⟩
  · exact h2.kept x hx
theorem SW.cell {w W : World} {p g : Nat} {s : Ps} {cs cs' : List Value} {T : TypeId} {L : List (Nat × List Value × TypeId)} (h : SW w W p s ((g, cs, T) :: L)) (hne : ∀ x ∈ L, x.1 ≠ g) (j : Nat) (v : Value) (hc : cs.toArray.setIfInBounds j v = cs'.toArray) : SW w (W.setCell ⟨g, j, none⟩ v) p s ((g, cs', T) :: L) := by
  have hg := grownBy_set W ⟨g, j, none⟩ v
  have hk := h.kept _ (List.mem_cons_self ..)
  refine ⟨grown_new h.below hg hk.2.2, h.pm.kept (hg.block _ h.pm.lt (fun e => by injection e with e; exact hk.2.1 e.symm)), h.hp, fun x hx => ?_⟩
  rcases List.mem_cons.1 hx with rfl | hx
  · have := Bk.set hk.1 (j := j) v
    rw [hc] at this
    exact ⟨this, hk.2⟩
  · have hx2 := h.kept x (List.mem_cons_of_mem _ hx)
    exact ⟨hx2.1.kept (hg.block _ hx2.1.lt (fun e => by injection e with e; exact hne x hx e)), hx2.2⟩
def as1 : As := ⟨1, 0, 0, 0, 0, false, false, false, 0, false, 0, 0⟩
def sy0 : Sy := ⟨0, 0, 0, 0, 0, 0, 0, 0, 0, 0, 0⟩
def sA : Ps := ps0 1 0 9
def sB : Ps := { sA with req := 7 }
def qB (org : Int) : Pk := ⟨0, 4, 4, 2, 0, 0, 0, 0, 0, 81604378624, org, 85899345920, 85899345920, none, 0, 0, 0, false, none, 0, 0⟩
def qR : Pk := ⟨0, 4, 3, 0, 6, -20, 0, 0, 0, 0, 0, 0, 7, none, 0, 0, 0, false, none, 0, 0⟩
def sC : Ps := ⟨1, 0, 9, true, 85899345920, 0, true, 85899345920, 4294967296, tdO (qB 7)⟩
theorem okA : okS sA := ⟨by unfold W64; decide, by decide, fun _ => ⟨rfl, rfl⟩⟩
theorem okB : okS sB := ⟨by unfold W64; decide, by decide, fun _ => ⟨rfl, rfl⟩⟩
theorem okC : okS sC := ⟨by unfold W64; decide, by decide, fun h => by cases h⟩
theorem okQ (o : Int) (h : U64 o) : okP (qB o) := ⟨by simp [W64, qB], by simp [W64, qB], by simp [W64, qB], by simp [W64, qB], by simp [W64, qB], h, by simp [U64, qB]⟩
theorem reqShown (p : Nat) (w : World) (h : Pm w p sA) : Calls Try.prog 33 #[.pointer (some ⟨p, 0, none⟩), .agg (syL sy0).toArray, .int .i64 6, .int .u64 7] w fun e w' => e = .returned (.tuple #[.agg (pkC qR).toArray, .bool true]) ∧ Pm w' p sB ∧ w.grownBy w' (some p) := by
  have := request_ff p sA sy0 6 7 w h okA (by decide) (by decide) (by decide)
  have e1 : rqP sA sy0 6 7 = qR := by kernel_rfl
  have e2 : rqB sA sy0 = true := by kernel_rfl
  have e3 : rqS sA sy0 7 = sB := by kernel_rfl
  rw [e1, e2, e3] at this
  exact this
theorem hear1 (p : Nat) (w : World) (h : Pm w p sB) : Calls Try.prog 29 #[.pointer (some ⟨p, 0, none⟩), .agg (pkC (qB 8)).toArray, .int .u64 4294967296, .bool false] w fun e w' => e = .returned (.tuple #[.int .i64 4, .agg (smL sm0).toArray]) ∧ Pm w' p sB ∧ w.grownBy w' (some p) := by
  have := hear_any p sB (qB 8) 4294967296 false w h okB (okQ 8 (by unfold U64; decide))
  have e1 : vdI sB (qB 8) false = 4 := by kernel_rfl
  have e2 : hrS sB (qB 8) 4294967296 false = sm0 := by kernel_rfl
  have e3 : hrP sB (qB 8) 4294967296 false = sB := by kernel_rfl
  rw [e1, e2, e3] at this
  exact this
def sm2 : Smp := smO (qB 7) 4294967296
theorem sm2_a : sm2.a = 4294967296 := by kernel_rfl
theorem hear2 (p : Nat) (w : World) (h : Pm w p sB) : Calls Try.prog 29 #[.pointer (some ⟨p, 0, none⟩), .agg (pkC (qB 7)).toArray, .int .u64 4294967296, .bool false] w fun e w' => e = .returned (.tuple #[.int .i64 0, .agg (smL sm2).toArray]) ∧ Pm w' p sC ∧ w.grownBy w' (some p) := by
  have := hear_any p sB (qB 7) 4294967296 false w h okB (okQ 7 (by unfold U64; decide))
  have e1 : vdI sB (qB 7) false = 0 := by kernel_rfl
  have e2 : hrS sB (qB 7) 4294967296 false = sm2 := by unfold hrS; rw [e1]; rfl
  have e3 : hrP sB (qB 7) 4294967296 false = sC := by unfold hrP; rw [e1]; rfl
  rw [e1, e2, e3] at this
  exact this
theorem hear3 (p : Nat) (w : World) (h : Pm w p sC) : Calls Try.prog 29 #[.pointer (some ⟨p, 0, none⟩), .agg (pkC (qB 7)).toArray, .int .u64 4294967296, .bool false] w fun e w' => e = .returned (.tuple #[.int .i64 2, .agg (smL sm0).toArray]) ∧ Pm w' p sC ∧ w.grownBy w' (some p) := by
  have := hear_any p sC (qB 7) 4294967296 false w h okC (okQ 7 (by unfold U64; decide))
  have e1 : vdI sC (qB 7) false = 2 := by kernel_rfl
  have e2 : hrS sC (qB 7) 4294967296 false = sm0 := by unfold hrS; rw [e1]; rfl
  have e3 : hrP sC (qB 7) 4294967296 false = sC := by unfold hrP; rw [e1]; rfl
  rw [e1, e2, e3] at this
  exact this
set_option maxRecDepth 20000 in
set_option maxHeartbeats 2000000 in
theorem shown_any (w : World) : Calls Try.prog 10 #[] w fun e w' => e = .returned (.bool true) ∧ Below w.heap.size w w' := by
  have HX : Hid (∀ u, Calls Try.prog 9 #[.int .u64 42949672960, .int .u64 64424509440, .int .u64 68719476736, .int .u64 55834574848] u fun e w' => e = .returned (.tuple #[.int .i64 17179869184, .int .i64 8589934592]) ∧ w' = u) := fun u => by
    have e1 : exO 42949672960 64424509440 68719476736 55834574848 = 17179869184 := by kernel_rfl
    have e2 : exD 42949672960 64424509440 68719476736 55834574848 = 8589934592 := by kernel_rfl
    have := exchange_any 42949672960 64424509440 68719476736 55834574848 u
    rw [e1, e2] at this
    exact this
  have HN : Hid (∀ u, Calls Try.prog 11 #[.agg #[.int .i64 1, .int .u32 0, .int .i64 0, .int .i64 0, .int .i64 0, .bool false, .bool false, .bool false, .int .i64 0, .bool false, .int .i64 0, .int .i64 0], .int .u32 9] u fun e w' => ∃ p, e = .returned (.pointer (some ⟨p, 0, none⟩)) ∧ Pm w' p sA ∧ u.heap.size ≤ p ∧ Below u.heap.size u w') := fun u => new_any as1 9 u
  have HR : Hid (∀ p u, Pm u p sA → Calls Try.prog 33 #[.pointer (some ⟨p, 0, none⟩), .agg #[.int .i64 0, .int .i64 0, .int .i64 0, .int .i64 0, .int .i64 0, .int .u32 0, .int .u64 0, .int .i64 0, .int .i64 0, .int .i64 0, .int .i64 0], .int .i64 6, .int .u64 7] u fun e w' => e = .returned (.tuple #[.agg (pkC qR).toArray, .bool true]) ∧ Pm w' p sB ∧ u.grownBy w' (some p)) := fun p u h => reqShown p u h
  go_enter Try.func10, Try.ntmps10
  refine post_hid fun Q hQ => ?_
  refine seq_hid fun R hR => ?_
  go_wp2
  rw [hR.out]
  clear hR
  refine seq_hid fun R hR => ?_
  go_wp2_with (go_at_call 9; refine (HX.out _).mono ?_; rintro e wq ⟨rfl, hwq⟩; rw [hwq]; clear hwq)
  rw [hR.out]
  clear hR HX
  refine seq_hid fun R hR => ?_
  go_wp2_with (go_at_call 11; refine (HN.out _).mono ?_; rintro e w1 ⟨p, rfl, hp1, hl1, hb1⟩; have HA : Hid (SW w w1 p sA []) := ⟨hb1, hp1, hl1, fun x hx => by cases hx⟩; clear hp1 hl1 hb1)
  rw [hR.out]
  clear hR HN
  refine seq_hid fun R hR => ?_
  go_wp2
  rw [hR.out]
  clear hR
  refine seq_hid fun R hR => ?_
  go_wp2_with (first
    | (go_at_call 33; refine (HR.out _ _ HA.out.pm).mono ?_; rintro e w2 ⟨rfl, hp2, hg2⟩; have HA : Hid (SW w w2 p sB []) := SW.grown HA.out hp2 hg2; clear hp2 hg2)
    | (refine step_stR (by rfl) _ _ rfl w2.heap.size (pkC qR).toArray (by rfl) (by rfl) (pkC pk0).toArray (by kernel_rfl) (by kernel_rfl) (pkC_one _) (alloc_at w2 _) ?_))
  refine world_hid fun W3 hW3 => ?_
  have HA : Hid (SW w W3 p sB [(w2.heap.size, pkC qR, 44)]) := by show SW _ _ _ _ _; rw [hW3.out]; exact HA.out.push _ _ _
  clear hW3
  obtain ⟨g4, hg4⟩ : ∃ g4, w2.heap.size = g4 := ⟨_, rfl⟩
  rw [hg4] at HA ⊢
  clear hg4 HR
  rw [hR.out]
  clear hR
  refine seq_hid fun R hR => ?_
  go_wp2_with (refine step_stR (by rfl) _ _ rfl W3.heap.size (pkC (qB 8)).toArray (by rfl) (by rfl) (pkC pk0).toArray (by kernel_rfl) (by kernel_rfl) (pkC_one _) (alloc_at W3 _) ?_)
  have HG : Hid (g4 < W3.heap.size) := (HA.out.kept (g4, pkC qR, 44) (by simp)).1.lt
  refine world_hid fun W4 hW4 => ?_
  have HA : Hid (SW w W4 p sB [(W3.heap.size, pkC (qB 8), 44), (g4, pkC qR, 44)]) := by show SW _ _ _ _ _; rw [hW4.out]; exact HA.out.push _ _ _
  clear hW4
  obtain ⟨g6, hg6⟩ : ∃ g6, W3.heap.size = g6 := ⟨_, rfl⟩
  rw [hg6] at HA HG ⊢
  clear hg6
  rw [hR.out]
  clear hR
  refine seq_hid fun R hR => ?_
  go_wp2_with (first
    | (refine step_ldat 44 _ rfl rfl ⟨g6, 0, none⟩ (by rfl) (pkC (qB 8)) _ Try.underlying44 rfl (by kernel_rfl) (cells_of (HA.out.kept (g6, pkC (qB 8), 44) (by simp)).1) ?_)
    | (go_at_call 29; refine (hear1 _ _ HA.out.pm).mono ?_; rintro e w5 ⟨rfl, hp5, hg5⟩; have HA : Hid (SW w w5 p sB _) := SW.grown HA.out hp5 hg5; clear hp5 hg5)
    | (refine step_stR (by rfl) _ _ rfl w5.heap.size (smL sm0).toArray (by rfl) (by rfl) smZ (by kernel_rfl) (by kernel_rfl) (smL_one _) (alloc_at w5 _) ?_))
  refine world_hid fun W6 hW6 => ?_
  have HA : Hid (SW w W6 p sB [(g6, pkC (qB 8), 44), (g4, pkC qR, 44)]) := by show SW _ _ _ _ _; rw [hW6.out]; exact HA.out.step (below_row ((Below.refl _ _).alloc (Nat.le_refl _) _) (Nat.le_refl _) _)
  clear hW6
  rw [hR.out]
  clear hR
  refine seq_hid fun R hR => ?_
  have kc : W6.cell? ⟨g6, 10, none⟩ = some (.int .u64 8) := (HA.out.kept (g6, pkC (qB 8), 44) (by simp)).1.cell 10
  have kf := (HA.out.kept (g6, pkC (qB 8), 44) (by simp)).1.frozen
  go_wp2
  refine world_hid fun W7 hW7 => ?_
  have HA : Hid (SW w W7 p sB [(g6, pkC (qB 7), 44), (g4, pkC qR, 44)]) := by show SW _ _ _ _ _; rw [hW7.out]; exact HA.out.cell (fun x hx => by simp at hx; rw [hx]; have := HG.out; simp only; omega) 10 _ rfl
  clear hW7
  clear kc kf
  rw [hR.out]
  clear hR
  refine seq_hid fun R hR => ?_
  go_wp2_with (first
    | (refine step_ldat 44 _ rfl rfl ⟨g6, 0, none⟩ (by rfl) (pkC (qB 7)) _ Try.underlying44 rfl (by kernel_rfl) (cells_of (HA.out.kept (g6, pkC (qB 7), 44) (by simp)).1) ?_)
    | (go_at_call 29; refine (hear2 _ _ HA.out.pm).mono ?_; rintro e w8 ⟨rfl, hp8, hg8⟩; have HA : Hid (SW w w8 p sC _) := SW.grown HA.out hp8 hg8; clear hp8 hg8)
    | (refine step_stR (by rfl) _ _ rfl w8.heap.size (smL sm2).toArray (by rfl) (by rfl) smZ (by kernel_rfl) (by kernel_rfl) (smL_one _) (alloc_at w8 _) ?_))
  refine world_hid fun W9 hW9 => ?_
  have HA : Hid (SW w W9 p sC [(w8.heap.size, smL sm2, 48), (g6, pkC (qB 7), 44), (g4, pkC qR, 44)]) := by show SW _ _ _ _ _; rw [hW9.out]; exact HA.out.push _ _ _
  clear hW9
  obtain ⟨ga, hga⟩ : ∃ ga, w8.heap.size = ga := ⟨_, rfl⟩
  rw [hga] at HA ⊢
  clear hga
  rw [hR.out]
  clear hR
  refine seq_hid fun R hR => ?_
  go_wp2_with (first
    | (refine step_ldat 44 _ rfl rfl ⟨g6, 0, none⟩ (by rfl) (pkC (qB 7)) _ Try.underlying44 rfl (by kernel_rfl) (cells_of (HA.out.kept (g6, pkC (qB 7), 44) (by simp)).1) ?_)
    | (go_at_call 29; refine (hear3 _ _ HA.out.pm).mono ?_; rintro e wa ⟨rfl, hpa, hgb⟩; have HA : Hid (SW w wa p sC _) := SW.grown HA.out hpa hgb; clear hpa hgb)
    | (refine step_stR (by rfl) _ _ rfl wa.heap.size (smL sm0).toArray (by rfl) (by rfl) smZ (by kernel_rfl) (by kernel_rfl) (smL_one _) (alloc_at wa _) ?_))
  refine world_hid fun Wb hWb => ?_
  have HA : Hid (SW w Wb p sC [(ga, smL sm2, 48), (g6, pkC (qB 7), 44), (g4, pkC qR, 44)]) := by show SW _ _ _ _ _; rw [hWb.out]; exact HA.out.step (below_row ((Below.refl _ _).alloc (Nat.le_refl _) _) (Nat.le_refl _) _)
  clear hWb
  rw [hR.out]
  clear hR
  have k1 : Wb.cell? ⟨g4, 2, none⟩ = some (.int .i64 3) := (HA.out.kept (g4, pkC qR, 44) (by simp)).1.cell 2
  have k2 : Wb.cell? ⟨g4, 12, none⟩ = some (.int .u64 7) := (HA.out.kept (g4, pkC qR, 44) (by simp)).1.cell 12
  have k3 : Wb.cell? ⟨ga, 3, none⟩ = some (.int .u64 4294967296) := by rw [← sm2_a]; exact (HA.out.kept (ga, smL sm2, 48) (by simp)).1.cell 3
  have HT : Hid (∀ u, Pm u p sC → Calls Try.prog 19 #[.pointer (some ⟨p, 0, none⟩)] u fun e w' => e = .returned (.agg #[.int .i64 0, .int .i64 2, .int .i64 0, .int .i64 0, .int .i64 0, .int .i64 0, .int .u32 0, .int .u64 81604378624]) ∧ Below u.heap.size u w') := fun u h => told_any p sC u h
  have hfl : ∀ u, Sem.run Try.prog (Instr.field 60 (.agg #[.int .i64 0, .int .i64 2, .int .i64 0, .int .i64 0, .int .i64 0, .int .i64 0, .int .u32 0, .int .u64 81604378624]) 1) u = .ok (.int .i64 2) u := fun u => by kernel_rfl
  have HWt : Hid (∀ u, Pm u p sC → Calls Try.prog 20 #[.pointer (some ⟨p, 0, none⟩)] u fun e w' => e = .returned (.bool false) ∧ w' = u) := fun u h => waits_any p sC u h
  go_wp2_with (first
    | (go_at_call 19; refine (HT.out _ HA.out.pm).mono ?_; rintro e wc ⟨rfl, hbc⟩; have HA : Hid (SW w wc p sC _) := SW.step HA.out hbc; clear hbc)
    | (go_at_call 20; refine (HWt.out _ HA.out.pm).mono ?_; rintro e wq ⟨rfl, hwq⟩; rw [hwq]; clear hwq))
  rw [hQ.out]
  go_ret
  exact ⟨rfl, HA.out.below⟩
end Go.Proofs.Ytlggademcmkihaa
