/- Both polls in step: same, step of the law. -/
import Derived.Test.YtocaiimhbmhakaaJI
import Derived.Test.YtocaiimhbmhakaaJF
import Derived.Test.YtocaiimhbmhakaaJG
namespace Go.Proofs.Ytocaiimhbmhakaa
open Go Go.RowKit Go.Sort
def stepS (s : Pl) (y : Stp) : Pl := if y.k = 0 then sentS s y.t y.n else if y.k = 1 then heardS s else if y.k = 2 then kissS s y.t y.n else s
theorem OkL.step {s : Pl} (h : OkL s) (y : Stp) : OkL (stepS s y) := by
  unfold stepS
  split
  · exact h.sent _ _
  · split
    · exact h.heard
    · split
      · exact h.kiss _ _
      · exact h
/-- both, the same -/
structure Wq (w : World) (a : As) (p q : Nat) (s : Pl) (u : World) : Prop where
  po : Po u p s
  rp : Rp u q a s
  ne : p ≠ q
  lp : w.heap.size ≤ p
  lq : w.heap.size ≤ q
  be : Below w.heap.size w u
theorem Wq.drewN {w u : World} {a : As} {p q : Nat} {s : Pl} (h : Wq w a p q s u) (n : Nat) : Wq w a p q s (u.drewN n) := ⟨h.po, h.rp, h.ne, h.lp, h.lq, ⟨h.be.os, h.be.tape, h.be.output, h.be.size, h.be.block⟩⟩
theorem Wq.alloc {w u : World} {a : As} {p q : Nat} {s : Pl} (h : Wq w a p q s u) (o : Obj) : Wq w a p q s (u.alloc o) :=
  have hb : Below u.heap.size u (u.alloc o) := (Below.refl _ _).alloc (Nat.le_refl _) _
  ⟨Bk.kept h.po (hb.block _ (Bk.lt h.po)), Bk.kept h.rp (hb.block _ (Bk.lt h.rp)), h.ne, h.lp, h.lq, h.be.trans (hb.mono h.be.size)⟩
theorem Wq.mods {w u u1 u2 : World} {a : As} {p q : Nat} {s s' : Pl} (h : Wq w a p q s u) (h1 : Po u1 p s') (g1 : u.grownBy u1 (some p)) (h2 : Rp u2 q a s') (g2 : u1.grownBy u2 (some q)) : Wq w a p q s' u2 :=
  ⟨h1.other g2 h.ne, h2, h.ne, h.lp, h.lq, (below_grown (below_grown h.be g1 h.lp) g2 h.lq)⟩
set_option maxHeartbeats 1000000 in
theorem same_any {w u : World} {a : As} {p q : Nat} {s : Pl} (h : Wq w a p q s u) (ok : OkL s) : Calls Try.prog 17 #[.pointer (some ⟨p, 0, none⟩), .pointer (some ⟨q, 0, none⟩)] u fun e w' => e = .returned (.bool true) ∧ Wq w a p q s w' := by
  have HP : Hid (Wq w a p q s u ∧ OkL s) := ⟨h, ok⟩
  have c12 : u.cell? ⟨q, 12, none⟩ = some (.int .i64 s.exp) := h.rp.cell 12
  have c13 : u.cell? ⟨q, 13, none⟩ = some (.int .i64 s.reach) := h.rp.cell 13
  have c14 : u.cell? ⟨q, 14, none⟩ = some (.int .i64 s.gone) := h.rp.cell 14
  have c15 : u.cell? ⟨q, 15, none⟩ = some (.int .i64 s.next) := h.rp.cell 15
  clear h ok
  go_enter Try.func17, Try.ntmps17
  go_wp2_with fail
  go_quiet (first
    | (go_at_call 13; exact Calls.quiet_of_same (next_any p s _ (HP.out.1.drewN _).po))
    | (go_at_call 15; exact Calls.quiet_of_same (exponent_any p s _ (HP.out.1.drewN _).po))
    | (go_at_call 19; exact Calls.quiet_of_same (reach_any p s _ (HP.out.1.drewN _).po HP.out.2))
    | (go_at_call 20; exact Calls.quiet_of_same (gone_any p s _ (HP.out.1.drewN _).po)))
  go_wp2
  go_ret
  exact ⟨rfl, HP.out.1.drewN _⟩
set_option maxHeartbeats 1000000 in
theorem step_any {w u : World} {a : As} {p q : Nat} {s : Pl} (y : Stp) (h : Wq w a p q s u) (ok : OkL s) : Calls Try.prog 18 #[.pointer (some ⟨p, 0, none⟩), .pointer (some ⟨q, 0, none⟩), .agg (spL y).toArray] u fun e w' => e = .returned (.bool true) ∧ Wq w a p q (stepS s y) w' := by
  have HP : Hid (Wq w a p q s u ∧ OkL s) := ⟨h, ok⟩
  clear h ok
  go_enter Try.func18, Try.ntmps18
  refine post_hid fun Q hQ => ?_
  refine seq_hid fun R hR => ?_
  go_wp2_with fail
  refine world_hid fun W hW => ?_
  have HW : Hid (Wq w a p q s W ∧ Bk u.heap.size W (spL y).toArray 39) := by
    rw [hW.out]
    exact ⟨HP.out.1.alloc _, Bk.new _ _ _⟩
  clear hW
  rw [hR.out]
  clear hR
  have y0 : W.cell? ⟨u.heap.size, 0, none⟩ = some (.int .i64 y.k) := HW.out.2.cell 0
  have y1 : W.cell? ⟨u.heap.size, 1, none⟩ = some (.int .i64 y.t) := HW.out.2.cell 1
  have y2 : W.cell? ⟨u.heap.size, 2, none⟩ = some (.int .i64 y.n) := HW.out.2.cell 2
  by_cases e0 : y.k = 0
  · rw [e0] at y0
    go_wp2_with fail
    refine (sent_any p s _ _ W HW.out.1.po HP.out.2).mono ?_
    rintro e u1 ⟨rfl, h1, g1⟩
    have hne : u.heap.size ≠ p := fun e => by have := Bk.lt HP.out.1.po; omega
    have hB1 : Bk u.heap.size u1 (spL y).toArray 39 := HW.out.2.kept (g1.block _ HW.out.2.lt (fun e => hne (Option.some.inj e)))
    have H1 : Hid (Po u1 p (sentS s y.t y.n) ∧ W.grownBy u1 (some p) ∧ Rp u1 q a s) := ⟨h1, g1, HW.out.1.rp.other g1 (fun e => HW.out.1.ne e.symm)⟩
    clear y0 y1 y2
    have y1 : u1.cell? ⟨u.heap.size, 1, none⟩ = some (.int .i64 y.t) := hB1.cell 1
    have y2 : u1.cell? ⟨u.heap.size, 2, none⟩ = some (.int .i64 y.n) := hB1.cell 2
    clear h1 g1 hB1 hne
    go_wp2_with fail
    refine (rsent_any q a s _ _ u1 H1.out.2.2 HP.out.2).mono ?_
    rintro e u2 ⟨rfl, h2, g2⟩
    have H2 : Hid (Wq w a p q (sentS s y.t y.n) u2) := HW.out.1.mods H1.out.1 H1.out.2.1 h2 g2
    clear h2 g2
    go_wp2_with fail
    rw [hQ.out]
    go_ret
    refine ⟨rfl, ?_⟩
    unfold stepS
    rw [if_pos e0]
    exact H2.out
  by_cases e1 : y.k = 1
  · rw [e1] at y0
    go_wp2_with fail
    refine (heard_any p s _ W HW.out.1.po ⟨HP.out.2.r0, HP.out.2.r1⟩).mono ?_
    rintro e u1 ⟨rfl, h1, g1⟩
    have hne : u.heap.size ≠ p := fun e => by have := Bk.lt HP.out.1.po; omega
    have hB1 : Bk u.heap.size u1 (spL y).toArray 39 := HW.out.2.kept (g1.block _ HW.out.2.lt (fun e => hne (Option.some.inj e)))
    have H1 : Hid (Po u1 p (heardS s) ∧ W.grownBy u1 (some p) ∧ Rp u1 q a s) := ⟨h1, g1, HW.out.1.rp.other g1 (fun e => HW.out.1.ne e.symm)⟩
    clear y0 y1 y2
    have y1 : u1.cell? ⟨u.heap.size, 1, none⟩ = some (.int .i64 y.t) := hB1.cell 1
    have y2 : u1.cell? ⟨u.heap.size, 2, none⟩ = some (.int .i64 y.n) := hB1.cell 2
    clear h1 g1 hB1 hne
    go_wp2_with fail
    refine (rheard_any q a s _ u1 H1.out.2.2 ⟨HP.out.2.r0, HP.out.2.r1⟩).mono ?_
    rintro e u2 ⟨rfl, h2, g2⟩
    have H2 : Hid (Wq w a p q (heardS s) u2) := HW.out.1.mods H1.out.1 H1.out.2.1 h2 g2
    clear h2 g2
    go_wp2_with fail
    rw [hQ.out]
    go_ret
    refine ⟨rfl, ?_⟩
    unfold stepS
    rw [if_neg e0, if_pos e1]
    exact H2.out
  by_cases e2 : y.k = 2
  · rw [e2] at y0
    go_wp2_with fail
    refine (kissed_any p s _ _ W HW.out.1.po HP.out.2).mono ?_
    rintro e u1 ⟨rfl, h1, g1⟩
    have hne : u.heap.size ≠ p := fun e => by have := Bk.lt HP.out.1.po; omega
    have hB1 : Bk u.heap.size u1 (spL y).toArray 39 := HW.out.2.kept (g1.block _ HW.out.2.lt (fun e => hne (Option.some.inj e)))
    have H1 : Hid (Po u1 p (kissS s y.t y.n) ∧ W.grownBy u1 (some p) ∧ Rp u1 q a s) := ⟨h1, g1, HW.out.1.rp.other g1 (fun e => HW.out.1.ne e.symm)⟩
    clear y0 y1 y2
    have y1 : u1.cell? ⟨u.heap.size, 1, none⟩ = some (.int .i64 y.t) := hB1.cell 1
    have y2 : u1.cell? ⟨u.heap.size, 2, none⟩ = some (.int .i64 y.n) := hB1.cell 2
    clear h1 g1 hB1 hne
    go_wp2_with fail
    refine (rkissed_any q a s _ _ u1 H1.out.2.2 HP.out.2).mono ?_
    rintro e u2 ⟨rfl, h2, g2⟩
    have H2 : Hid (Wq w a p q (kissS s y.t y.n) u2) := HW.out.1.mods H1.out.1 H1.out.2.1 h2 g2
    clear h2 g2
    go_wp2_with fail
    rw [hQ.out]
    go_ret
    refine ⟨rfl, ?_⟩
    unfold stepS
    rw [if_neg e0, if_neg e1, if_pos e2]
    exact H2.out
  by_cases e3 : y.k = 3
  · rw [e3] at y0
    obtain ⟨D, hD⟩ : ∃ D, decide (s.next ≤ ck y.t) = D := ⟨_, rfl⟩
    have HA : Hid (∀ m, Calls Try.prog 11 #[.pointer (some ⟨p, 0, none⟩), .int .i64 y.t] (W.drewN m) fun e w' => e = .returned (.bool D) ∧ ∃ k, w' = (W.drewN m).drewN k) := fun m => by rw [← hD]; exact due_any p s _ _ (HW.out.1.drewN m).po
    have HB : Hid (∀ m, Calls Try.prog 30 #[.pointer (some ⟨q, 0, none⟩), .int .i64 y.t] (W.drewN m) fun e w' => e = .returned (.bool D) ∧ ∃ k, w' = (W.drewN m).drewN k) := fun m => by rw [← hD]; exact rdue_any q a s _ _ (HW.out.1.drewN m).rp
    clear hD
    go_wp2_with fail
    go_quiet (first
      | (go_at_call 11; exact Calls.quiet_of (HA.out _))
      | (go_at_call 30; exact Calls.quiet_of (HB.out _)))
    go_wp2_with fail
    rw [hQ.out]
    go_ret
    refine ⟨ret_bool' (by simp), ?_⟩
    unfold stepS
    rw [if_neg e0, if_neg e1, if_neg e2]
    exact HW.out.1.drewN _
  · go_wp2_with fail
    rw [hQ.out]
    go_ret
    refine ⟨rfl, ?_⟩
    unfold stepS
    rw [if_neg e0, if_neg e1, if_neg e2]
    exact HW.out.1
end Go.Proofs.Ytocaiimhbmhakaa
