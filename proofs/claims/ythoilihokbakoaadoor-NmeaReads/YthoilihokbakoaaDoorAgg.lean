/- A struct of integers by value: opened and shut. -/
import Derived.WalkKit
import Derived.ProofKit
import Derived.OpenShut
import Derived.Deep.Fields
namespace Go.Agg
open Go.ChangeShapes Go.WideShapes Go.ChangeAt Go.RowKit Go.Deep
theorem list2 {α : Type} {l : List α} (h : l.length = 2) : ∃ c0 c1, l = [c0, c1] := by
  match l, h with
  | [c0, c1], _ => exact ⟨c0, c1, rfl⟩
theorem open_ints2 {H : Type} {enc : TypeId × Value → H} {P : Program} {w : World} {base : Nat} {spare : Nat → Bool} {held : Bool} {r : Reach} {b0 : Nat} {t : TypeId} {f0 f1 : Field} {k0 k1 : IntKind} {v : Value} {d : DataW H} {p : List MemPlace} (hs : P.underlying t = some (.struct #[f0, f1])) (hone : oneCellFields P #[f0, f1] = true) (hC : P.cellsOf t = 2) (u0 : P.underlying f0.type = some (.int k0)) (u1 : P.underlying f1.type = some (.int k1))
    (hv : Value.okWide P w r b0 t v) (h : DataW.Trod enc P w base spare held t v d p) :
    ∃ a0 a1 : Int, v = .agg #[.int k0 a0, .int k1 a1] ∧ d = .agg [.lit (.int k0 a0), .lit (.int k1 a1)] ∧ p = [] ∧ (Lit.int k0 a0).wf = true ∧ (Lit.int k1 a1).wf = true := by
  obtain ⟨cs, rfl, hsz⟩ := okWide_struct hs hv
  obtain ⟨l⟩ := cs
  obtain ⟨c0, c1, rfl⟩ := list2 (show l.length = 2 from hsz.trans hC)
  obtain ⟨fuel, hf⟩ := h
  obtain ⟨xs, n, _, hx, _, hlen, hg⟩ := DataW.trod_struct hs hf
  obtain ⟨x0, x1, rfl⟩ := list2 (show xs.length = 2 from hlen)
  obtain ⟨o0, z0⟩ := hone_of hone 0 f0 rfl
  have g0 := hg 0 f0 rfl
  rw [o0, z0] at g0
  obtain ⟨a0, e0, y0, w0⟩ := DataW.trod_int u0 (show DataW.trod enc P w base spare held n f0.type _ = some x0 from g0)
  simp [Value.cells] at e0
  obtain ⟨o1, z1⟩ := hone_of hone 1 f1 rfl
  have g1 := hg 1 f1 rfl
  rw [o1, z1] at g1
  obtain ⟨a1, e1, y1, w1⟩ := DataW.trod_int u1 (show DataW.trod enc P w base spare held n f1.type _ = some x1 from g1)
  simp [Value.cells] at e1
  subst e0 e1 y0 y1
  simp only [Prod.mk.injEq] at hx
  exact ⟨a0, a1, rfl, hx.1, hx.2, w0, w1⟩
theorem shut_ints2 {H : Type} {enc : TypeId × Value → H} {P : Program} {w : World} {base : Nat} {spare : Nat → Bool} {held : Bool} {t : TypeId} {f0 f1 : Field} {k0 k1 : IntKind} {a0 a1 : Int} (hs : P.underlying t = some (.struct #[f0, f1])) (hone : oneCellFields P #[f0, f1] = true) (hC : P.cellsOf t = 2) (u0 : P.underlying f0.type = some (.int k0)) (u1 : P.underlying f1.type = some (.int k1)) (w0 : (Lit.int k0 a0).wf = true) (w1 : (Lit.int k1 a1).wf = true) :
    DataW.Trod enc P w base spare held t (.agg #[.int k0 a0, .int k1 a1]) (.agg [.lit (.int k0 a0), .lit (.int k1 a1)]) [] := by
  obtain ⟨o0, z0⟩ := hone_of hone 0 f0 rfl
  have s0 : DataW.trod enc P w base spare held 1 f0.type [.int k0 a0] = some (.lit (.int k0 a0), []) := by simp [DataW.trod, u0, w0]
  obtain ⟨o1, z1⟩ := hone_of hone 1 f1 rfl
  have s1 : DataW.trod enc P w base spare held 1 f1.type [.int k1 a1] = some (.lit (.int k1 a1), []) := by simp [DataW.trod, u1, w1]
  have ts := trod_struct_mk (enc := enc) (w := w) (base := base) (spare := spare) (held := held) (n := 1) (cs := [.int k0 a0, .int k1 a1]) (xs := [(.lit (.int k0 a0), []), (.lit (.int k1 a1), [])]) hs (by simp [hC]) (by simp [o0, z0, s0, o1, z1, s1])
  exact ⟨2, by simpa [Value.cells] using ts⟩
theorem list7 {α : Type} {l : List α} (h : l.length = 7) : ∃ c0 c1 c2 c3 c4 c5 c6, l = [c0, c1, c2, c3, c4, c5, c6] := by
  match l, h with
  | [c0, c1, c2, c3, c4, c5, c6], _ => exact ⟨c0, c1, c2, c3, c4, c5, c6, rfl⟩
theorem open_ints7 {H : Type} {enc : TypeId × Value → H} {P : Program} {w : World} {base : Nat} {spare : Nat → Bool} {held : Bool} {r : Reach} {b0 : Nat} {t : TypeId} {f0 f1 f2 f3 f4 f5 f6 : Field} {k0 k1 k2 k3 k4 k5 k6 : IntKind} {v : Value} {d : DataW H} {p : List MemPlace} (hs : P.underlying t = some (.struct #[f0, f1, f2, f3, f4, f5, f6])) (hone : oneCellFields P #[f0, f1, f2, f3, f4, f5, f6] = true) (hC : P.cellsOf t = 7) (u0 : P.underlying f0.type = some (.int k0)) (u1 : P.underlying f1.type = some (.int k1)) (u2 : P.underlying f2.type = some (.int k2)) (u3 : P.underlying f3.type = some (.int k3)) (u4 : P.underlying f4.type = some (.int k4)) (u5 : P.underlying f5.type = some (.int k5)) (u6 : P.underlying f6.type = some (.int k6))
    (hv : Value.okWide P w r b0 t v) (h : DataW.Trod enc P w base spare held t v d p) :
    ∃ a0 a1 a2 a3 a4 a5 a6 : Int, v = .agg #[.int k0 a0, .int k1 a1, .int k2 a2, .int k3 a3, .int k4 a4, .int k5 a5, .int k6 a6] ∧ d = .agg [.lit (.int k0 a0), .lit (.int k1 a1), .lit (.int k2 a2), .lit (.int k3 a3), .lit (.int k4 a4), .lit (.int k5 a5), .lit (.int k6 a6)] ∧ p = [] ∧ (Lit.int k0 a0).wf = true ∧ (Lit.int k1 a1).wf = true ∧ (Lit.int k2 a2).wf = true ∧ (Lit.int k3 a3).wf = true ∧ (Lit.int k4 a4).wf = true ∧ (Lit.int k5 a5).wf = true ∧ (Lit.int k6 a6).wf = true := by
  obtain ⟨cs, rfl, hsz⟩ := okWide_struct hs hv
  obtain ⟨l⟩ := cs
  obtain ⟨c0, c1, c2, c3, c4, c5, c6, rfl⟩ := list7 (show l.length = 7 from hsz.trans hC)
  obtain ⟨fuel, hf⟩ := h
  obtain ⟨xs, n, _, hx, _, hlen, hg⟩ := DataW.trod_struct hs hf
  obtain ⟨x0, x1, x2, x3, x4, x5, x6, rfl⟩ := list7 (show xs.length = 7 from hlen)
  obtain ⟨o0, z0⟩ := hone_of hone 0 f0 rfl
  have g0 := hg 0 f0 rfl
  rw [o0, z0] at g0
  obtain ⟨a0, e0, y0, w0⟩ := DataW.trod_int u0 (show DataW.trod enc P w base spare held n f0.type _ = some x0 from g0)
  simp [Value.cells] at e0
  obtain ⟨o1, z1⟩ := hone_of hone 1 f1 rfl
  have g1 := hg 1 f1 rfl
  rw [o1, z1] at g1
  obtain ⟨a1, e1, y1, w1⟩ := DataW.trod_int u1 (show DataW.trod enc P w base spare held n f1.type _ = some x1 from g1)
  simp [Value.cells] at e1
  obtain ⟨o2, z2⟩ := hone_of hone 2 f2 rfl
  have g2 := hg 2 f2 rfl
  rw [o2, z2] at g2
  obtain ⟨a2, e2, y2, w2⟩ := DataW.trod_int u2 (show DataW.trod enc P w base spare held n f2.type _ = some x2 from g2)
  simp [Value.cells] at e2
  obtain ⟨o3, z3⟩ := hone_of hone 3 f3 rfl
  have g3 := hg 3 f3 rfl
  rw [o3, z3] at g3
  obtain ⟨a3, e3, y3, w3⟩ := DataW.trod_int u3 (show DataW.trod enc P w base spare held n f3.type _ = some x3 from g3)
  simp [Value.cells] at e3
  obtain ⟨o4, z4⟩ := hone_of hone 4 f4 rfl
  have g4 := hg 4 f4 rfl
  rw [o4, z4] at g4
  obtain ⟨a4, e4, y4, w4⟩ := DataW.trod_int u4 (show DataW.trod enc P w base spare held n f4.type _ = some x4 from g4)
  simp [Value.cells] at e4
  obtain ⟨o5, z5⟩ := hone_of hone 5 f5 rfl
  have g5 := hg 5 f5 rfl
  rw [o5, z5] at g5
  obtain ⟨a5, e5, y5, w5⟩ := DataW.trod_int u5 (show DataW.trod enc P w base spare held n f5.type _ = some x5 from g5)
  simp [Value.cells] at e5
  obtain ⟨o6, z6⟩ := hone_of hone 6 f6 rfl
  have g6 := hg 6 f6 rfl
  rw [o6, z6] at g6
  obtain ⟨a6, e6, y6, w6⟩ := DataW.trod_int u6 (show DataW.trod enc P w base spare held n f6.type _ = some x6 from g6)
  simp [Value.cells] at e6
  subst e0 e1 e2 e3 e4 e5 e6 y0 y1 y2 y3 y4 y5 y6
  simp only [Prod.mk.injEq] at hx
  exact ⟨a0, a1, a2, a3, a4, a5, a6, rfl, hx.1, hx.2, w0, w1, w2, w3, w4, w5, w6⟩
theorem shut_ints7 {H : Type} {enc : TypeId × Value → H} {P : Program} {w : World} {base : Nat} {spare : Nat → Bool} {held : Bool} {t : TypeId} {f0 f1 f2 f3 f4 f5 f6 : Field} {k0 k1 k2 k3 k4 k5 k6 : IntKind} {a0 a1 a2 a3 a4 a5 a6 : Int} (hs : P.underlying t = some (.struct #[f0, f1, f2, f3, f4, f5, f6])) (hone : oneCellFields P #[f0, f1, f2, f3, f4, f5, f6] = true) (hC : P.cellsOf t = 7) (u0 : P.underlying f0.type = some (.int k0)) (u1 : P.underlying f1.type = some (.int k1)) (u2 : P.underlying f2.type = some (.int k2)) (u3 : P.underlying f3.type = some (.int k3)) (u4 : P.underlying f4.type = some (.int k4)) (u5 : P.underlying f5.type = some (.int k5)) (u6 : P.underlying f6.type = some (.int k6)) (w0 : (Lit.int k0 a0).wf = true) (w1 : (Lit.int k1 a1).wf = true) (w2 : (Lit.int k2 a2).wf = true) (w3 : (Lit.int k3 a3).wf = true) (w4 : (Lit.int k4 a4).wf = true) (w5 : (Lit.int k5 a5).wf = true) (w6 : (Lit.int k6 a6).wf = true) :
    DataW.Trod enc P w base spare held t (.agg #[.int k0 a0, .int k1 a1, .int k2 a2, .int k3 a3, .int k4 a4, .int k5 a5, .int k6 a6]) (.agg [.lit (.int k0 a0), .lit (.int k1 a1), .lit (.int k2 a2), .lit (.int k3 a3), .lit (.int k4 a4), .lit (.int k5 a5), .lit (.int k6 a6)]) [] := by
  obtain ⟨o0, z0⟩ := hone_of hone 0 f0 rfl
  have s0 : DataW.trod enc P w base spare held 1 f0.type [.int k0 a0] = some (.lit (.int k0 a0), []) := by simp [DataW.trod, u0, w0]
  obtain ⟨o1, z1⟩ := hone_of hone 1 f1 rfl
  have s1 : DataW.trod enc P w base spare held 1 f1.type [.int k1 a1] = some (.lit (.int k1 a1), []) := by simp [DataW.trod, u1, w1]
  obtain ⟨o2, z2⟩ := hone_of hone 2 f2 rfl
  have s2 : DataW.trod enc P w base spare held 1 f2.type [.int k2 a2] = some (.lit (.int k2 a2), []) := by simp [DataW.trod, u2, w2]
  obtain ⟨o3, z3⟩ := hone_of hone 3 f3 rfl
  have s3 : DataW.trod enc P w base spare held 1 f3.type [.int k3 a3] = some (.lit (.int k3 a3), []) := by simp [DataW.trod, u3, w3]
  obtain ⟨o4, z4⟩ := hone_of hone 4 f4 rfl
  have s4 : DataW.trod enc P w base spare held 1 f4.type [.int k4 a4] = some (.lit (.int k4 a4), []) := by simp [DataW.trod, u4, w4]
  obtain ⟨o5, z5⟩ := hone_of hone 5 f5 rfl
  have s5 : DataW.trod enc P w base spare held 1 f5.type [.int k5 a5] = some (.lit (.int k5 a5), []) := by simp [DataW.trod, u5, w5]
  obtain ⟨o6, z6⟩ := hone_of hone 6 f6 rfl
  have s6 : DataW.trod enc P w base spare held 1 f6.type [.int k6 a6] = some (.lit (.int k6 a6), []) := by simp [DataW.trod, u6, w6]
  have ts := trod_struct_mk (enc := enc) (w := w) (base := base) (spare := spare) (held := held) (n := 1) (cs := [.int k0 a0, .int k1 a1, .int k2 a2, .int k3 a3, .int k4 a4, .int k5 a5, .int k6 a6]) (xs := [(.lit (.int k0 a0), []), (.lit (.int k1 a1), []), (.lit (.int k2 a2), []), (.lit (.int k3 a3), []), (.lit (.int k4 a4), []), (.lit (.int k5 a5), []), (.lit (.int k6 a6), [])]) hs (by simp [hC]) (by simp [o0, z0, s0, o1, z1, s1, o2, z2, s2, o3, z3, s3, o4, z4, s4, o5, z5, s5, o6, z6, s6])
  exact ⟨2, by simpa [Value.cells] using ts⟩
end Go.Agg
