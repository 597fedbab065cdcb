/- A packet of control and bytes that came in: opened. -/
import Derived.Test.YtdobghhjlfffpaaWD
import Derived.ProofKit
import Derived.OpenShut
import Derived.Deep.Fields
namespace Go.Proofs.Ytdobghhjlfffpaa
open Go.ChangeShapes Go.WideShapes Go.ChangeAt Go.RowKit Go.Deep
theorem u8_wf {n : Int} (h : (Lit.int .u8 n).wf = true) : 0 ≤ n ∧ n < 256 := by
  have e1 : IntKind.u8.min = 0 := by decide
  have e2 : IntKind.u8.max = 255 := by decide
  simp [Lit.wf, e1, e2] at h
  omega
/-- a slice of bytes that came in -/
theorem open_u8 {H : Type} {enc : TypeId × Value → H} {w : World} {base : Nat} {spare : Nat → Bool} {held : Bool} {t : TypeId} {fuel : Nat} {c : Value} {x : DataW H × List MemPlace} (ht : Try.prog.underlying t = some (.slice 5))
    (h : DataW.trod enc Try.prog w base spare held fuel t [c] = some x) : ∃ bs, Sv w.heap.size w c bs ∧ bs.length ≤ maxLen := by
  rcases open_ints ht Try.underlying5 (by kernel_rfl) h with ⟨hcs, _⟩ | ⟨a, len, cap, zs, hcs, _, hl, hm, hz, _, hcell, hwz⟩
  · simp at hcs
    exact ⟨[], by rw [hcs]; exact Sv.nil _ _, by simp⟩
  · simp at hcs
    have hzl : len ≤ zs.length := by rw [hz]; split <;> omega
    have hbl : (zs.take len).length = len := by rw [List.length_take]; omega
    refine ⟨zs.take len, ⟨some a, cap, by rw [hbl]; exact hcs, by rw [hbl]; exact hl, by simp, fun k hk => ?_, fun b hb => u8_wf (hwz b (List.mem_of_mem_take hb))⟩, by rw [hbl]; omega⟩
    rw [hbl] at hk
    have hc := hcell k (by omega)
    refine ⟨a, rfl, ?_, ?_⟩
    · have := World.block_lt_of_cell? w _ hc
      rwa [add_block] at this
    · rw [hc, List.getD_eq_getElem?_getD, List.getD_eq_getElem?_getD, List.getElem?_take_of_lt hk]
theorem list12 {α : Type} {l : List α} (h : l.length = 12) : ∃ c0 c1 c2 c3 c4 c5 c6 c7 c8 c9 c10 c11, l = [c0, c1, c2, c3, c4, c5, c6, c7, c8, c9, c10, c11] := by
  match l, h with
  | [c0, c1, c2, c3, c4, c5, c6, c7, c8, c9, c10, c11], _ => exact ⟨c0, c1, c2, c3, c4, c5, c6, c7, c8, c9, c10, c11, rfl⟩
theorem open_control {H : Type} {enc : TypeId × Value → H} {w : World} {base : Nat} {spare : Nat → Bool} {held : Bool} {r : Reach} {b0 : Nat} {v : Value} {d : DataW H} {p : List MemPlace} {f0 f1 f2 f3 f4 f5 f6 f7 f8 f9 f10 f11 : Field}
    (hs : Try.prog.underlying 45 = some (.struct #[f0, f1, f2, f3, f4, f5, f6, f7, f8, f9, f10, f11])) (hone : oneCellFields Try.prog #[f0, f1, f2, f3, f4, f5, f6, f7, f8, f9, f10, f11] = true) (hC : Try.prog.cellsOf 45 = 12)
    (u0 : Try.prog.underlying f0.type = some (.int .i64)) (u1 : Try.prog.underlying f1.type = some .bool) (u2 : Try.prog.underlying f2.type = some .bool) (u3 : Try.prog.underlying f3.type = some .bool) (u4 : Try.prog.underlying f4.type = some (.int .i64)) (u5 : Try.prog.underlying f5.type = some (.int .i64)) (u6 : Try.prog.underlying f6.type = some (.int .i64)) (u7 : Try.prog.underlying f7.type = some (.int .i64)) (u8 : Try.prog.underlying f8.type = some (.int .i64)) (u9 : Try.prog.underlying f9.type = some (.slice 5)) (u10 : Try.prog.underlying f10.type = some (.int .i64)) (u11 : Try.prog.underlying f11.type = some (.slice 5))
    (hv : Value.okWide Try.prog w r b0 45 v) (h : DataW.Trod enc Try.prog w base spare held 45 v d p) :
    ∃ (ver : Int) (r e m : Bool) (op seq sta ass off : Int) (dv : Value) (key : Int) (mv : Value) (data mac : List Int), v = ctV ver r e m op seq sta ass off dv key mv ∧ Sv w.heap.size w dv data ∧ data.length ≤ maxLen ∧ Sv w.heap.size w mv mac ∧ mac.length ≤ maxLen := by
  obtain ⟨cs, rfl, hsz⟩ := okWide_struct hs hv
  obtain ⟨l⟩ := cs
  obtain ⟨c0, c1, c2, c3, c4, c5, c6, c7, c8, c9, c10, c11, rfl⟩ := list12 (show l.length = 12 from hsz.trans hC)
  obtain ⟨fuel, hf⟩ := h
  obtain ⟨xs, n, _, hx, _, hlen, hg⟩ := DataW.trod_struct hs hf
  obtain ⟨x0, x1, x2, x3, x4, x5, x6, x7, x8, x9, x10, x11, rfl⟩ := list12 (show xs.length = 12 from hlen)
  obtain ⟨o0, z0⟩ := hone_of hone 0 f0 rfl
  have g0 := hg 0 f0 rfl
  rw [o0, z0] at g0
  have g0' : DataW.trod enc Try.prog w base spare held n f0.type [c0] = some x0 := g0
  obtain ⟨a0, e0, -⟩ := DataW.trod_int u0 g0'
  simp at e0
  obtain ⟨o1, z1⟩ := hone_of hone 1 f1 rfl
  have g1 := hg 1 f1 rfl
  rw [o1, z1] at g1
  have g1' : DataW.trod enc Try.prog w base spare held n f1.type [c1] = some x1 := g1
  obtain ⟨a1, e1, -⟩ := DataW.trod_bool u1 g1'
  simp at e1
  obtain ⟨o2, z2⟩ := hone_of hone 2 f2 rfl
  have g2 := hg 2 f2 rfl
  rw [o2, z2] at g2
  have g2' : DataW.trod enc Try.prog w base spare held n f2.type [c2] = some x2 := g2
  obtain ⟨a2, e2, -⟩ := DataW.trod_bool u2 g2'
  simp at e2
  obtain ⟨o3, z3⟩ := hone_of hone 3 f3 rfl
  have g3 := hg 3 f3 rfl
  rw [o3, z3] at g3
  have g3' : DataW.trod enc Try.prog w base spare held n f3.type [c3] = some x3 := g3
  obtain ⟨a3, e3, -⟩ := DataW.trod_bool u3 g3'
  simp at e3
  obtain ⟨o4, z4⟩ := hone_of hone 4 f4 rfl
  have g4 := hg 4 f4 rfl
  rw [o4, z4] at g4
  have g4' : DataW.trod enc Try.prog w base spare held n f4.type [c4] = some x4 := g4
  obtain ⟨a4, e4, -⟩ := DataW.trod_int u4 g4'
  simp at e4
  obtain ⟨o5, z5⟩ := hone_of hone 5 f5 rfl
  have g5 := hg 5 f5 rfl
  rw [o5, z5] at g5
  have g5' : DataW.trod enc Try.prog w base spare held n f5.type [c5] = some x5 := g5
  obtain ⟨a5, e5, -⟩ := DataW.trod_int u5 g5'
  simp at e5
  obtain ⟨o6, z6⟩ := hone_of hone 6 f6 rfl
  have g6 := hg 6 f6 rfl
  rw [o6, z6] at g6
  have g6' : DataW.trod enc Try.prog w base spare held n f6.type [c6] = some x6 := g6
  obtain ⟨a6, e6, -⟩ := DataW.trod_int u6 g6'
  simp at e6
  obtain ⟨o7, z7⟩ := hone_of hone 7 f7 rfl
  have g7 := hg 7 f7 rfl
  rw [o7, z7] at g7
  have g7' : DataW.trod enc Try.prog w base spare held n f7.type [c7] = some x7 := g7
  obtain ⟨a7, e7, -⟩ := DataW.trod_int u7 g7'
  simp at e7
  obtain ⟨o8, z8⟩ := hone_of hone 8 f8 rfl
  have g8 := hg 8 f8 rfl
  rw [o8, z8] at g8
  have g8' : DataW.trod enc Try.prog w base spare held n f8.type [c8] = some x8 := g8
  obtain ⟨a8, e8, -⟩ := DataW.trod_int u8 g8'
  simp at e8
  obtain ⟨o9, z9⟩ := hone_of hone 9 f9 rfl
  have g9 := hg 9 f9 rfl
  rw [o9, z9] at g9
  have g9' : DataW.trod enc Try.prog w base spare held n f9.type [c9] = some x9 := g9
  obtain ⟨s9, y9, l9⟩ := open_u8 u9 g9'
  obtain ⟨o10, z10⟩ := hone_of hone 10 f10 rfl
  have g10 := hg 10 f10 rfl
  rw [o10, z10] at g10
  have g10' : DataW.trod enc Try.prog w base spare held n f10.type [c10] = some x10 := g10
  obtain ⟨a10, e10, -⟩ := DataW.trod_int u10 g10'
  simp at e10
  obtain ⟨o11, z11⟩ := hone_of hone 11 f11 rfl
  have g11 := hg 11 f11 rfl
  rw [o11, z11] at g11
  have g11' : DataW.trod enc Try.prog w base spare held n f11.type [c11] = some x11 := g11
  obtain ⟨s11, y11, l11⟩ := open_u8 u11 g11'
  subst e0 e1 e2 e3 e4 e5 e6 e7 e8 e10
  exact ⟨a0, a1, a2, a3, a4, a5, a6, a7, a8, c9, a10, c11, s9, s11, rfl, y9, l9, y11, l11⟩
end Go.Proofs.Ytdobghhjlfffpaa
