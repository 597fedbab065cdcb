/- A packet of time that came in: opened. -/
import Derived.Test.YtdobghhjlfffpaaXA
import Derived.Test.YtdobghhjlfffpaaWS
import Derived.Deep.SlicePairs
import Derived.SizedLaws
namespace Go.Proofs.Ytdobghhjlfffpaa
open Go.ChangeShapes Go.WideShapes Go.ChangeAt Go.RowKit Go.Deep
/-- fields that came in -/
theorem open_exts {H : Type} {enc : TypeId × Value → H} {w : World} {base : Nat} {spare : Nat → Bool} {held : Bool} {t e : TypeId} {f0 f1 : Field} {fuel : Nat} {c : Value} {x : DataW H × List MemPlace} (ht : Try.prog.underlying t = some (.slice e)) (he : Try.prog.underlying e = some (.struct #[f0, f1]))
    (ce : Try.prog.cellsOf e = 2) (o0 : f0.offset = 0) (o1 : f1.offset = 1) (c0 : Try.prog.cellsOf f0.type = 1) (c1 : Try.prog.cellsOf f1.type = 1) (u0 : Try.prog.underlying f0.type = some (.int .i64)) (u1 : Try.prog.underlying f1.type = some (.slice 5))
    (h : DataW.trod enc Try.prog w base spare held fuel t [c] = some x) : ∃ xs, Es w.heap.size w c xs ∧ xs.length ≤ maxLen ∧ (∀ x ∈ xs, x.dat.length ≤ maxLen) ∧ (∀ K, (∀ n ∈ x.1.weights Try.prog t, n ≤ K) → xs.length * Try.prog.bytesOf e ≤ K) := by
  rcases open_slice_pairs ht he ce o0 o1 c0 c1 h with ⟨hcs, _⟩ | ⟨a, len, cap, m, n, V0, V1, D0, D1, P0, P1, hcs, _, hl, hm, hmm, hxd, hx⟩
  · simp at hcs
    exact ⟨[], ⟨none, 0, by rw [hcs]; rfl, by simp, fun _ => rfl, fun i hi => absurd hi (by simp)⟩, by simp, by simp, fun K _ => by simp⟩
  · simp at hcs
    have hlm : len ≤ m := by rw [hmm]; split <;> omega
    have each : ∀ i, ∃ p : Int × List Int, i < len → V0 i = .int .i64 p.1 ∧ Sv w.heap.size w (V1 i) p.2 ∧ p.2.length ≤ maxLen := fun i => by
      by_cases hi : i < len
      · obtain ⟨_, _, h3, h4⟩ := hx i (by omega)
        obtain ⟨ty, e0, -⟩ := DataW.trod_int u0 h3
        obtain ⟨bs, hs, hb⟩ := open_u8 u1 h4
        simp at e0
        exact ⟨(ty, bs), fun _ => ⟨e0, hs, hb⟩⟩
      · exact ⟨(0, []), fun h => absurd h hi⟩
    obtain ⟨F, hF⟩ := Classical.axiomOfChoice each
    have hlen : ((List.range len).map (fun i => (⟨(F i).1, V1 i, (F i).2⟩ : Xt))).length = len := by simp
    refine ⟨(List.range len).map (fun i => (⟨(F i).1, V1 i, (F i).2⟩ : Xt)), ⟨some a, cap, by rw [hlen]; exact hcs, by rw [hlen]; exact hl, by simp, fun i hi => ?_⟩, by rw [hlen]; omega, fun x hx' => ?_, fun K hK => ?_⟩
    · rw [hlen] at hi
      obtain ⟨h1, h2, _, _⟩ := hx i (by omega)
      obtain ⟨g1, g2, _⟩ := hF i hi
      refine ⟨a, rfl, ?_, ?_, ?_, ?_⟩
      · have := World.block_lt_of_cell? w _ h1
        rwa [add_block] at this
      · rw [Nat.mul_comm, h1, g1]; simp
      · rw [Nat.mul_comm, h2]; simp
      · simpa using g2
    · obtain ⟨i, hi, rfl⟩ := List.mem_map.1 hx'
      exact (hF i (List.mem_range.1 hi)).2.2
    · rw [hlen]
      have h1 := hK ((len + (m - len)) * Try.prog.bytesOf e) (by rw [hxd]; simp [DataW.weights, ht])
      exact Nat.le_trans (Nat.mul_le_mul_right _ (by omega)) h1
theorem list17 {α : Type} {l : List α} (h : l.length = 17) : ∃ c0 c1 c2 c3 c4 c5 c6 c7 c8 c9 c10 c11 c12 c13 c14 c15 c16, l = [c0, c1, c2, c3, c4, c5, c6, c7, c8, c9, c10, c11, c12, c13, c14, c15, c16] := by
  match l, h with
  | [c0, c1, c2, c3, c4, c5, c6, c7, c8, c9, c10, c11, c12, c13, c14, c15, c16], _ => exact ⟨c0, c1, c2, c3, c4, c5, c6, c7, c8, c9, c10, c11, c12, c13, c14, c15, c16, rfl⟩
theorem u32_wf {n : Int} (h : (Lit.int .u32 n).wf = true) : 0 ≤ n ∧ n < 4294967296 := by
  have e1 : IntKind.u32.min = 0 := by decide
  have e2 : IntKind.u32.max = 4294967295 := by decide
  simp [Lit.wf, e1, e2] at h
  omega
theorem u64_wf {n : Int} (h : (Lit.int .u64 n).wf = true) : 0 ≤ n ∧ n < 18446744073709551616 := by
  have e1 : IntKind.u64.min = 0 := by decide
  have e2 : IntKind.u64.max = 18446744073709551615 := by decide
  simp [Lit.wf, e1, e2] at h
  omega
theorem open_packet {H : Type} {enc : TypeId × Value → H} {w : World} {base : Nat} {spare : Nat → Bool} {held : Bool} {r : Reach} {b0 : Nat} {v : Value} {d : DataW H} {p : List MemPlace} {ee : TypeId} {f0 f1 f2 f3 f4 f5 f6 f7 f8 f9 f10 f11 f12 f13 f14 f15 f16 x0 x1 : Field}
    (hs : Try.prog.underlying 29 = some (.struct #[f0, f1, f2, f3, f4, f5, f6, f7, f8, f9, f10, f11, f12, f13, f14, f15, f16])) (hone : oneCellFields Try.prog #[f0, f1, f2, f3, f4, f5, f6, f7, f8, f9, f10, f11, f12, f13, f14, f15, f16] = true) (hC : Try.prog.cellsOf 29 = 17)
    (u0 : Try.prog.underlying f0.type = some (.int .i64)) (u1 : Try.prog.underlying f1.type = some (.int .i64)) (u2 : Try.prog.underlying f2.type = some (.int .i64)) (u3 : Try.prog.underlying f3.type = some (.int .i64)) (u4 : Try.prog.underlying f4.type = some (.int .i64)) (u5 : Try.prog.underlying f5.type = some (.int .i64)) (u6 : Try.prog.underlying f6.type = some (.int .i64)) (u7 : Try.prog.underlying f7.type = some (.int .i64)) (u8 : Try.prog.underlying f8.type = some (.int .u32)) (u9 : Try.prog.underlying f9.type = some (.int .u64)) (u10 : Try.prog.underlying f10.type = some (.int .u64)) (u11 : Try.prog.underlying f11.type = some (.int .u64)) (u12 : Try.prog.underlying f12.type = some (.int .u64)) (u13 : Try.prog.underlying f13.type = some (.slice ee)) (u14 : Try.prog.underlying f14.type = some (.int .i64)) (u15 : Try.prog.underlying f15.type = some .bool) (u16 : Try.prog.underlying f16.type = some (.slice 5))
    (he : Try.prog.underlying ee = some (.struct #[x0, x1])) (ce : Try.prog.cellsOf ee = 2) (o0 : x0.offset = 0) (o1 : x1.offset = 1) (k0 : Try.prog.cellsOf x0.type = 1) (k1 : Try.prog.cellsOf x1.type = 1) (y0 : Try.prog.underlying x0.type = some (.int .i64)) (y1 : Try.prog.underlying x1.type = some (.slice 5))
    (hv : Value.okWide Try.prog w r b0 29 v) (h : DataW.Trod enc Try.prog w base spare held 29 v d p) :
    ∃ (hd : Hd) (ev : Value) (key : Int) (nak : Bool) (mv : Value) (xs : List Xt) (mac : List Int), v = pkV hd ev key nak mv ∧ Es w.heap.size w ev xs ∧ xs.length ≤ maxLen ∧ (∀ x ∈ xs, x.dat.length ≤ maxLen) ∧ Sv w.heap.size w mv mac ∧ mac.length ≤ maxLen ∧ 0 ≤ hd.rid ∧ hd.rid < 4294967296 ∧ 0 ≤ hd.t3 ∧ hd.t3 < 18446744073709551616 ∧ (∀ K, (∀ n ∈ d.weights Try.prog 29, n ≤ K) → xs.length * Try.prog.bytesOf ee ≤ K) := by
  obtain ⟨cs, rfl, hsz⟩ := okWide_struct hs hv
  obtain ⟨l⟩ := cs
  obtain ⟨c0, c1, c2, c3, c4, c5, c6, c7, c8, c9, c10, c11, c12, c13, c14, c15, c16, rfl⟩ := list17 (show l.length = 17 from hsz.trans hC)
  obtain ⟨fuel, hf⟩ := h
  obtain ⟨xs, n, _, hx, _, hlen, hg⟩ := DataW.trod_struct hs hf
  obtain ⟨z0, z1, z2, z3, z4, z5, z6, z7, z8, z9, z10, z11, z12, z13, z14, z15, z16, rfl⟩ := list17 (show xs.length = 17 from hlen)
  obtain ⟨p0, q0⟩ := hone_of hone 0 f0 rfl
  have g0 := hg 0 f0 rfl
  rw [p0, q0] at g0
  have g0' : DataW.trod enc Try.prog w base spare held n f0.type [c0] = some z0 := g0
  obtain ⟨a0, e0, -⟩ := DataW.trod_int u0 g0'
  simp at e0
  obtain ⟨p1, q1⟩ := hone_of hone 1 f1 rfl
  have g1 := hg 1 f1 rfl
  rw [p1, q1] at g1
  have g1' : DataW.trod enc Try.prog w base spare held n f1.type [c1] = some z1 := g1
  obtain ⟨a1, e1, -⟩ := DataW.trod_int u1 g1'
  simp at e1
  obtain ⟨p2, q2⟩ := hone_of hone 2 f2 rfl
  have g2 := hg 2 f2 rfl
  rw [p2, q2] at g2
  have g2' : DataW.trod enc Try.prog w base spare held n f2.type [c2] = some z2 := g2
  obtain ⟨a2, e2, -⟩ := DataW.trod_int u2 g2'
  simp at e2
  obtain ⟨p3, q3⟩ := hone_of hone 3 f3 rfl
  have g3 := hg 3 f3 rfl
  rw [p3, q3] at g3
  have g3' : DataW.trod enc Try.prog w base spare held n f3.type [c3] = some z3 := g3
  obtain ⟨a3, e3, -⟩ := DataW.trod_int u3 g3'
  simp at e3
  obtain ⟨p4, q4⟩ := hone_of hone 4 f4 rfl
  have g4 := hg 4 f4 rfl
  rw [p4, q4] at g4
  have g4' : DataW.trod enc Try.prog w base spare held n f4.type [c4] = some z4 := g4
  obtain ⟨a4, e4, -⟩ := DataW.trod_int u4 g4'
  simp at e4
  obtain ⟨p5, q5⟩ := hone_of hone 5 f5 rfl
  have g5 := hg 5 f5 rfl
  rw [p5, q5] at g5
  have g5' : DataW.trod enc Try.prog w base spare held n f5.type [c5] = some z5 := g5
  obtain ⟨a5, e5, -⟩ := DataW.trod_int u5 g5'
  simp at e5
  obtain ⟨p6, q6⟩ := hone_of hone 6 f6 rfl
  have g6 := hg 6 f6 rfl
  rw [p6, q6] at g6
  have g6' : DataW.trod enc Try.prog w base spare held n f6.type [c6] = some z6 := g6
  obtain ⟨a6, e6, -⟩ := DataW.trod_int u6 g6'
  simp at e6
  obtain ⟨p7, q7⟩ := hone_of hone 7 f7 rfl
  have g7 := hg 7 f7 rfl
  rw [p7, q7] at g7
  have g7' : DataW.trod enc Try.prog w base spare held n f7.type [c7] = some z7 := g7
  obtain ⟨a7, e7, -⟩ := DataW.trod_int u7 g7'
  simp at e7
  obtain ⟨p8, q8⟩ := hone_of hone 8 f8 rfl
  have g8 := hg 8 f8 rfl
  rw [p8, q8] at g8
  have g8' : DataW.trod enc Try.prog w base spare held n f8.type [c8] = some z8 := g8
  obtain ⟨a8, e8, -, w8⟩ := DataW.trod_int u8 g8'
  simp at e8
  obtain ⟨p9, q9⟩ := hone_of hone 9 f9 rfl
  have g9 := hg 9 f9 rfl
  rw [p9, q9] at g9
  have g9' : DataW.trod enc Try.prog w base spare held n f9.type [c9] = some z9 := g9
  obtain ⟨a9, e9, -⟩ := DataW.trod_int u9 g9'
  simp at e9
  obtain ⟨p10, q10⟩ := hone_of hone 10 f10 rfl
  have g10 := hg 10 f10 rfl
  rw [p10, q10] at g10
  have g10' : DataW.trod enc Try.prog w base spare held n f10.type [c10] = some z10 := g10
  obtain ⟨a10, e10, -⟩ := DataW.trod_int u10 g10'
  simp at e10
  obtain ⟨p11, q11⟩ := hone_of hone 11 f11 rfl
  have g11 := hg 11 f11 rfl
  rw [p11, q11] at g11
  have g11' : DataW.trod enc Try.prog w base spare held n f11.type [c11] = some z11 := g11
  obtain ⟨a11, e11, -⟩ := DataW.trod_int u11 g11'
  simp at e11
  obtain ⟨p12, q12⟩ := hone_of hone 12 f12 rfl
  have g12 := hg 12 f12 rfl
  rw [p12, q12] at g12
  have g12' : DataW.trod enc Try.prog w base spare held n f12.type [c12] = some z12 := g12
  obtain ⟨a12, e12, -, w12⟩ := DataW.trod_int u12 g12'
  simp at e12
  obtain ⟨p13, q13⟩ := hone_of hone 13 f13 rfl
  have g13 := hg 13 f13 rfl
  rw [p13, q13] at g13
  have g13' : DataW.trod enc Try.prog w base spare held n f13.type [c13] = some z13 := g13
  obtain ⟨s13, t13, l13, m13, k13⟩ := open_exts u13 he ce o0 o1 k0 k1 y0 y1 g13'
  obtain ⟨p14, q14⟩ := hone_of hone 14 f14 rfl
  have g14 := hg 14 f14 rfl
  rw [p14, q14] at g14
  have g14' : DataW.trod enc Try.prog w base spare held n f14.type [c14] = some z14 := g14
  obtain ⟨a14, e14, -⟩ := DataW.trod_int u14 g14'
  simp at e14
  obtain ⟨p15, q15⟩ := hone_of hone 15 f15 rfl
  have g15 := hg 15 f15 rfl
  rw [p15, q15] at g15
  have g15' : DataW.trod enc Try.prog w base spare held n f15.type [c15] = some z15 := g15
  obtain ⟨a15, e15, -⟩ := DataW.trod_bool u15 g15'
  simp at e15
  obtain ⟨p16, q16⟩ := hone_of hone 16 f16 rfl
  have g16 := hg 16 f16 rfl
  rw [p16, q16] at g16
  have g16' : DataW.trod enc Try.prog w base spare held n f16.type [c16] = some z16 := g16
  obtain ⟨s16, t16, l16⟩ := open_u8 u16 g16'
  subst e0 e1 e2 e3 e4 e5 e6 e7 e8 e9 e10 e11 e12 e14 e15
  obtain ⟨r0, r1⟩ := u32_wf w8
  obtain ⟨r2, r3⟩ := u64_wf w12
  refine ⟨⟨a0, a1, a2, a3, a4, a5, a6, a7, a8, a9, a10, a11, a12⟩, c13, a14, a15, c16, s13, s16, rfl, t13, l13, m13, t16, l16, r0, r1, r2, r3, fun K hK => k13 K (fun nn hn => hK nn ?_)⟩
  have hd : d = .agg [z0.1, z1.1, z2.1, z3.1, z4.1, z5.1, z6.1, z7.1, z8.1, z9.1, z10.1, z11.1, z12.1, z13.1, z14.1, z15.1, z16.1] := by injection hx
  rw [hd]
  simp only [DataW.weights, hs]
  exact DataW.weights_mem_each (j := 13) rfl rfl nn hn
end Go.Proofs.Ytdobghhjlfffpaa
