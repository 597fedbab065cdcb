/- Steps that came in: opened. -/
import Derived.Test.YtenlkadmniobdaaPS
import Derived.Deep.SlicePairs
namespace Go.Proofs.Ytenlkadmniobdaa
open Go.ChangeShapes Go.WideShapes Go.ChangeAt Go.RowKit Go.Deep
/-- a call -/
structure Stp where
  kd : Int
  at' : Int
  fu : Int
theorem list3 {α : Type} {l : List α} (h : l.length = 3) : ∃ a b c, l = [a, b, c] := by
  match l, h with
  | [a, b, c], _ => exact ⟨a, b, c, rfl⟩
/-- one step in memory, at an address below block N -/
def S1 (N : Nat) (w : World) (ad : Addr) (s : Stp) : Prop := ad.block < N ∧ w.cell? ad = some (.int .i64 s.kd) ∧ w.cell? (ad.add 1) = some (.int .u64 s.at') ∧ w.cell? (ad.add 2) = some (.int .i64 s.fu) ∧ (-9223372036854775808 ≤ s.fu ∧ s.fu ≤ 9223372036854775807)
theorem S1.below {N B : Nat} {w w' : World} {ad : Addr} {s : Stp} (h : S1 N w ad s) (hb : Below B w w') (hN : N ≤ B) : S1 N w' ad s :=
  ⟨h.1, (hb.cell (p := ad) (by have := h.1; omega)).trans h.2.1, (hb.cell (p := ad.add 1) (by rw [add_blk]; have := h.1; omega)).trans h.2.2.1, (hb.cell (p := ad.add 2) (by rw [add_blk]; have := h.1; omega)).trans h.2.2.2.1, h.2.2.2.2⟩
/-- a slice of steps -/
def St8 (N : Nat) (w : World) (v : Value) (ss : List Stp) : Prop := ∃ ao cap, v = .slice ao ss.length cap ∧ ∀ k, k < ss.length → ∃ ad, ao = some ad ∧ S1 N w (ad.add (k * 3)) (ss.getD k ⟨0, 0, 0⟩)
theorem St8.below {N B : Nat} {w w' : World} {v : Value} {ss : List Stp} (h : St8 N w v ss) (hb : Below B w w') (hN : N ≤ B) : St8 N w' v ss := by
  obtain ⟨ao, cap, h1, h2⟩ := h
  refine ⟨ao, cap, h1, fun k hk => ?_⟩
  obtain ⟨ad, h3, h4⟩ := h2 k hk
  exact ⟨ad, h3, h4.below hb hN⟩
theorem open_steps {H : Type} {enc : TypeId × Value → H} {w : World} {base : Nat} {spare : Nat → Bool} {held : Bool} {t e : TypeId} {f0 f1 f2 : Field} {fuel : Nat} {c : Value} {x : DataW H × List MemPlace} (ht : Try.prog.underlying t = some (.slice e)) (he : Try.prog.underlying e = some (.struct #[f0, f1, f2]))
    (ce : Try.prog.cellsOf e = 3) (o0 : f0.offset = 0) (o1 : f1.offset = 1) (o2 : f2.offset = 2) (c0 : Try.prog.cellsOf f0.type = 1) (c1 : Try.prog.cellsOf f1.type = 1) (c2 : Try.prog.cellsOf f2.type = 1)
    (u0 : Try.prog.underlying f0.type = some (.int .i64)) (u1 : Try.prog.underlying f1.type = some (.int .u64)) (u2 : Try.prog.underlying f2.type = some (.int .i64))
    (h : DataW.trod enc Try.prog w base spare held fuel t [c] = some x) :
    ∃ ss : List Stp, St8 w.heap.size w c ss ∧ (∀ K, (∀ n ∈ x.1.weights Try.prog t, n ≤ K) → ss.length * Try.prog.bytesOf e ≤ K) := by
  rcases open_slice ht h with ⟨hcs, _⟩ | ⟨a, len, cap, m, n, D, Pl, hcs, hb, hl, hm, hmm, hxd, hx⟩
  · simp at hcs
    exact ⟨[], ⟨none, 0, by rw [hcs]; rfl, fun i hi => absurd hi (by simp)⟩, fun K _ => by simp⟩
  · simp at hcs
    have hlm : len ≤ m := by rw [hmm]; split <;> omega
    have each : ∀ i, ∃ r : Stp, i < len → S1 w.heap.size w (a.add (i * 3)) r := fun i => by
      by_cases hi : i < len
      · obtain ⟨cs', h1, h2⟩ := hx i (by omega)
        rw [ce] at h1
        obtain ⟨_, hlen, hcell⟩ := World.cells?_some h1
        obtain ⟨xs, k, hk, hxy, _, hxl, hf⟩ := DataW.trod_struct he h2
        obtain ⟨y0, y1, y2, rfl⟩ := list3 (show xs.length = 3 from hxl)
        obtain ⟨v0, v1, v2, rfl⟩ := list3 hlen
        have g0 := hf 0 f0 rfl
        have g1 := hf 1 f1 rfl
        have g2 := hf 2 f2 rfl
        simp [o0, o1, o2, c0, c1, c2] at g0 g1 g2
        obtain ⟨n0, e0, -, w0⟩ := DataW.trod_int u0 g0
        obtain ⟨n1, e1, -, w1⟩ := DataW.trod_int u1 g1
        obtain ⟨n2, e2, -, w2⟩ := DataW.trod_int u2 g2
        simp at e0 e1 e2
        subst e0; subst e1; subst e2
        have k0 := hcell 0 (by omega)
        have k1 := hcell 1 (by omega)
        have k2 := hcell 2 (by omega)
        have hz : ∀ ad : Addr, ad.add 0 = ad := fun ad => by unfold Addr.add; rw [if_pos rfl]
        rw [hz] at k0
        refine ⟨⟨n0, n1, n2⟩, fun _ => ⟨World.block_lt_of_cell? w _ k0, k0, k1, k2, i64_wf w2⟩⟩
      · exact ⟨⟨0, 0, 0⟩, fun h => absurd h hi⟩
    obtain ⟨F, hF⟩ := Classical.axiomOfChoice each
    have hlen : ((List.range len).map F).length = len := by simp
    refine ⟨(List.range len).map F, ⟨some a, cap, by rw [hlen]; exact hcs, fun i hi => ?_⟩, fun K hK => ?_⟩
    · rw [hlen] at hi
      have e5 : ((List.map F (List.range len))).getD i ⟨0, 0, 0⟩ = F i := by
        rw [List.getD_eq_getElem?_getD, List.getElem?_map, List.getElem?_range hi]; rfl
      rw [e5]
      exact ⟨a, rfl, hF i hi⟩
    · rw [hlen]
      have h1 := hK ((len + (m - len)) * Try.prog.bytesOf e) (by rw [hxd]; simp [DataW.weights, ht])
      exact Nat.le_trans (Nat.mul_le_mul_right _ (by omega)) h1
end Go.Proofs.Ytenlkadmniobdaa
