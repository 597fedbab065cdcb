/- Arguments of layer 15, opened: a configuration, steps, spans. -/
import Derived.Test.YtbagfnafkpbanaaLpA
import Derived.ProofKit
import Derived.OpenShut
import Derived.Deep.SlicePairs
import Derived.Deep.Fields
import Derived.SizedLaws
namespace Go.Proofs.Ytbagfnafkpbanaa
open Go.ChangeShapes Go.WideShapes Go.ChangeAt Go.RowKit Go.Deep
set_option linter.unusedVariables false
/-- a configuration's cells, as far as they are read -/
structure Cg (cf : List Value) (st pa so : Int) : Prop where
  len : cf.length = 15
  c10 : cf[10]? = some (.int .i64 st)
  c11 : cf[11]? = some (.int .i64 pa)
  c12 : cf[12]? = some (.int .i64 so)
  one : ∀ u ∈ cf, u.oneCell' = true
theorem i64_wf {n : Int} (h : (Lit.int .i64 n).wf = true) : -9223372036854775808 ≤ n ∧ n ≤ 9223372036854775807 := by
  have e1 : IntKind.i64.min = -9223372036854775808 := by decide
  have e2 : IntKind.i64.max = 9223372036854775807 := by decide
  simp [Lit.wf, e1, e2] at h
  omega
theorem u64_wf {n : Int} (h : (Lit.int .u64 n).wf = true) : 0 ≤ n ∧ n < 18446744073709551616 := by
  have e1 : IntKind.u64.min = 0 := by decide
  have e2 : IntKind.u64.max = 18446744073709551615 := by decide
  simp [Lit.wf, e1, e2] at h
  omega
/-- what a cell holds: a number, a bool, a slice -/
abbrev Ck := Sum IntKind (Option Bool)
abbrev Ck.i (k : IntKind) : Ck := .inl k
abbrev Ck.b : Ck := .inr none
abbrev Ck.s : Ck := .inr (some false)
abbrev Ck.t : Ck := .inr (some true)
def fitK : Ck → Value → Prop
  | .inl k, v => ∃ n, v = .int k n ∧ (Lit.int k n).wf = true
  | .inr none, v => ∃ x, v = .bool x
  | .inr (some false), v => ∃ o n c, v = .slice o n c
  | .inr (some true), v => ∃ x, v = .string x
def fitsL : List Ck → List Value → Prop
  | [], [] => True
  | k :: ks, v :: vs => fitK k v ∧ fitsL ks vs
  | _, _ => False
def okD : Option TypeDesc → Ck → Bool
  | some (.int k'), .inl k => decide (k' = k)
  | some .bool, .inr none => true
  | some (.slice _), .inr (some false) => true
  | some .string, .inr (some true) => true
  | _, _ => false
theorem fitsL_of : ∀ (ks : List Ck) (cs : List Value), ks.length = cs.length → (∀ (j : Nat) k v, ks[j]? = some k → cs[j]? = some v → fitK k v) → fitsL ks cs
  | [], [], _, _ => trivial
  | k :: ks, v :: vs, hl, h => ⟨h 0 k v rfl rfl, fitsL_of ks vs (by simpa using hl) (fun j k v h1 h2 => h (j + 1) k v (by simpa using h1) (by simpa using h2))⟩
  | [], _ :: _, hl, _ => by simp at hl
  | _ :: _, [], hl, _ => by simp at hl
set_option maxRecDepth 20000 in
theorem fit_cell {H : Type} {enc : TypeId × Value → H} {w : World} {base : Nat} {spare : Nat → Bool} {held : Bool} {fuel : Nat} {t : TypeId} {c : Value} {x : DataW H × List MemPlace} (k : Ck) (d : Option TypeDesc) (hd : Try.prog.underlying t = d) (hk : okD d k = true) (h : DataW.trod enc Try.prog w base spare held fuel t [c] = some x) : fitK k c := by
  unfold okD at hk
  split at hk
  · rename_i k1 k2
    have e := of_decide_eq_true hk
    subst e
    obtain ⟨n, e, -, wf⟩ := DataW.trod_int hd h
    simp at e
    exact ⟨n, e, wf⟩
  · obtain ⟨n, e, -⟩ := DataW.trod_bool hd h
    simp at e
    exact ⟨n, e⟩
  · rcases open_slice hd h with ⟨hcs, _⟩ | ⟨a, len, cap, m, n, D, Pl, hcs, _⟩
    · simp at hcs; exact ⟨_, _, _, hcs⟩
    · simp at hcs; exact ⟨_, _, _, hcs⟩
  · obtain ⟨n, e, -⟩ := DataW.trod_string hd h
    simp at e
    exact ⟨n, e⟩
  · cases hk
set_option maxRecDepth 20000 in
theorem fits_of {H : Type} {enc : TypeId × Value → H} {w : World} {base : Nat} {spare : Nat → Bool} {held : Bool} {fuel : Nat} {t : TypeId} {cs : List Value} {x : DataW H × List MemPlace} {fs : Array Field} (hs : Try.prog.underlying t = some (.struct fs)) (hone : oneCellFields Try.prog fs = true) (ks : List Ck) (hfl : fs.size = ks.length) (hok : (fs.toList.zip ks).all (fun p => okD (Try.prog.underlying p.1.type) p.2) = true) (hlen : cs.length = ks.length)
    (h : DataW.trod enc Try.prog w base spare held fuel t cs = some x) : fitsL ks cs := by
  obtain ⟨xs, n, _, hx, _, hl, hg⟩ := DataW.trod_struct hs h
  refine fitsL_of ks cs hlen.symm fun j k v hj hv => ?_
  have hjl : j < ks.length := by
    rcases Nat.lt_or_ge j ks.length with h | h
    · exact h
    · rw [List.getElem?_eq_none h] at hj; cases hj
  have hjf : j < fs.size := by omega
  obtain ⟨p0, q0⟩ := hone_of hone j fs[j] (Array.getElem?_eq_getElem hjf)
  have g := hg j fs[j] (Array.getElem?_eq_getElem hjf)
  rw [p0, q0] at g
  have e1 : (cs.drop j).take 1 = [v] := by
    have hjc : j < cs.length := by omega
    rw [List.drop_eq_getElem_cons hjc]
    rw [List.getElem?_eq_getElem hjc] at hv
    injection hv with hv
    rw [hv]
    rfl
  rw [e1] at g
  have hxj : j < xs.length := by omega
  rw [List.getElem?_eq_getElem hxj] at g
  refine fit_cell k _ rfl ?_ g
  have := List.all_eq_true.1 hok (fs[j], k) (by
    rw [List.mem_iff_getElem?]
    exact ⟨j, by simp [List.getElem?_zip_eq_some, hjf, hj]⟩)
  exact this
set_option maxRecDepth 20000 in
/-- by value -/
theorem by_value {H : Type} {enc : TypeId × Value → H} {w : World} {base : Nat} {spare : Nat → Bool} {held : Bool} {r : Reach} {b0 : Nat} {t : TypeId} {v : Value} {d : DataW H} {p : List MemPlace} {fs : Array Field} (hs : Try.prog.underlying t = some (.struct fs)) (n : Nat) (hC : Try.prog.cellsOf t = n)
    (hv : Value.okWide Try.prog w r b0 t v) (h : DataW.Trod enc Try.prog w base spare held t v d p) : ∃ (l : List Value) (fuel : Nat), v = .agg l.toArray ∧ l.length = n ∧ DataW.trod enc Try.prog w base spare held fuel t l = some (d, p) := by
  obtain ⟨cs, rfl, hsz⟩ := okWide_struct hs hv
  obtain ⟨l⟩ := cs
  obtain ⟨fuel, hf⟩ := h
  exact ⟨l, fuel, rfl, hsz.trans hC, hf⟩
theorem list15 {α : Type} {l : List α} (h : l.length = 15) : ∃ c0 c1 c2 c3 c4 c5 c6 c7 c8 c9 c10 c11 c12 c13 c14, l = [c0, c1, c2, c3, c4, c5, c6, c7, c8, c9, c10, c11, c12, c13, c14] := by
  match l, h with
  | [c0, c1, c2, c3, c4, c5, c6, c7, c8, c9, c10, c11, c12, c13, c14], _ => exact ⟨c0, c1, c2, c3, c4, c5, c6, c7, c8, c9, c10, c11, c12, c13, c14, rfl⟩
theorem u8_wf {n : Int} (h : (Lit.int .u8 n).wf = true) : 0 ≤ n ∧ n < 256 := by
  have e1 : IntKind.u8.min = 0 := by decide
  have e2 : IntKind.u8.max = 255 := by decide
  simp [Lit.wf, e1, e2] at h
  omega
theorem u16_wf {n : Int} (h : (Lit.int .u16 n).wf = true) : 0 ≤ n ∧ n < 65536 := by
  have e1 : IntKind.u16.min = 0 := by decide
  have e2 : IntKind.u16.max = 65535 := by decide
  simp [Lit.wf, e1, e2] at h
  omega
theorem list4' {α : Type} {l : List α} (h : l.length = 4) : ∃ a b c d, l = [a, b, c, d] := by
  match l, h with
  | [a, b, c, d], _ => exact ⟨a, b, c, d, rfl⟩
/-- a step of a law -/
structure Stp where
  k : Int
  o : Int
  j : Int
  n : Int
def z15 : Stp := ⟨0, 0, 0, 0⟩
def spL (y : Stp) : List Value := [.int .i64 y.k, .int .i64 y.o, .int .i64 y.j, .int .i64 y.n]
structure OkP (y : Stp) : Prop where
  o : -9223372036854775808 ≤ y.o ∧ y.o ≤ 9223372036854775807
  j : -9223372036854775808 ≤ y.j ∧ y.j ≤ 9223372036854775807
/-- a slice below block N that reads as these steps -/
structure Sp (N : Nat) (w : World) (v : Value) (xs : List Stp) : Prop where
  ex : ∃ ao cap, v = .slice ao xs.length cap ∧ ∀ k, k < xs.length → ∃ ad, ao = some ad ∧ ad.block < N ∧ (∀ j u, (spL (xs.getD k z15))[j]? = some u → w.cell? ((ad.add (k * 4)).add j) = some u) ∧ OkP (xs.getD k z15)
theorem Sp.below {N B : Nat} {w w' : World} {v : Value} {xs : List Stp} (h : Sp N w v xs) (hb : Below B w w') (hN : N ≤ B) : Sp N w' v xs := by
  obtain ⟨ao, cap, h1, h2⟩ := h
  refine ⟨ao, cap, h1, fun k hk => ?_⟩
  obtain ⟨ad, k1, k2, k3, k4⟩ := h2 k hk
  exact ⟨ad, k1, k2, fun j u hu => (hb.cell (p := (ad.add (k * 4)).add j) (by rw [add_block, add_block]; omega)).trans (k3 j u hu), k4⟩
/-- an element: its index, its cells -/
theorem Sp.at {N : Nat} {w : World} {ao : Option Addr} {n cap : Nat} {xs : List Stp} (h : Sp N w (.slice ao n cap) xs) (k : Nat) (hk : k < xs.length) : ∃ ad : Addr, (∀ u, Sem.run Try.prog (Instr.indexAt 31 (.slice ao n cap) (.int .i64 (k : Int))) u = .ok (.pointer (some ad)) u) ∧ ad.block < N ∧ (∀ j u, (spL (xs.getD k z15))[j]? = some u → w.cell? (ad.add j) = some u) ∧ OkP (xs.getD k z15) := by
  obtain ⟨ao', cap', h1, h2⟩ := h
  injection h1 with e1 e2 e3
  subst e1 e2 e3
  obtain ⟨ad, k1, k2, k3, k4⟩ := h2 k hk
  refine ⟨ad.add (k * 4), fun u => ?_, by rw [add_block]; exact k2, k3, k4⟩
  subst k1
  have u' := Try.underlying31
  have c3 : Try.prog.cellsOf 43 = 4 := by kernel_rfl
  have h0 : (0 : Int) ≤ k := Int.natCast_nonneg k
  have h1 : (k : Int) < xs.length := by omega
  go_simp
theorem open_four {H : Type} {enc : TypeId × Value → H} {w : World} {base : Nat} {spare : Nat → Bool} {held : Bool} {fuel : Nat} {cs : List Value} {x : DataW H × List MemPlace} (hlen : cs.length = 4)
    (h : DataW.trod enc Try.prog w base spare held fuel 43 cs = some x) : ∃ s : Stp, cs = spL s ∧ OkP s := by
  have F := fits_of Try.underlying43 (by kernel_rfl) [.i .i64, .i .i64, .i .i64, .i .i64] (by kernel_rfl) (by kernel_rfl) hlen h
  obtain ⟨c0, c1, c2, c3, rfl⟩ := list4' hlen
  obtain ⟨⟨a0, rfl, w0⟩, ⟨a1, rfl, w1⟩, ⟨a2, rfl, w2⟩, ⟨a3, rfl, w3⟩, -⟩ := F
  exact ⟨⟨a0, a1, a2, a3⟩, rfl, ⟨i64_wf w1, i64_wf w2⟩⟩
theorem open_steps15 {H : Type} {enc : TypeId × Value → H} {w : World} {base : Nat} {spare : Nat → Bool} {held : Bool} {fuel : Nat} {c : Value} {x : DataW H × List MemPlace}
    (h : DataW.trod enc Try.prog w base spare held fuel 31 [c] = some x) : ∃ ss : List Stp, Sp w.heap.size w c ss := by
  have ht := Try.underlying31
  have ce : Try.prog.cellsOf 43 = 4 := by kernel_rfl
  rcases open_slice ht h with ⟨hcs, _⟩ | ⟨a, len, cap, m, n, D, Pl, hcs, hb, hl, hm, hmm, hxd, hx⟩
  · simp at hcs
    exact ⟨[], ⟨none, 0, by rw [hcs]; rfl, fun i hi => absurd hi (by simp)⟩⟩
  · simp at hcs
    have hlm : len ≤ m := by rw [hmm]; split <;> omega
    have each : ∀ i, ∃ r : Stp, i < len → (∀ j u, (spL r)[j]? = some u → w.cell? ((a.add (i * 4)).add j) = some u) ∧ OkP r := fun i => by
      by_cases hi : i < len
      · obtain ⟨cs', h1, h2⟩ := hx i (by omega)
        rw [ce] at h1
        obtain ⟨_, hlen, hcell⟩ := World.cells?_some h1
        obtain ⟨s, rfl, ok⟩ := open_four hlen h2
        refine ⟨s, fun _ => ⟨fun j u hu => ?_, ok⟩⟩
        have hj : j < 4 := by
          rcases Nat.lt_or_ge j 4 with hlt | hge
          · exact hlt
          · rw [List.getElem?_eq_none (by simpa [spL] using hge)] at hu; cases hu
        rw [hcell j hj]
        exact hu
      · exact ⟨z15, fun h => absurd h hi⟩
    obtain ⟨F, hF⟩ := Classical.axiomOfChoice each
    have hlen : ((List.range len).map F).length = len := by simp
    refine ⟨(List.range len).map F, ⟨some a, cap, by rw [hlen]; exact hcs, fun i hi => ?_⟩⟩
    rw [hlen] at hi
    have e5 : ((List.map F (List.range len))).getD i z15 = F i := by
      rw [List.getD_eq_getElem?_getD, List.getElem?_map, List.getElem?_range hi]; rfl
    rw [e5]
    refine ⟨a, rfl, ?_, (hF i hi).1, (hF i hi).2⟩
    have := World.block_lt_of_cell? w _ ((hF i hi).1 0 _ rfl)
    rwa [add_block, add_block] at this
/-- a slice below block N that reads as these spans -/
structure So (N : Nat) (w : World) (v : Value) (xs : List Int) : Prop where
  ex : ∃ ao cap, v = .slice ao xs.length cap ∧ ∀ k, k < xs.length → ∃ ad, ao = some ad ∧ ad.block < N ∧ w.cell? (ad.add k) = some (.int .i64 (xs.getD k 0)) ∧ (-9223372036854775808 ≤ xs.getD k 0 ∧ xs.getD k 0 ≤ 9223372036854775807)
theorem So.below {N B : Nat} {w w' : World} {v : Value} {xs : List Int} (h : So N w v xs) (hb : Below B w w') (hN : N ≤ B) : So N w' v xs := by
  obtain ⟨ao, cap, h1, h2⟩ := h
  refine ⟨ao, cap, h1, fun k hk => ?_⟩
  obtain ⟨ad, k1, k2, k3, k4⟩ := h2 k hk
  exact ⟨ad, k1, k2, (hb.cell (p := ad.add k) (by rw [add_block]; omega)).trans k3, k4⟩
theorem So.at {N : Nat} {w : World} {ao : Option Addr} {n cap : Nat} {xs : List Int} (h : So N w (.slice ao n cap) xs) (k : Nat) (hk : k < xs.length) : ∃ ad : Addr, (∀ u, Sem.run Try.prog (Instr.indexAt 49 (.slice ao n cap) (.int .i64 (k : Int))) u = .ok (.pointer (some ad)) u) ∧ ad.block < N ∧ w.cell? ad = some (.int .i64 (xs.getD k 0)) ∧ (-9223372036854775808 ≤ xs.getD k 0 ∧ xs.getD k 0 ≤ 9223372036854775807) := by
  obtain ⟨ao', cap', h1, h2⟩ := h
  injection h1 with e1 e2 e3
  subst e1 e2 e3
  obtain ⟨ad, k1, k2, k3, k4⟩ := h2 k hk
  refine ⟨ad.add k, fun u => ?_, by rw [add_block]; exact k2, k3, k4⟩
  subst k1
  have u' := Try.underlying49
  have c3 : Try.prog.cellsOf 27 = 1 := by kernel_rfl
  have h0 : (0 : Int) ≤ k := Int.natCast_nonneg k
  have h1 : (k : Int) < xs.length := by omega
  go_simp
theorem open_spans15 {H : Type} {enc : TypeId × Value → H} {w : World} {base : Nat} {spare : Nat → Bool} {held : Bool} {fuel : Nat} {c : Value} {x : DataW H × List MemPlace}
    (h : DataW.trod enc Try.prog w base spare held fuel 49 [c] = some x) : ∃ ss : List Int, So w.heap.size w c ss := by
  have ht := Try.underlying49
  have ce : Try.prog.cellsOf 27 = 1 := by kernel_rfl
  rcases open_slice ht h with ⟨hcs, _⟩ | ⟨a, len, cap, m, n, D, Pl, hcs, hb, hl, hm, hmm, hxd, hx⟩
  · simp at hcs
    exact ⟨[], ⟨none, 0, by rw [hcs]; rfl, fun i hi => absurd hi (by simp)⟩⟩
  · simp at hcs
    have hlm : len ≤ m := by rw [hmm]; split <;> omega
    have each : ∀ i, ∃ r : Int, i < len → w.cell? (a.add i) = some (.int .i64 r) ∧ (-9223372036854775808 ≤ r ∧ r ≤ 9223372036854775807) := fun i => by
      by_cases hi : i < len
      · obtain ⟨cs', h1, h2⟩ := hx i (by omega)
        rw [ce] at h1
        obtain ⟨_, hlen, hcell⟩ := World.cells?_some h1
        match cs', hlen with
        | [c0], _ =>
          obtain ⟨n, e, -, wf⟩ := DataW.trod_int Try.underlying27 h2
          simp at e
          refine ⟨n, fun _ => ⟨?_, i64_wf wf⟩⟩
          have := hcell 0 (by omega)
          rw [add_add, Nat.add_zero] at this
          rw [e] at this
          simpa using this
      · exact ⟨0, fun h => absurd h hi⟩
    obtain ⟨F, hF⟩ := Classical.axiomOfChoice each
    have hlen : ((List.range len).map F).length = len := by simp
    refine ⟨(List.range len).map F, ⟨some a, cap, by rw [hlen]; exact hcs, fun i hi => ?_⟩⟩
    rw [hlen] at hi
    have e5 : ((List.map F (List.range len))).getD i 0 = F i := by
      rw [List.getD_eq_getElem?_getD, List.getElem?_map, List.getElem?_range hi]; rfl
    rw [e5]
    refine ⟨a, rfl, ?_, (hF i hi).1, (hF i hi).2⟩
    have := World.block_lt_of_cell? w _ (hF i hi).1
    rwa [add_block] at this
set_option maxRecDepth 20000 in
theorem open_conf {H : Type} {enc : TypeId × Value → H} {w : World} {base : Nat} {spare : Nat → Bool} {held : Bool} {fuel : Nat} {cs : List Value} {x : DataW H × List MemPlace} (hlen : cs.length = 15)
    (h : DataW.trod enc Try.prog w base spare held fuel 29 cs = some x) : ∃ st pa so, Cg cs st pa so := by
  have F := fits_of Try.underlying29 (by kernel_rfl) [.s, .s, .s, .i .i64, .s, .t, .s, .i .i64, .b, .b, .i .i64, .i .i64, .i .i64, .i .i64, .i .i64] (by kernel_rfl) (by kernel_rfl) hlen h
  obtain ⟨c0, c1, c2, c3, c4, c5, c6, c7, c8, c9, c10, c11, c12, c13, c14, rfl⟩ := list15 hlen
  obtain ⟨⟨o0, n0, p0, rfl⟩, ⟨o1, n1, p1, rfl⟩, ⟨o2, n2, p2, rfl⟩, ⟨a3, rfl, -⟩, ⟨o4, n4, p4, rfl⟩, ⟨a5, rfl⟩, ⟨o6, n6, p6, rfl⟩, ⟨a7, rfl, -⟩, ⟨a8, rfl⟩, ⟨a9, rfl⟩, ⟨a10, rfl, -⟩, ⟨a11, rfl, -⟩, ⟨a12, rfl, -⟩, ⟨a13, rfl, -⟩, ⟨a14, rfl, -⟩, -⟩ := F
  refine ⟨a10, a11, a12, ⟨rfl, rfl, rfl, rfl, fun u hu => ?_⟩⟩
  simp only [List.mem_cons, List.not_mem_nil, or_false] at hu
  rcases hu with rfl | rfl | rfl | rfl | rfl | rfl | rfl | rfl | rfl | rfl | rfl | rfl | rfl | rfl | rfl <;> rfl
end Go.Proofs.Ytbagfnafkpbanaa
