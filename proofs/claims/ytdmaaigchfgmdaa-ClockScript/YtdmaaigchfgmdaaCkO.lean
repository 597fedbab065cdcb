/- Arguments of layer 16, opened: a date, steps, numbers. -/
import Derived.Test.YtdmaaigchfgmdaaCkQ
import Derived.ProofKit
import Derived.OpenShut
import Derived.Deep.SlicePairs
import Derived.Deep.Fields
import Derived.SizedLaws
namespace Go.Proofs.Ytdmaaigchfgmdaa
open Go.ChangeShapes Go.WideShapes Go.ChangeAt Go.RowKit Go.Deep
set_option linter.unusedVariables false
theorem i64_wf {n : Int} (h : (Lit.int .i64 n).wf = true) : -9223372036854775808 ≤ n ∧ n ≤ 9223372036854775807 := by
  have e1 : IntKind.i64.min = -9223372036854775808 := by decide
  have e2 : IntKind.i64.max = 9223372036854775807 := by decide
  simp [Lit.wf, e1, e2] at h
  omega
theorem u64_wf {n : Int} (h : (Lit.int .u64 n).wf = true) : 0 ≤ n ∧ n < 18446744073709551616 := by
  have e1 : IntKind.u64.min = 0 := by decide
  have e2 : IntKind.u64.max = 18446744073709551615 := by decide
  simp [Lit.wf, e1, e2] at h
  omega
/-- what a cell holds: a number, a bool, a slice -/
abbrev Ck := Sum IntKind (Option Bool)
abbrev Ck.i (k : IntKind) : Ck := .inl k
abbrev Ck.b : Ck := .inr none
abbrev Ck.s : Ck := .inr (some false)
abbrev Ck.t : Ck := .inr (some true)
def fitK : Ck → Value → Prop
  | .inl k, v => ∃ n, v = .int k n ∧ (Lit.int k n).wf = true
  | .inr none, v => ∃ x, v = .bool x
  | .inr (some false), v => ∃ o n c, v = .slice o n c
  | .inr (some true), v => ∃ x, v = .string x
def fitsL : List Ck → List Value → Prop
  | [], [] => True
  | k :: ks, v :: vs => fitK k v ∧ fitsL ks vs
  | _, _ => False
def okD : Option TypeDesc → Ck → Bool
  | some (.int k'), .inl k => decide (k' = k)
  | some .bool, .inr none => true
  | some (.slice _), .inr (some false) => true
  | some .string, .inr (some true) => true
  | _, _ => false
theorem fitsL_of : ∀ (ks : List Ck) (cs : List Value), ks.length = cs.length → (∀ (j : Nat) k v, ks[j]? = some k → cs[j]? = some v → fitK k v) → fitsL ks cs
  | [], [], _, _ => trivial
  | k :: ks, v :: vs, hl, h => ⟨h 0 k v rfl rfl, fitsL_of ks vs (by simpa using hl) (fun j k v h1 h2 => h (j + 1) k v (by simpa using h1) (by simpa using h2))⟩
  | [], _ :: _, hl, _ => by simp at hl
  | _ :: _, [], hl, _ => by simp at hl
set_option maxRecDepth 20000 in
theorem fit_cell {H : Type} {enc : TypeId × Value → H} {w : World} {base : Nat} {spare : Nat → Bool} {held : Bool} {fuel : Nat} {t : TypeId} {c : Value} {x : DataW H × List MemPlace} (k : Ck) (d : Option TypeDesc) (hd : Try.prog.underlying t = d) (hk : okD d k = true) (h : DataW.trod enc Try.prog w base spare held fuel t [c] = some x) : fitK k c := by
  unfold okD at hk
  split at hk
  · rename_i k1 k2
    have e := of_decide_eq_true hk
    subst e
    obtain ⟨n, e, -, wf⟩ := DataW.trod_int hd h
    simp at e
    exact ⟨n, e, wf⟩
  · obtain ⟨n, e, -⟩ := DataW.trod_bool hd h
    simp at e
    exact ⟨n, e⟩
  · rcases open_slice hd h with ⟨hcs, _⟩ | ⟨a, len, cap, m, n, D, Pl, hcs, _⟩
    · simp at hcs; exact ⟨_, _, _, hcs⟩
    · simp at hcs; exact ⟨_, _, _, hcs⟩
  · obtain ⟨n, e, -⟩ := DataW.trod_string hd h
    simp at e
    exact ⟨n, e⟩
  · cases hk
set_option maxRecDepth 20000 in
theorem fits_of {H : Type} {enc : TypeId × Value → H} {w : World} {base : Nat} {spare : Nat → Bool} {held : Bool} {fuel : Nat} {t : TypeId} {cs : List Value} {x : DataW H × List MemPlace} {fs : Array Field} (hs : Try.prog.underlying t = some (.struct fs)) (hone : oneCellFields Try.prog fs = true) (ks : List Ck) (hfl : fs.size = ks.length) (hok : (fs.toList.zip ks).all (fun p => okD (Try.prog.underlying p.1.type) p.2) = true) (hlen : cs.length = ks.length)
    (h : DataW.trod enc Try.prog w base spare held fuel t cs = some x) : fitsL ks cs := by
  obtain ⟨xs, n, _, hx, _, hl, hg⟩ := DataW.trod_struct hs h
  refine fitsL_of ks cs hlen.symm fun j k v hj hv => ?_
  have hjl : j < ks.length := by
    rcases Nat.lt_or_ge j ks.length with h | h
    · exact h
    · rw [List.getElem?_eq_none h] at hj; cases hj
  have hjf : j < fs.size := by omega
  obtain ⟨p0, q0⟩ := hone_of hone j fs[j] (Array.getElem?_eq_getElem hjf)
  have g := hg j fs[j] (Array.getElem?_eq_getElem hjf)
  rw [p0, q0] at g
  have e1 : (cs.drop j).take 1 = [v] := by
    have hjc : j < cs.length := by omega
    rw [List.drop_eq_getElem_cons hjc]
    rw [List.getElem?_eq_getElem hjc] at hv
    injection hv with hv
    rw [hv]
    rfl
  rw [e1] at g
  have hxj : j < xs.length := by omega
  rw [List.getElem?_eq_getElem hxj] at g
  refine fit_cell k _ rfl ?_ g
  have := List.all_eq_true.1 hok (fs[j], k) (by
    rw [List.mem_iff_getElem?]
    exact ⟨j, by simp [List.getElem?_zip_eq_some, hjf, hj]⟩)
  exact this
set_option maxRecDepth 20000 in
/-- by value -/
theorem by_value {H : Type} {enc : TypeId × Value → H} {w : World} {base : Nat} {spare : Nat → Bool} {held : Bool} {r : Reach} {b0 : Nat} {t : TypeId} {v : Value} {d : DataW H} {p : List MemPlace} {fs : Array Field} (hs : Try.prog.underlying t = some (.struct fs)) (n : Nat) (hC : Try.prog.cellsOf t = n)
    (hv : Value.okWide Try.prog w r b0 t v) (h : DataW.Trod enc Try.prog w base spare held t v d p) : ∃ (l : List Value) (fuel : Nat), v = .agg l.toArray ∧ l.length = n ∧ DataW.trod enc Try.prog w base spare held fuel t l = some (d, p) := by
  obtain ⟨cs, rfl, hsz⟩ := okWide_struct hs hv
  obtain ⟨l⟩ := cs
  obtain ⟨fuel, hf⟩ := h
  exact ⟨l, fuel, rfl, hsz.trans hC, hf⟩
theorem u8_wf {n : Int} (h : (Lit.int .u8 n).wf = true) : 0 ≤ n ∧ n < 256 := by
  have e1 : IntKind.u8.min = 0 := by decide
  have e2 : IntKind.u8.max = 255 := by decide
  simp [Lit.wf, e1, e2] at h
  omega
theorem u16_wf {n : Int} (h : (Lit.int .u16 n).wf = true) : 0 ≤ n ∧ n < 65536 := by
  have e1 : IntKind.u16.min = 0 := by decide
  have e2 : IntKind.u16.max = 65535 := by decide
  simp [Lit.wf, e1, e2] at h
  omega
theorem list4' {α : Type} {l : List α} (h : l.length = 4) : ∃ a b c d, l = [a, b, c, d] := by
  match l, h with
  | [a, b, c, d], _ => exact ⟨a, b, c, d, rfl⟩
/-- a step of a law -/
structure Stp where
  k : Int
  o : Int
  j : Int
  n : Int
def z16 : Stp := ⟨0, 0, 0, 0⟩
def spL (y : Stp) : List Value := [.int .i64 y.k, .int .i64 y.o, .int .i64 y.j, .int .i64 y.n]
structure OkP (y : Stp) : Prop where
  o : -9223372036854775808 ≤ y.o ∧ y.o ≤ 9223372036854775807
  j : -9223372036854775808 ≤ y.j ∧ y.j ≤ 9223372036854775807
  n : -9223372036854775808 ≤ y.n ∧ y.n ≤ 9223372036854775807
/-- a slice below block N that reads as these steps -/
structure Sp (N : Nat) (w : World) (v : Value) (xs : List Stp) : Prop where
  ex : ∃ ao cap, v = .slice ao xs.length cap ∧ ∀ k, k < xs.length → ∃ ad, ao = some ad ∧ ad.block < N ∧ (∀ j u, (spL (xs.getD k z16))[j]? = some u → w.cell? ((ad.add (k * 4)).add j) = some u) ∧ OkP (xs.getD k z16)
  lim : (xs.length : Int) ≤ 9223372036854775807
theorem Sp.below {N B : Nat} {w w' : World} {v : Value} {xs : List Stp} (h : Sp N w v xs) (hb : Below B w w') (hN : N ≤ B) : Sp N w' v xs := by
  obtain ⟨⟨ao, cap, h1, h2⟩, hl⟩ := h
  refine ⟨⟨ao, cap, h1, fun k hk => ?_⟩, hl⟩
  obtain ⟨ad, k1, k2, k3, k4⟩ := h2 k hk
  exact ⟨ad, k1, k2, fun j u hu => (hb.cell (p := (ad.add (k * 4)).add j) (by rw [add_block, add_block]; omega)).trans (k3 j u hu), k4⟩
/-- an element: its index, its cells -/
theorem Sp.at {N : Nat} {w : World} {ao : Option Addr} {n cap : Nat} {xs : List Stp} (h : Sp N w (.slice ao n cap) xs) (k : Nat) (hk : k < xs.length) : ∃ ad : Addr, (∀ u, Sem.run Try.prog (Instr.indexAt 39 (.slice ao n cap) (.int .i64 (k : Int))) u = .ok (.pointer (some ad)) u) ∧ ad.block < N ∧ (∀ j u, (spL (xs.getD k z16))[j]? = some u → w.cell? (ad.add j) = some u) ∧ OkP (xs.getD k z16) := by
  obtain ⟨⟨ao', cap', h1, h2⟩, hl⟩ := h
  injection h1 with e1 e2 e3
  subst e1 e2 e3
  obtain ⟨ad, k1, k2, k3, k4⟩ := h2 k hk
  refine ⟨ad.add (k * 4), fun u => ?_, by rw [add_block]; exact k2, k3, k4⟩
  subst k1
  have u' := Try.underlying39
  have c3 : Try.prog.cellsOf 47 = 4 := by kernel_rfl
  have h0 : (0 : Int) ≤ k := Int.natCast_nonneg k
  have h1 : (k : Int) < xs.length := by omega
  go_simp
theorem open_four {H : Type} {enc : TypeId × Value → H} {w : World} {base : Nat} {spare : Nat → Bool} {held : Bool} {fuel : Nat} {cs : List Value} {x : DataW H × List MemPlace} (hlen : cs.length = 4)
    (h : DataW.trod enc Try.prog w base spare held fuel 47 cs = some x) : ∃ s : Stp, cs = spL s ∧ OkP s := by
  have F := fits_of Try.underlying47 (by kernel_rfl) [.i .i64, .i .i64, .i .i64, .i .i64] (by kernel_rfl) (by kernel_rfl) hlen h
  obtain ⟨c0, c1, c2, c3, rfl⟩ := list4' hlen
  obtain ⟨⟨a0, rfl, w0⟩, ⟨a1, rfl, w1⟩, ⟨a2, rfl, w2⟩, ⟨a3, rfl, w3⟩, -⟩ := F
  exact ⟨⟨a0, a1, a2, a3⟩, rfl, ⟨i64_wf w1, i64_wf w2, i64_wf w3⟩⟩
theorem open_steps16 {H : Type} {enc : TypeId × Value → H} {w : World} {base : Nat} {spare : Nat → Bool} {held : Bool} {fuel : Nat} {c : Value} {x : DataW H × List MemPlace}
    (h : DataW.trod enc Try.prog w base spare held fuel 39 [c] = some x) : ∃ ss : List Stp, Sp w.heap.size w c ss := by
  have ht := Try.underlying39
  have ce : Try.prog.cellsOf 47 = 4 := by kernel_rfl
  rcases open_slice ht h with ⟨hcs, _⟩ | ⟨a, len, cap, m, n, D, Pl, hcs, hb, hl, hm, hmm, hxd, hx⟩
  · simp at hcs
    exact ⟨[], ⟨⟨none, 0, by rw [hcs]; rfl, fun i hi => absurd hi (by simp)⟩, by simp⟩⟩
  · simp at hcs
    have hlm : len ≤ m := by rw [hmm]; split <;> omega
    have each : ∀ i, ∃ r : Stp, i < len → (∀ j u, (spL r)[j]? = some u → w.cell? ((a.add (i * 4)).add j) = some u) ∧ OkP r := fun i => by
      by_cases hi : i < len
      · obtain ⟨cs', h1, h2⟩ := hx i (by omega)
        rw [ce] at h1
        obtain ⟨_, hlen, hcell⟩ := World.cells?_some h1
        obtain ⟨s, rfl, ok⟩ := open_four hlen h2
        refine ⟨s, fun _ => ⟨fun j u hu => ?_, ok⟩⟩
        have hj : j < 4 := by
          rcases Nat.lt_or_ge j 4 with hlt | hge
          · exact hlt
          · rw [List.getElem?_eq_none (by simpa [spL] using hge)] at hu; cases hu
        rw [hcell j hj]
        exact hu
      · exact ⟨z16, fun h => absurd h hi⟩
    obtain ⟨F, hF⟩ := Classical.axiomOfChoice each
    have hlen : ((List.range len).map F).length = len := by simp
    refine ⟨(List.range len).map F, ⟨⟨some a, cap, by rw [hlen]; exact hcs, fun i hi => ?_⟩, by rw [hlen]; have : cap ≤ maxLen := hm; unfold maxLen at this; omega⟩⟩
    rw [hlen] at hi
    have e5 : ((List.map F (List.range len))).getD i z16 = F i := by
      rw [List.getD_eq_getElem?_getD, List.getElem?_map, List.getElem?_range hi]; rfl
    rw [e5]
    refine ⟨a, rfl, ?_, (hF i hi).1, (hF i hi).2⟩
    have := World.block_lt_of_cell? w _ ((hF i hi).1 0 _ rfl)
    rwa [add_block, add_block] at this
theorem i32_wf {n : Int} (h : (Lit.int .i32 n).wf = true) : -2147483648 ≤ n ∧ n ≤ 2147483647 := by
  have e1 : IntKind.i32.min = -2147483648 := by decide
  have e2 : IntKind.i32.max = 2147483647 := by decide
  simp [Lit.wf, e1, e2] at h
  omega
/-- a slice below block N that reads as these spans -/
structure Sj (N : Nat) (w : World) (v : Value) (xs : List Int) : Prop where
  ex : ∃ ao cap, v = .slice ao xs.length cap ∧ ∀ k, k < xs.length → ∃ ad, ao = some ad ∧ ad.block < N ∧ w.cell? (ad.add k) = some (.int .i32 (xs.getD k 0)) ∧ (-2147483648 ≤ xs.getD k 0 ∧ xs.getD k 0 ≤ 2147483647)
  lim : (xs.length : Int) ≤ 9223372036854775807
theorem Sj.below {N B : Nat} {w w' : World} {v : Value} {xs : List Int} (h : Sj N w v xs) (hb : Below B w w') (hN : N ≤ B) : Sj N w' v xs := by
  obtain ⟨⟨ao, cap, h1, h2⟩, hl⟩ := h
  refine ⟨⟨ao, cap, h1, fun k hk => ?_⟩, hl⟩
  obtain ⟨ad, k1, k2, k3, k4⟩ := h2 k hk
  exact ⟨ad, k1, k2, (hb.cell (p := ad.add k) (by rw [add_block]; omega)).trans k3, k4⟩
theorem Sj.at {N : Nat} {w : World} {ao : Option Addr} {n cap : Nat} {xs : List Int} (h : Sj N w (.slice ao n cap) xs) (k : Nat) (hk : k < xs.length) : ∃ ad : Addr, (∀ u, Sem.run Try.prog (Instr.indexAt 26 (.slice ao n cap) (.int .i64 (k : Int))) u = .ok (.pointer (some ad)) u) ∧ ad.block < N ∧ w.cell? ad = some (.int .i32 (xs.getD k 0)) ∧ (-2147483648 ≤ xs.getD k 0 ∧ xs.getD k 0 ≤ 2147483647) := by
  obtain ⟨⟨ao', cap', h1, h2⟩, hl⟩ := h
  injection h1 with e1 e2 e3
  subst e1 e2 e3
  obtain ⟨ad, k1, k2, k3, k4⟩ := h2 k hk
  refine ⟨ad.add k, fun u => ?_, by rw [add_block]; exact k2, k3, k4⟩
  subst k1
  have u' := Try.underlying26
  have c3 : Try.prog.cellsOf 21 = 1 := by kernel_rfl
  have h0 : (0 : Int) ≤ k := Int.natCast_nonneg k
  have h1 : (k : Int) < xs.length := by omega
  go_simp
theorem open_i32s16 {H : Type} {enc : TypeId × Value → H} {w : World} {base : Nat} {spare : Nat → Bool} {held : Bool} {fuel : Nat} {c : Value} {x : DataW H × List MemPlace}
    (h : DataW.trod enc Try.prog w base spare held fuel 26 [c] = some x) : ∃ ss : List Int, Sj w.heap.size w c ss := by
  have ht := Try.underlying26
  have ce : Try.prog.cellsOf 21 = 1 := by kernel_rfl
  rcases open_slice ht h with ⟨hcs, _⟩ | ⟨a, len, cap, m, n, D, Pl, hcs, hb, hl, hm, hmm, hxd, hx⟩
  · simp at hcs
    exact ⟨[], ⟨⟨none, 0, by rw [hcs]; rfl, fun i hi => absurd hi (by simp)⟩, by simp⟩⟩
  · simp at hcs
    have hlm : len ≤ m := by rw [hmm]; split <;> omega
    have each : ∀ i, ∃ r : Int, i < len → w.cell? (a.add i) = some (.int .i32 r) ∧ (-2147483648 ≤ r ∧ r ≤ 2147483647) := fun i => by
      by_cases hi : i < len
      · obtain ⟨cs', h1, h2⟩ := hx i (by omega)
        rw [ce] at h1
        obtain ⟨_, hlen, hcell⟩ := World.cells?_some h1
        match cs', hlen with
        | [c0], _ =>
          obtain ⟨n, e, -, wf⟩ := DataW.trod_int Try.underlying21 h2
          simp at e
          refine ⟨n, fun _ => ⟨?_, i32_wf wf⟩⟩
          have := hcell 0 (by omega)
          rw [add_add, Nat.add_zero] at this
          rw [e] at this
          simpa using this
      · exact ⟨0, fun h => absurd h hi⟩
    obtain ⟨F, hF⟩ := Classical.axiomOfChoice each
    have hlen : ((List.range len).map F).length = len := by simp
    refine ⟨(List.range len).map F, ⟨⟨some a, cap, by rw [hlen]; exact hcs, fun i hi => ?_⟩, by rw [hlen]; have : cap ≤ maxLen := hm; unfold maxLen at this; omega⟩⟩
    rw [hlen] at hi
    have e5 : ((List.map F (List.range len))).getD i 0 = F i := by
      rw [List.getD_eq_getElem?_getD, List.getElem?_map, List.getElem?_range hi]; rfl
    rw [e5]
    refine ⟨a, rfl, ?_, (hF i hi).1, (hF i hi).2⟩
    have := World.block_lt_of_cell? w _ (hF i hi).1
    rwa [add_block] at this
/-- a slice below block N that reads as these spans -/
structure Si (N : Nat) (w : World) (v : Value) (xs : List Int) : Prop where
  ex : ∃ ao cap, v = .slice ao xs.length cap ∧ ∀ k, k < xs.length → ∃ ad, ao = some ad ∧ ad.block < N ∧ w.cell? (ad.add k) = some (.int .i64 (xs.getD k 0)) ∧ (-9223372036854775808 ≤ xs.getD k 0 ∧ xs.getD k 0 ≤ 9223372036854775807)
  lim : (xs.length : Int) ≤ 9223372036854775807
theorem Si.below {N B : Nat} {w w' : World} {v : Value} {xs : List Int} (h : Si N w v xs) (hb : Below B w w') (hN : N ≤ B) : Si N w' v xs := by
  obtain ⟨⟨ao, cap, h1, h2⟩, hl⟩ := h
  refine ⟨⟨ao, cap, h1, fun k hk => ?_⟩, hl⟩
  obtain ⟨ad, k1, k2, k3, k4⟩ := h2 k hk
  exact ⟨ad, k1, k2, (hb.cell (p := ad.add k) (by rw [add_block]; omega)).trans k3, k4⟩
theorem Si.at {N : Nat} {w : World} {ao : Option Addr} {n cap : Nat} {xs : List Int} (h : Si N w (.slice ao n cap) xs) (k : Nat) (hk : k < xs.length) : ∃ ad : Addr, (∀ u, Sem.run Try.prog (Instr.indexAt 50 (.slice ao n cap) (.int .i64 (k : Int))) u = .ok (.pointer (some ad)) u) ∧ ad.block < N ∧ w.cell? ad = some (.int .i64 (xs.getD k 0)) ∧ (-9223372036854775808 ≤ xs.getD k 0 ∧ xs.getD k 0 ≤ 9223372036854775807) := by
  obtain ⟨⟨ao', cap', h1, h2⟩, hl⟩ := h
  injection h1 with e1 e2 e3
  subst e1 e2 e3
  obtain ⟨ad, k1, k2, k3, k4⟩ := h2 k hk
  refine ⟨ad.add k, fun u => ?_, by rw [add_block]; exact k2, k3, k4⟩
  subst k1
  have u' := Try.underlying50
  have c3 : Try.prog.cellsOf 3 = 1 := by kernel_rfl
  have h0 : (0 : Int) ≤ k := Int.natCast_nonneg k
  have h1 : (k : Int) < xs.length := by omega
  go_simp
theorem open_ints16 {H : Type} {enc : TypeId × Value → H} {w : World} {base : Nat} {spare : Nat → Bool} {held : Bool} {fuel : Nat} {c : Value} {x : DataW H × List MemPlace}
    (h : DataW.trod enc Try.prog w base spare held fuel 50 [c] = some x) : ∃ ss : List Int, Si w.heap.size w c ss := by
  have ht := Try.underlying50
  have ce : Try.prog.cellsOf 3 = 1 := by kernel_rfl
  rcases open_slice ht h with ⟨hcs, _⟩ | ⟨a, len, cap, m, n, D, Pl, hcs, hb, hl, hm, hmm, hxd, hx⟩
  · simp at hcs
    exact ⟨[], ⟨⟨none, 0, by rw [hcs]; rfl, fun i hi => absurd hi (by simp)⟩, by simp⟩⟩
  · simp at hcs
    have hlm : len ≤ m := by rw [hmm]; split <;> omega
    have each : ∀ i, ∃ r : Int, i < len → w.cell? (a.add i) = some (.int .i64 r) ∧ (-9223372036854775808 ≤ r ∧ r ≤ 9223372036854775807) := fun i => by
      by_cases hi : i < len
      · obtain ⟨cs', h1, h2⟩ := hx i (by omega)
        rw [ce] at h1
        obtain ⟨_, hlen, hcell⟩ := World.cells?_some h1
        match cs', hlen with
        | [c0], _ =>
          obtain ⟨n, e, -, wf⟩ := DataW.trod_int Try.underlying3 h2
          simp at e
          refine ⟨n, fun _ => ⟨?_, i64_wf wf⟩⟩
          have := hcell 0 (by omega)
          rw [add_add, Nat.add_zero] at this
          rw [e] at this
          simpa using this
      · exact ⟨0, fun h => absurd h hi⟩
    obtain ⟨F, hF⟩ := Classical.axiomOfChoice each
    have hlen : ((List.range len).map F).length = len := by simp
    refine ⟨(List.range len).map F, ⟨⟨some a, cap, by rw [hlen]; exact hcs, fun i hi => ?_⟩, by rw [hlen]; have : cap ≤ maxLen := hm; unfold maxLen at this; omega⟩⟩
    rw [hlen] at hi
    have e5 : ((List.map F (List.range len))).getD i 0 = F i := by
      rw [List.getD_eq_getElem?_getD, List.getElem?_map, List.getElem?_range hi]; rfl
    rw [e5]
    refine ⟨a, rfl, ?_, (hF i hi).1, (hF i hi).2⟩
    have := World.block_lt_of_cell? w _ (hF i hi).1
    rwa [add_block] at this
theorem list2' {α : Type} {l : List α} (h : l.length = 2) : ∃ a b, l = [a, b] := by
  match l, h with
  | [a, b], _ => exact ⟨a, b, rfl⟩
theorem open_date {H : Type} {enc : TypeId × Value → H} {w : World} {base : Nat} {spare : Nat → Bool} {held : Bool} {fuel : Nat} {cs : List Value} {x : DataW H × List MemPlace} (hlen : cs.length = 2)
    (h : DataW.trod enc Try.prog w base spare held fuel 25 cs = some x) : ∃ a b, cs = [.int .i64 a, .int .u64 b] ∧ (-9223372036854775808 ≤ a ∧ a ≤ 9223372036854775807) ∧ (0 ≤ b ∧ b < 18446744073709551616) := by
  have F := fits_of Try.underlying25 (by kernel_rfl) [.i .i64, .i .u64] (by kernel_rfl) (by kernel_rfl) hlen h
  obtain ⟨c0, c1, rfl⟩ := list2' hlen
  obtain ⟨⟨a0, rfl, w0⟩, ⟨a1, rfl, w1⟩, -⟩ := F
  exact ⟨a0, a1, rfl, i64_wf w0, u64_wf w1⟩
end Go.Proofs.Ytdmaaigchfgmdaa
