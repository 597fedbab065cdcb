/- Arguments of layer 11, opened: an association, steps, bools. -/
import Derived.Test.YtocaiimhbmhakaaJA
import Derived.ProofKit
import Derived.OpenShut
import Derived.Deep.SlicePairs
import Derived.Deep.Fields
import Derived.SizedLaws
namespace Go.Proofs.Ytocaiimhbmhakaa
open Go.ChangeShapes Go.WideShapes Go.ChangeAt Go.RowKit Go.Deep
/-- what a cell holds: a number, a bool, a slice -/
abbrev Ck := Sum IntKind (Option Bool)
abbrev Ck.i (k : IntKind) : Ck := .inl k
abbrev Ck.b : Ck := .inr none
abbrev Ck.s : Ck := .inr (some false)
def fitK : Ck → Value → Prop
  | .inl k, v => ∃ n, v = .int k n ∧ (Lit.int k n).wf = true
  | .inr none, v => ∃ x, v = .bool x
  | .inr (some _), v => ∃ o n c, v = .slice o n c
def fitsL : List Ck → List Value → Prop
  | [], [] => True
  | k :: ks, v :: vs => fitK k v ∧ fitsL ks vs
  | _, _ => False
def okD : Option TypeDesc → Ck → Bool
  | some (.int k'), .inl k => decide (k' = k)
  | some .bool, .inr none => true
  | some (.slice _), .inr (some false) => true
  | _, _ => false
theorem fitsL_of : ∀ (ks : List Ck) (cs : List Value), ks.length = cs.length → (∀ (j : Nat) k v, ks[j]? = some k → cs[j]? = some v → fitK k v) → fitsL ks cs
  | [], [], _, _ => trivial
  | k :: ks, v :: vs, hl, h => ⟨h 0 k v rfl rfl, fitsL_of ks vs (by simpa using hl) (fun j k v h1 h2 => h (j + 1) k v (by simpa using h1) (by simpa using h2))⟩
  | [], _ :: _, hl, _ => by simp at hl
  | _ :: _, [], hl, _ => by simp at hl
set_option maxRecDepth 20000 in
theorem fit_cell {H : Type} {enc : TypeId × Value → H} {w : World} {base : Nat} {spare : Nat → Bool} {held : Bool} {fuel : Nat} {t : TypeId} {c : Value} {x : DataW H × List MemPlace} (k : Ck) (d : Option TypeDesc) (hd : Try.prog.underlying t = d) (hk : okD d k = true) (h : DataW.trod enc Try.prog w base spare held fuel t [c] = some x) : fitK k c := by
  unfold okD at hk
  split at hk
  · rename_i k1 k2
    have e := of_decide_eq_true hk
    subst e
    obtain ⟨n, e, -, wf⟩ := DataW.trod_int hd h
    simp at e
    exact ⟨n, e, wf⟩
  · obtain ⟨n, e, -⟩ := DataW.trod_bool hd h
    simp at e
    exact ⟨n, e⟩
  · rcases open_slice hd h with ⟨hcs, _⟩ | ⟨a, len, cap, m, n, D, Pl, hcs, _⟩
    · simp at hcs; exact ⟨_, _, _, hcs⟩
    · simp at hcs; exact ⟨_, _, _, hcs⟩
  · cases hk
set_option maxRecDepth 20000 in
theorem fits_of {H : Type} {enc : TypeId × Value → H} {w : World} {base : Nat} {spare : Nat → Bool} {held : Bool} {fuel : Nat} {t : TypeId} {cs : List Value} {x : DataW H × List MemPlace} {fs : Array Field} (hs : Try.prog.underlying t = some (.struct fs)) (hone : oneCellFields Try.prog fs = true) (ks : List Ck) (hfl : fs.size = ks.length) (hok : (fs.toList.zip ks).all (fun p => okD (Try.prog.underlying p.1.type) p.2) = true) (hlen : cs.length = ks.length)
    (h : DataW.trod enc Try.prog w base spare held fuel t cs = some x) : fitsL ks cs := by
  obtain ⟨xs, n, _, hx, _, hl, hg⟩ := DataW.trod_struct hs h
  refine fitsL_of ks cs hlen.symm fun j k v hj hv => ?_
  have hjl : j < ks.length := by
    rcases Nat.lt_or_ge j ks.length with h | h
    · exact h
    · rw [List.getElem?_eq_none h] at hj; cases hj
  have hjf : j < fs.size := by omega
  obtain ⟨p0, q0⟩ := hone_of hone j fs[j] (Array.getElem?_eq_getElem hjf)
  have g := hg j fs[j] (Array.getElem?_eq_getElem hjf)
  rw [p0, q0] at g
  have e1 : (cs.drop j).take 1 = [v] := by
    have hjc : j < cs.length := by omega
    rw [List.drop_eq_getElem_cons hjc]
    rw [List.getElem?_eq_getElem hjc] at hv
    injection hv with hv
    rw [hv]
    rfl
  rw [e1] at g
  have hxj : j < xs.length := by omega
  rw [List.getElem?_eq_getElem hxj] at g
  refine fit_cell k _ rfl ?_ g
  have := List.all_eq_true.1 hok (fs[j], k) (by
    rw [List.mem_iff_getElem?]
    exact ⟨j, by simp [List.getElem?_zip_eq_some, hjf, hj]⟩)
  exact this
theorem list12 {α : Type} {l : List α} (h : l.length = 12) : ∃ c0 c1 c2 c3 c4 c5 c6 c7 c8 c9 c10 c11, l = [c0, c1, c2, c3, c4, c5, c6, c7, c8, c9, c10, c11] := by
  match l, h with
  | [c0, c1, c2, c3, c4, c5, c6, c7, c8, c9, c10, c11], _ => exact ⟨c0, c1, c2, c3, c4, c5, c6, c7, c8, c9, c10, c11, rfl⟩
set_option maxRecDepth 20000 in
theorem cells_as {H : Type} {enc : TypeId × Value → H} {w : World} {base : Nat} {spare : Nat → Bool} {held : Bool} {fuel : Nat} {cs : List Value} {x : DataW H × List MemPlace} (hlen : cs.length = 12) (h : DataW.trod enc Try.prog w base spare held fuel 25 cs = some x) : ∃ a : As, cs = asL a := by
  have F := fits_of Try.underlying25 (by kernel_rfl) [.i .i64, .i .u32, .i .i64, .i .i64, .i .i64, .b, .b, .b, .i .i64, .b, .i .i64, .i .i64] (by kernel_rfl) (by kernel_rfl) hlen h
  obtain ⟨c0, c1, c2, c3, c4, c5, c6, c7, c8, c9, c10, c11, rfl⟩ := list12 hlen
  obtain ⟨⟨a0, rfl, w0⟩, ⟨a1, rfl, w1⟩, ⟨a2, rfl, w2⟩, ⟨a3, rfl, w3⟩, ⟨a4, rfl, w4⟩, ⟨a5, rfl⟩, ⟨a6, rfl⟩, ⟨a7, rfl⟩, ⟨a8, rfl, w8⟩, ⟨a9, rfl⟩, ⟨a10, rfl, w10⟩, ⟨a11, rfl, w11⟩, -⟩ := F
  exact ⟨⟨a0, a1, a2, a3, a4, a5, a6, a7, a8, a9, a10, a11⟩, rfl⟩
set_option maxRecDepth 20000 in
/-- by value -/
theorem by_value {H : Type} {enc : TypeId × Value → H} {w : World} {base : Nat} {spare : Nat → Bool} {held : Bool} {r : Reach} {b0 : Nat} {t : TypeId} {v : Value} {d : DataW H} {p : List MemPlace} {fs : Array Field} (hs : Try.prog.underlying t = some (.struct fs)) (n : Nat) (hC : Try.prog.cellsOf t = n)
    (hv : Value.okWide Try.prog w r b0 t v) (h : DataW.Trod enc Try.prog w base spare held t v d p) : ∃ (l : List Value) (fuel : Nat), v = .agg l.toArray ∧ l.length = n ∧ DataW.trod enc Try.prog w base spare held fuel t l = some (d, p) := by
  obtain ⟨cs, rfl, hsz⟩ := okWide_struct hs hv
  obtain ⟨l⟩ := cs
  obtain ⟨fuel, hf⟩ := h
  exact ⟨l, fuel, rfl, hsz.trans hC, hf⟩
/-- a step -/
structure Stp where
  k : Int
  t : Int
  n : Int
def spL (s : Stp) : List Value := [.int .i64 s.k, .int .i64 s.t, .int .i64 s.n]
def z11 : Stp := ⟨0, 0, 0⟩
/-- a slice below block N that reads as these steps -/
structure Sp (N : Nat) (w : World) (v : Value) (xs : List Stp) : Prop where
  ex : ∃ ao cap, v = .slice ao xs.length cap ∧ ∀ k, k < xs.length → ∃ ad, ao = some ad ∧ ad.block < N ∧ ∀ j u, (spL (xs.getD k z11))[j]? = some u → w.cell? ((ad.add (k * 3)).add j) = some u
theorem Sp.below {N B : Nat} {w w' : World} {v : Value} {xs : List Stp} (h : Sp N w v xs) (hb : Below B w w') (hN : N ≤ B) : Sp N w' v xs := by
  obtain ⟨ao, cap, h1, h2⟩ := h
  refine ⟨ao, cap, h1, fun k hk => ?_⟩
  obtain ⟨ad, k1, k2, k3⟩ := h2 k hk
  exact ⟨ad, k1, k2, fun j u hu => (hb.cell (p := (ad.add (k * 3)).add j) (by rw [add_block, add_block]; omega)).trans (k3 j u hu)⟩
/-- an element: its index, its cells -/
theorem Sp.at {N : Nat} {w : World} {ao : Option Addr} {n cap : Nat} {xs : List Stp} (h : Sp N w (.slice ao n cap) xs) (k : Nat) (hk : k < xs.length) : ∃ ad : Addr, (∀ u, Sem.run Try.prog (Instr.indexAt 37 (.slice ao n cap) (.int .i64 (k : Int))) u = .ok (.pointer (some ad)) u) ∧ ad.block < N ∧ ∀ j u, (spL (xs.getD k z11))[j]? = some u → w.cell? (ad.add j) = some u := by
  obtain ⟨ao', cap', h1, h2⟩ := h
  injection h1 with e1 e2 e3
  subst e1 e2 e3
  obtain ⟨ad, k1, k2, k3⟩ := h2 k hk
  refine ⟨ad.add (k * 3), fun u => ?_, by rw [add_block]; exact k2, k3⟩
  subst k1
  have u' := Try.underlying37
  have c3 : Try.prog.cellsOf 39 = 3 := by kernel_rfl
  have h0 : (0 : Int) ≤ k := Int.natCast_nonneg k
  have h1 : (k : Int) < xs.length := by omega
  go_simp
theorem Sp.len {N : Nat} {w : World} {ao : Option Addr} {n cap : Nat} {xs : List Stp} (h : Sp N w (.slice ao n cap) xs) : n = xs.length := by
  obtain ⟨ao', cap', h1, h2⟩ := h
  injection h1 with e1 e2 e3
theorem list3' {α : Type} {l : List α} (h : l.length = 3) : ∃ a b c, l = [a, b, c] := by
  match l, h with
  | [a, b, c], _ => exact ⟨a, b, c, rfl⟩
theorem open_three {H : Type} {enc : TypeId × Value → H} {w : World} {base : Nat} {spare : Nat → Bool} {held : Bool} {fuel : Nat} {cs : List Value} {x : DataW H × List MemPlace} (hlen : cs.length = 3)
    (h : DataW.trod enc Try.prog w base spare held fuel 39 cs = some x) : ∃ s : Stp, cs = spL s := by
  have F := fits_of Try.underlying39 (by kernel_rfl) [.i .i64, .i .i64, .i .i64] (by kernel_rfl) (by kernel_rfl) hlen h
  obtain ⟨c0, c1, c2, rfl⟩ := list3' hlen
  obtain ⟨⟨a0, rfl, w0⟩, ⟨a1, rfl, w1⟩, ⟨a2, rfl, w2⟩, -⟩ := F
  exact ⟨⟨a0, a1, a2⟩, rfl⟩
theorem open_steps11 {H : Type} {enc : TypeId × Value → H} {w : World} {base : Nat} {spare : Nat → Bool} {held : Bool} {fuel : Nat} {c : Value} {x : DataW H × List MemPlace}
    (h : DataW.trod enc Try.prog w base spare held fuel 37 [c] = some x) : ∃ ss : List Stp, Sp w.heap.size w c ss := by
  have ht := Try.underlying37
  have ce : Try.prog.cellsOf 39 = 3 := by kernel_rfl
  rcases open_slice ht h with ⟨hcs, _⟩ | ⟨a, len, cap, m, n, D, Pl, hcs, hb, hl, hm, hmm, hxd, hx⟩
  · simp at hcs
    exact ⟨[], ⟨none, 0, by rw [hcs]; rfl, fun i hi => absurd hi (by simp)⟩⟩
  · simp at hcs
    have hlm : len ≤ m := by rw [hmm]; split <;> omega
    have each : ∀ i, ∃ r : Stp, i < len → (∀ j u, (spL r)[j]? = some u → w.cell? ((a.add (i * 3)).add j) = some u) := fun i => by
      by_cases hi : i < len
      · obtain ⟨cs', h1, h2⟩ := hx i (by omega)
        rw [ce] at h1
        obtain ⟨_, hlen, hcell⟩ := World.cells?_some h1
        obtain ⟨s, rfl⟩ := open_three hlen h2
        refine ⟨s, fun _ => fun j u hu => ?_⟩
        have hj : j < 3 := by
          rcases Nat.lt_or_ge j 3 with hlt | hge
          · exact hlt
          · rw [List.getElem?_eq_none (by simpa [spL] using hge)] at hu; cases hu
        rw [hcell j hj]
        first | exact hu | simpa using hu
      · exact ⟨z11, fun h => absurd h hi⟩
    obtain ⟨F, hF⟩ := Classical.axiomOfChoice each
    have hlen : ((List.range len).map F).length = len := by simp
    refine ⟨(List.range len).map F, ⟨some a, cap, by rw [hlen]; exact hcs, fun i hi => ?_⟩⟩
    rw [hlen] at hi
    have e5 : ((List.map F (List.range len))).getD i z11 = F i := by
      rw [List.getD_eq_getElem?_getD, List.getElem?_map, List.getElem?_range hi]; rfl
    rw [e5]
    refine ⟨a, rfl, ?_, hF i hi⟩
    have := World.block_lt_of_cell? w _ (hF i hi 0 _ rfl)
    rwa [add_block, add_block] at this
/-- a slice below block N that reads as these bools -/
structure Sb (N : Nat) (w : World) (v : Value) (xs : List Bool) : Prop where
  ex : ∃ ao cap, v = .slice ao xs.length cap ∧ ∀ k, k < xs.length → ∃ ad, ao = some ad ∧ ad.block < N ∧ w.cell? (ad.add k) = some (.bool (xs.getD k false))
theorem Sb.below {N B : Nat} {w w' : World} {v : Value} {xs : List Bool} (h : Sb N w v xs) (hb : Below B w w') (hN : N ≤ B) : Sb N w' v xs := by
  obtain ⟨ao, cap, h1, h2⟩ := h
  refine ⟨ao, cap, h1, fun k hk => ?_⟩
  obtain ⟨ad, k1, k2, k3⟩ := h2 k hk
  exact ⟨ad, k1, k2, (hb.cell (p := ad.add k) (by rw [add_block]; omega)).trans k3⟩
theorem Sb.at {N : Nat} {w : World} {ao : Option Addr} {n cap : Nat} {xs : List Bool} (h : Sb N w (.slice ao n cap) xs) (k : Nat) (hk : k < xs.length) : ∃ ad : Addr, (∀ u, Sem.run Try.prog (Instr.indexAt 46 (.slice ao n cap) (.int .i64 (k : Int))) u = .ok (.pointer (some ad)) u) ∧ ad.block < N ∧ w.cell? ad = some (.bool (xs.getD k false)) := by
  obtain ⟨ao', cap', h1, h2⟩ := h
  injection h1 with e1 e2 e3
  subst e1 e2 e3
  obtain ⟨ad, k1, k2, k3⟩ := h2 k hk
  refine ⟨ad.add k, fun u => ?_, by rw [add_block]; exact k2, k3⟩
  subst k1
  have u' := Try.underlying46
  have c3 : Try.prog.cellsOf 4 = 1 := by kernel_rfl
  have h0 : (0 : Int) ≤ k := Int.natCast_nonneg k
  have h1 : (k : Int) < xs.length := by omega
  go_simp
theorem open_bools {H : Type} {enc : TypeId × Value → H} {w : World} {base : Nat} {spare : Nat → Bool} {held : Bool} {fuel : Nat} {c : Value} {x : DataW H × List MemPlace}
    (h : DataW.trod enc Try.prog w base spare held fuel 46 [c] = some x) : ∃ ss : List Bool, Sb w.heap.size w c ss := by
  have ht := Try.underlying46
  have ce : Try.prog.cellsOf 4 = 1 := by kernel_rfl
  rcases open_slice ht h with ⟨hcs, _⟩ | ⟨a, len, cap, m, n, D, Pl, hcs, hb, hl, hm, hmm, hxd, hx⟩
  · simp at hcs
    exact ⟨[], ⟨none, 0, by rw [hcs]; rfl, fun i hi => absurd hi (by simp)⟩⟩
  · simp at hcs
    have hlm : len ≤ m := by rw [hmm]; split <;> omega
    have each : ∀ i, ∃ r : Bool, i < len → w.cell? (a.add i) = some (.bool r) := fun i => by
      by_cases hi : i < len
      · obtain ⟨cs', h1, h2⟩ := hx i (by omega)
        rw [ce] at h1
        obtain ⟨_, hlen, hcell⟩ := World.cells?_some h1
        match cs', hlen with
        | [c0], _ =>
          obtain ⟨r, rfl⟩ : ∃ r, c0 = .bool r := by
            obtain ⟨n, e, -⟩ := DataW.trod_bool Try.underlying4 h2
            simp at e
            exact ⟨n, e⟩
          refine ⟨r, fun _ => ?_⟩
          have := hcell 0 (by omega)
          rw [add_add, Nat.add_zero] at this
          simpa using this
      · exact ⟨false, fun h => absurd h hi⟩
    obtain ⟨F, hF⟩ := Classical.axiomOfChoice each
    have hlen : ((List.range len).map F).length = len := by simp
    refine ⟨(List.range len).map F, ⟨some a, cap, by rw [hlen]; exact hcs, fun i hi => ?_⟩⟩
    rw [hlen] at hi
    have e5 : ((List.map F (List.range len))).getD i false = F i := by
      rw [List.getD_eq_getElem?_getD, List.getElem?_map, List.getElem?_range hi]; rfl
    rw [e5]
    refine ⟨a, rfl, ?_, hF i hi⟩
    have := World.block_lt_of_cell? w _ (hF i hi)
    rwa [add_block] at this
end Go.Proofs.Ytocaiimhbmhakaa
