/- Arguments of the laws on tables, opened. -/
import Derived.Test.YtnjdmkgkpdebdaaKS
import Derived.ProofKit
import Derived.OpenShut
import Derived.Deep.SlicePairs
import Derived.Deep.Fields
import Derived.SizedLaws
namespace Go.Proofs.Ytnjdmkgkpdebdaa
open Go.ChangeShapes Go.WideShapes Go.ChangeAt Go.RowKit Go.Deep
set_option linter.unusedVariables false
theorem i64_wf {n : Int} (h : (Lit.int .i64 n).wf = true) : -9223372036854775808 ≤ n ∧ n ≤ 9223372036854775807 := by
  have e1 : IntKind.i64.min = -9223372036854775808 := by decide
  have e2 : IntKind.i64.max = 9223372036854775807 := by decide
  simp [Lit.wf, e1, e2] at h
  omega
theorem u64_wf {n : Int} (h : (Lit.int .u64 n).wf = true) : 0 ≤ n ∧ n < 18446744073709551616 := by
  have e1 : IntKind.u64.min = 0 := by decide
  have e2 : IntKind.u64.max = 18446744073709551615 := by decide
  simp [Lit.wf, e1, e2] at h
  omega
/-- what a cell holds: a number, a bool, a slice -/
abbrev Ck := Sum IntKind (Option Bool)
abbrev Ck.i (k : IntKind) : Ck := .inl k
abbrev Ck.b : Ck := .inr none
abbrev Ck.s : Ck := .inr (some false)
abbrev Ck.t : Ck := .inr (some true)
def fitK : Ck → Value → Prop
  | .inl k, v => ∃ n, v = .int k n ∧ (Lit.int k n).wf = true
  | .inr none, v => ∃ x, v = .bool x
  | .inr (some false), v => ∃ o n c, v = .slice o n c
  | .inr (some true), v => ∃ x, v = .string x
def fitsL : List Ck → List Value → Prop
  | [], [] => True
  | k :: ks, v :: vs => fitK k v ∧ fitsL ks vs
  | _, _ => False
def okD : Option TypeDesc → Ck → Bool
  | some (.int k'), .inl k => decide (k' = k)
  | some .bool, .inr none => true
  | some (.slice _), .inr (some false) => true
  | some .string, .inr (some true) => true
  | _, _ => false
theorem fitsL_of : ∀ (ks : List Ck) (cs : List Value), ks.length = cs.length → (∀ (j : Nat) k v, ks[j]? = some k → cs[j]? = some v → fitK k v) → fitsL ks cs
  | [], [], _, _ => trivial
  | k :: ks, v :: vs, hl, h => ⟨h 0 k v rfl rfl, fitsL_of ks vs (by simpa using hl) (fun j k v h1 h2 => h (j + 1) k v (by simpa using h1) (by simpa using h2))⟩
  | [], _ :: _, hl, _ => by simp at hl
  | _ :: _, [], hl, _ => by simp at hl
set_option maxRecDepth 20000 in
theorem fit_cell {H : Type} {enc : TypeId × Value → H} {w : World} {base : Nat} {spare : Nat → Bool} {held : Bool} {fuel : Nat} {t : TypeId} {c : Value} {x : DataW H × List MemPlace} (k : Ck) (d : Option TypeDesc) (hd : Try.prog.underlying t = d) (hk : okD d k = true) (h : DataW.trod enc Try.prog w base spare held fuel t [c] = some x) : fitK k c := by
  unfold okD at hk
  split at hk
  · rename_i k1 k2
    have e := of_decide_eq_true hk
    subst e
    obtain ⟨n, e, -, wf⟩ := DataW.trod_int hd h
    simp at e
    exact ⟨n, e, wf⟩
  · obtain ⟨n, e, -⟩ := DataW.trod_bool hd h
    simp at e
    exact ⟨n, e⟩
  · rcases open_slice hd h with ⟨hcs, _⟩ | ⟨a, len, cap, m, n, D, Pl, hcs, _⟩
    · simp at hcs; exact ⟨_, _, _, hcs⟩
    · simp at hcs; exact ⟨_, _, _, hcs⟩
  · obtain ⟨n, e, -⟩ := DataW.trod_string hd h
    simp at e
    exact ⟨n, e⟩
  · cases hk
set_option maxRecDepth 20000 in
theorem fits_of {H : Type} {enc : TypeId × Value → H} {w : World} {base : Nat} {spare : Nat → Bool} {held : Bool} {fuel : Nat} {t : TypeId} {cs : List Value} {x : DataW H × List MemPlace} {fs : Array Field} (hs : Try.prog.underlying t = some (.struct fs)) (hone : oneCellFields Try.prog fs = true) (ks : List Ck) (hfl : fs.size = ks.length) (hok : (fs.toList.zip ks).all (fun p => okD (Try.prog.underlying p.1.type) p.2) = true) (hlen : cs.length = ks.length)
    (h : DataW.trod enc Try.prog w base spare held fuel t cs = some x) : fitsL ks cs := by
  obtain ⟨xs, n, _, hx, _, hl, hg⟩ := DataW.trod_struct hs h
  refine fitsL_of ks cs hlen.symm fun j k v hj hv => ?_
  have hjl : j < ks.length := by
    rcases Nat.lt_or_ge j ks.length with h | h
    · exact h
    · rw [List.getElem?_eq_none h] at hj; cases hj
  have hjf : j < fs.size := by omega
  obtain ⟨p0, q0⟩ := hone_of hone j fs[j] (Array.getElem?_eq_getElem hjf)
  have g := hg j fs[j] (Array.getElem?_eq_getElem hjf)
  rw [p0, q0] at g
  have e1 : (cs.drop j).take 1 = [v] := by
    have hjc : j < cs.length := by omega
    rw [List.drop_eq_getElem_cons hjc]
    rw [List.getElem?_eq_getElem hjc] at hv
    injection hv with hv
    rw [hv]
    rfl
  rw [e1] at g
  have hxj : j < xs.length := by omega
  rw [List.getElem?_eq_getElem hxj] at g
  refine fit_cell k _ rfl ?_ g
  have := List.all_eq_true.1 hok (fs[j], k) (by
    rw [List.mem_iff_getElem?]
    exact ⟨j, by simp [List.getElem?_zip_eq_some, hjf, hj]⟩)
  exact this
theorem list17 {α : Type} {l : List α} (h : l.length = 17) : ∃ c0 c1 c2 c3 c4 c5 c6 c7 c8 c9 c10 c11 c12 c13 c14 c15 c16, l = [c0, c1, c2, c3, c4, c5, c6, c7, c8, c9, c10, c11, c12, c13, c14, c15, c16] := by
  match l, h with
  | [c0, c1, c2, c3, c4, c5, c6, c7, c8, c9, c10, c11, c12, c13, c14, c15, c16], _ => exact ⟨c0, c1, c2, c3, c4, c5, c6, c7, c8, c9, c10, c11, c12, c13, c14, c15, c16, rfl⟩
theorem list12 {α : Type} {l : List α} (h : l.length = 12) : ∃ c0 c1 c2 c3 c4 c5 c6 c7 c8 c9 c10 c11, l = [c0, c1, c2, c3, c4, c5, c6, c7, c8, c9, c10, c11] := by
  match l, h with
  | [c0, c1, c2, c3, c4, c5, c6, c7, c8, c9, c10, c11], _ => exact ⟨c0, c1, c2, c3, c4, c5, c6, c7, c8, c9, c10, c11, rfl⟩
set_option maxRecDepth 20000 in
theorem cells_pk {H : Type} {enc : TypeId × Value → H} {w : World} {base : Nat} {spare : Nat → Bool} {held : Bool} {fuel : Nat} {cs : List Value} {x : DataW H × List MemPlace} (hlen : cs.length = 17) (h : DataW.trod enc Try.prog w base spare held fuel 47 cs = some x) : ∃ mode poll key, Pf cs mode poll key ∧ (Lit.int .i64 mode).wf = true ∧ ∀ u ∈ cs, u.oneCell' = true := by
  have F := fits_of Try.underlying47 (by kernel_rfl) [.i .i64, .i .i64, .i .i64, .i .i64, .i .i64, .i .i64, .i .i64, .i .i64, .i .u32, .i .u64, .i .u64, .i .u64, .i .u64, .s, .i .i64, .b, .s] (by kernel_rfl) (by kernel_rfl) hlen h
  obtain ⟨c0, c1, c2, c3, c4, c5, c6, c7, c8, c9, c10, c11, c12, c13, c14, c15, c16, rfl⟩ := list17 hlen
  obtain ⟨⟨a0, rfl, w0⟩, ⟨a1, rfl, w1⟩, ⟨a2, rfl, w2⟩, ⟨a3, rfl, w3⟩, ⟨a4, rfl, w4⟩, ⟨a5, rfl, w5⟩, ⟨a6, rfl, w6⟩, ⟨a7, rfl, w7⟩, ⟨a8, rfl, w8⟩, ⟨a9, rfl, w9⟩, ⟨a10, rfl, w10⟩, ⟨a11, rfl, w11⟩, ⟨a12, rfl, w12⟩, ⟨eo, en, ec, rfl⟩, ⟨a14, rfl, w14⟩, ⟨a15, rfl⟩, ⟨mo, mn, mc, rfl⟩, -⟩ := F
  refine ⟨a2, a4, a14, ⟨rfl, rfl, rfl, rfl⟩, w2, fun u hu => ?_⟩
  simp only [List.mem_cons, List.not_mem_nil, or_false] at hu
  rcases hu with rfl | rfl | rfl | rfl | rfl | rfl | rfl | rfl | rfl | rfl | rfl | rfl | rfl | rfl | rfl | rfl | rfl <;> rfl
set_option maxRecDepth 20000 in
theorem cells_as {H : Type} {enc : TypeId × Value → H} {w : World} {base : Nat} {spare : Nat → Bool} {held : Bool} {fuel : Nat} {cs : List Value} {x : DataW H × List MemPlace} (hlen : cs.length = 12) (h : DataW.trod enc Try.prog w base spare held fuel 41 cs = some x) : ∃ a : As, cs = asL a ∧ (Lit.int .i64 a.kind).wf = true := by
  have F := fits_of Try.underlying41 (by kernel_rfl) [.i .i64, .i .u32, .i .i64, .i .i64, .i .i64, .b, .b, .b, .i .i64, .b, .i .i64, .i .i64] (by kernel_rfl) (by kernel_rfl) hlen h
  obtain ⟨c0, c1, c2, c3, c4, c5, c6, c7, c8, c9, c10, c11, rfl⟩ := list12 hlen
  obtain ⟨⟨a0, rfl, w0⟩, ⟨a1, rfl, w1⟩, ⟨a2, rfl, w2⟩, ⟨a3, rfl, w3⟩, ⟨a4, rfl, w4⟩, ⟨a5, rfl⟩, ⟨a6, rfl⟩, ⟨a7, rfl⟩, ⟨a8, rfl, w8⟩, ⟨a9, rfl⟩, ⟨a10, rfl, w10⟩, ⟨a11, rfl, w11⟩, -⟩ := F
  exact ⟨⟨a0, a1, a2, a3, a4, a5, a6, a7, a8, a9, a10, a11⟩, rfl, w0⟩
set_option maxRecDepth 20000 in
/-- by value -/
theorem by_value {H : Type} {enc : TypeId × Value → H} {w : World} {base : Nat} {spare : Nat → Bool} {held : Bool} {r : Reach} {b0 : Nat} {t : TypeId} {v : Value} {d : DataW H} {p : List MemPlace} {fs : Array Field} (hs : Try.prog.underlying t = some (.struct fs)) (n : Nat) (hC : Try.prog.cellsOf t = n)
    (hv : Value.okWide Try.prog w r b0 t v) (h : DataW.Trod enc Try.prog w base spare held t v d p) : ∃ (l : List Value) (fuel : Nat), v = .agg l.toArray ∧ l.length = n ∧ DataW.trod enc Try.prog w base spare held fuel t l = some (d, p) := by
  obtain ⟨cs, rfl, hsz⟩ := okWide_struct hs hv
  obtain ⟨l⟩ := cs
  obtain ⟨fuel, hf⟩ := h
  exact ⟨l, fuel, rfl, hsz.trans hC, hf⟩
theorem cut (l : List Value) (n m : Nat) : l.drop n = (l.drop n).take m ++ l.drop (n + m) := by
  rw [← List.drop_drop]; exact (List.take_append_drop m (l.drop n)).symm
theorem list11 {α : Type} {l : List α} (h : l.length = 11) : ∃ c0 c1 c2 c3 c4 c5 c6 c7 c8 c9 c10, l = [c0, c1, c2, c3, c4, c5, c6, c7, c8, c9, c10] := by
  match l, h with
  | [c0, c1, c2, c3, c4, c5, c6, c7, c8, c9, c10], _ => exact ⟨c0, c1, c2, c3, c4, c5, c6, c7, c8, c9, c10, rfl⟩
theorem list1 {α : Type} {l : List α} (h : l.length = 1) : ∃ c0, l = [c0] := by
  match l, h with
  | [c0], _ => exact ⟨c0, rfl⟩
theorem list6' {α : Type} {l : List α} (h : l.length = 6) : ∃ a b c d e f, l = [a, b, c, d, e, f] := by
  match l, h with
  | [a, b, c, d, e, f], _ => exact ⟨a, b, c, d, e, f, rfl⟩
theorem list10 {α : Type} {l : List α} (h : l.length = 10) : ∃ c0 c1 c2 c3 c4 c5 c6 c7 c8 c9, l = [c0, c1, c2, c3, c4, c5, c6, c7, c8, c9] := by
  match l, h with
  | [c0, c1, c2, c3, c4, c5, c6, c7, c8, c9], _ => exact ⟨c0, c1, c2, c3, c4, c5, c6, c7, c8, c9, rfl⟩
theorem list15 {α : Type} {l : List α} (h : l.length = 15) : ∃ c0 c1 c2 c3 c4 c5 c6 c7 c8 c9 c10 c11 c12 c13 c14, l = [c0, c1, c2, c3, c4, c5, c6, c7, c8, c9, c10, c11, c12, c13, c14] := by
  match l, h with
  | [c0, c1, c2, c3, c4, c5, c6, c7, c8, c9, c10, c11, c12, c13, c14], _ => exact ⟨c0, c1, c2, c3, c4, c5, c6, c7, c8, c9, c10, c11, c12, c13, c14, rfl⟩
set_option maxRecDepth 20000 in
theorem open_step {H : Type} {enc : TypeId × Value → H} {w : World} {base : Nat} {spare : Nat → Bool} {held : Bool} {fuel : Nat} {cs : List Value} {x : DataW H × List MemPlace} (hlen : cs.length = 37)
    (h : DataW.trod enc Try.prog w base spare held fuel 49 cs = some x) : ∃ s : Stp, cs = spC s ∧ okX s := by
  obtain ⟨xs, k, hk, hxy, _, hxl, hf⟩ := DataW.trod_struct Try.underlying49 h
  obtain ⟨y0, y1, y2, y3, y4, y5, y6, y7, y8, y9, rfl⟩ := list10 (show xs.length = 10 from hxl)
  have c0 : Try.prog.cellsOf 3 = 1 := by kernel_rfl
  have c1 : Try.prog.cellsOf 41 = 12 := by kernel_rfl
  have c3 : Try.prog.cellsOf 39 = 1 := by kernel_rfl
  have c4 : Try.prog.cellsOf 47 = 17 := by kernel_rfl
  have c5 : Try.prog.cellsOf 4 = 1 := by kernel_rfl
  have g0 : DataW.trod enc Try.prog w base spare held k 3 ((cs.drop 0).take 1) = some y0 := by rw [← c0]; exact hf 0 _ rfl
  have g1 : DataW.trod enc Try.prog w base spare held k 41 ((cs.drop 1).take 12) = some y1 := by rw [← c1]; exact hf 1 _ rfl
  have g2 : DataW.trod enc Try.prog w base spare held k 3 ((cs.drop 13).take 1) = some y2 := by rw [← c0]; exact hf 2 _ rfl
  have g3 : DataW.trod enc Try.prog w base spare held k 3 ((cs.drop 14).take 1) = some y3 := by rw [← c0]; exact hf 3 _ rfl
  have g4 : DataW.trod enc Try.prog w base spare held k 47 ((cs.drop 15).take 17) = some y4 := by rw [← c4]; exact hf 4 _ rfl
  have g5 : DataW.trod enc Try.prog w base spare held k 39 ((cs.drop 32).take 1) = some y5 := by rw [← c3]; exact hf 5 _ rfl
  have g6 : DataW.trod enc Try.prog w base spare held k 39 ((cs.drop 33).take 1) = some y6 := by rw [← c3]; exact hf 6 _ rfl
  have g7 : DataW.trod enc Try.prog w base spare held k 3 ((cs.drop 34).take 1) = some y7 := by rw [← c0]; exact hf 7 _ rfl
  have g8 : DataW.trod enc Try.prog w base spare held k 4 ((cs.drop 35).take 1) = some y8 := by rw [← c5]; exact hf 8 _ rfl
  have g9 : DataW.trod enc Try.prog w base spare held k 3 ((cs.drop 36).take 1) = some y9 := by rw [← c0]; exact hf 9 _ rfl
  have l1 : ((cs.drop 1).take 12).length = 12 := by simp; omega
  have l4 : ((cs.drop 15).take 17).length = 17 := by simp; omega
  obtain ⟨n0, e0, -, w0⟩ := DataW.trod_int Try.underlying3 g0
  obtain ⟨a, e1, wa⟩ := cells_as l1 g1
  obtain ⟨n2, e2, -, w2⟩ := DataW.trod_int Try.underlying3 g2
  obtain ⟨n3, e3, -, w3⟩ := DataW.trod_int Try.underlying3 g3
  obtain ⟨mode, poll, key, pf, wm, one⟩ := cells_pk l4 g4
  obtain ⟨n5, e5, -, w5⟩ := DataW.trod_int Try.underlying39 g5
  obtain ⟨n6, e6, -, w6⟩ := DataW.trod_int Try.underlying39 g6
  obtain ⟨n7, e7, -, w7⟩ := DataW.trod_int Try.underlying3 g7
  obtain ⟨n8, e8, -⟩ := DataW.trod_bool Try.underlying4 g8
  obtain ⟨n9, e9, -, w9⟩ := DataW.trod_int Try.underlying3 g9
  refine ⟨⟨n0, a, n2, n3, (cs.drop 15).take 17, mode, poll, key, n5, n6, n7, n8, n9⟩, ?_, ⟨pf, wa, wm, w3, one⟩⟩
  have k0 := cut cs 0 1
  have k1 := cut cs 1 12
  have k2 := cut cs 13 1
  have k3 := cut cs 14 1
  have k4 := cut cs 15 17
  have k5 := cut cs 32 1
  have k6 := cut cs 33 1
  have k7 := cut cs 34 1
  have k8 := cut cs 35 1
  have k9 := cut cs 36 1
  have k10 : cs.drop 37 = [] := List.drop_of_length_le (by omega)
  rw [e0] at k0
  rw [e1] at k1
  rw [e2] at k2
  rw [e3] at k3
  rw [e5] at k5
  rw [e6] at k6
  rw [e7] at k7
  rw [e8] at k8
  rw [e9] at k9
  rw [List.drop_zero] at k0
  show cs = _
  unfold spC
  conv => lhs; rw [k0, show 0 + 1 = 1 from rfl, k1, show 1 + 12 = 13 from rfl, k2, show 13 + 1 = 14 from rfl, k3, show 14 + 1 = 15 from rfl, k4, show 15 + 17 = 32 from rfl, k5, show 32 + 1 = 33 from rfl, k6, show 33 + 1 = 34 from rfl, k7, show 34 + 1 = 35 from rfl, k8, show 35 + 1 = 36 from rfl, k9, show 36 + 1 = 37 from rfl, k10]
  rfl
theorem open_stepsX {H : Type} {enc : TypeId × Value → H} {w : World} {base : Nat} {spare : Nat → Bool} {held : Bool} {fuel : Nat} {c : Value} {x : DataW H × List MemPlace}
    (h : DataW.trod enc Try.prog w base spare held fuel 30 [c] = some x) : ∃ ss : List Stp, Sx w.heap.size w c ss := by
  have ht := Try.underlying30
  have ce : Try.prog.cellsOf 49 = 37 := by kernel_rfl
  rcases open_slice ht h with ⟨hcs, _⟩ | ⟨a, len, cap, m, n, D, Pl, hcs, hb, hl, hm, hmm, hxd, hx⟩
  · simp at hcs
    exact ⟨[], ⟨⟨none, 0, (by rw [hcs]; rfl), fun k x hk => (by simp at hk)⟩, fun s hs => (by cases hs), (by simp)⟩⟩
  · simp at hcs
    have hlm : len ≤ m := by rw [hmm]; split <;> omega
    have each : ∀ i, ∃ r : Stp, i < len → (∀ j u, (spC r)[j]? = some u → w.cell? ((a.add (i * 37)).add j) = some u) ∧ okX r := fun i => by
      by_cases hi : i < len
      · obtain ⟨cs', h1, h2⟩ := hx i (by omega)
        rw [ce] at h1
        obtain ⟨_, hlen, hcell⟩ := World.cells?_some h1
        obtain ⟨s, rfl, ok⟩ := open_step hlen h2
        refine ⟨s, fun _ => ⟨fun j u hu => ?_, ok⟩⟩
        have hj : j < 37 := by
          rcases Nat.lt_or_ge j 37 with hlt | hge
          · exact hlt
          · rw [List.getElem?_eq_none (by rw [sp_len ok]; exact hge)] at hu; cases hu
        rw [hcell j hj]
        exact hu
      · exact ⟨sp0, fun h => absurd h hi⟩
    obtain ⟨F, hF⟩ := Classical.axiomOfChoice each
    have hlen : ((List.range len).map F).length = len := by simp
    refine ⟨(List.range len).map F, ⟨⟨some a, cap, (by rw [hlen]; exact hcs), fun k x hk => ?_⟩, fun s hs => ?_, ?_⟩⟩
    · have hkl : k < len := by
        rcases Nat.lt_or_ge k len with hlt | hge
        · exact hlt
        · rw [List.getElem?_eq_none (by rw [hlen]; exact hge)] at hk; cases hk
      rw [List.getElem?_map, List.getElem?_range hkl] at hk
      simp at hk
      subst hk
      refine ⟨a, rfl, ?_, (hF k hkl).1⟩
      have := World.block_lt_of_cell? w _ ((hF k hkl).1 0 _ rfl)
      rwa [add_block, add_block] at this
    · obtain ⟨i, hi, rfl⟩ := List.mem_map.1 hs
      exact (hF i (List.mem_range.1 hi)).2
    · rw [hlen]
      have : cap ≤ maxLen := hm
      unfold maxLen at this
      omega
theorem open_assocs {H : Type} {enc : TypeId × Value → H} {w : World} {base : Nat} {spare : Nat → Bool} {held : Bool} {fuel : Nat} {c : Value} {x : DataW H × List MemPlace}
    (h : DataW.trod enc Try.prog w base spare held fuel 22 [c] = some x) : ∃ xs : List As, Rk w.heap.size w 12 c (xs.map asL) ∧ ∀ a ∈ xs, (Lit.int .i64 a.kind).wf = true := by
  have ht := Try.underlying22
  have ce : Try.prog.cellsOf 41 = 12 := by kernel_rfl
  rcases open_slice ht h with ⟨hcs, _⟩ | ⟨a, len, cap, m, n, D, Pl, hcs, hb, hl, hm, hmm, hxd, hx⟩
  · simp at hcs
    exact ⟨[], ⟨none, 0, (by rw [hcs]; rfl), Nat.le_refl _, fun i hi => (by simp at hi)⟩, fun a ha => (by cases ha)⟩
  · simp at hcs
    have hlm : len ≤ m := by rw [hmm]; split <;> omega
    have each : ∀ i, ∃ r : As, i < len → (∀ j u, (asL r)[j]? = some u → w.cell? ((a.add (i * 12)).add j) = some u) ∧ (Lit.int .i64 r.kind).wf = true := fun i => by
      by_cases hi : i < len
      · obtain ⟨cs', h1, h2⟩ := hx i (by omega)
        rw [ce] at h1
        obtain ⟨_, hlen, hcell⟩ := World.cells?_some h1
        obtain ⟨s, rfl, ok⟩ := cells_as hlen h2
        refine ⟨s, fun _ => ⟨fun j u hu => ?_, ok⟩⟩
        have hj : j < 12 := by
          rcases Nat.lt_or_ge j 12 with hlt | hge
          · exact hlt
          · rw [List.getElem?_eq_none (by exact hge)] at hu; cases hu
        rw [hcell j hj]
        exact hu
      · exact ⟨zAs, fun h => absurd h hi⟩
    obtain ⟨F, hF⟩ := Classical.axiomOfChoice each
    have hlen : ((List.range len).map F).length = len := by simp
    refine ⟨(List.range len).map F, ⟨some a, cap, (by rw [List.length_map, hlen]; exact hcs), (by rw [List.length_map, hlen]; exact hl), fun k hk => ?_⟩, fun s hs => ?_⟩
    · rw [List.length_map, hlen] at hk
      have e : (((List.range len).map F).map asL).getD k [] = asL (F k) := by
        rw [List.getD_eq_getElem?_getD, List.getElem?_map, List.getElem?_map, List.getElem?_range hk]
        rfl
      refine ⟨a, rfl, ?_, fun j u hu => ?_⟩
      · have := World.block_lt_of_cell? w _ ((hF k hk).1 0 _ rfl)
        rwa [add_block, add_block] at this
      · rw [e] at hu
        rw [← add_add]
        exact (hF k hk).1 j u hu
    · obtain ⟨i, hi, rfl⟩ := List.mem_map.1 hs
      exact (hF i (List.mem_range.1 hi)).2
set_option maxRecDepth 20000 in
theorem open_conf {H : Type} {enc : TypeId × Value → H} {w : World} {base : Nat} {spare : Nat → Bool} {held : Bool} {fuel : Nat} {cs : List Value} {x : DataW H × List MemPlace} (hlen : cs.length = 15)
    (h : DataW.trod enc Try.prog w base spare held fuel 29 cs = some x) : ∃ (xs : List As) (ls mc : Bool), Cx w.heap.size w cs xs ls mc := by
  have F := fits_of Try.underlying29 (by kernel_rfl) [.s, .s, .s, .i .i64, .s, .t, .s, .i .i64, .b, .b, .i .i64, .i .i64, .i .i64, .i .i64, .i .i64] (by kernel_rfl) (by kernel_rfl) hlen h
  obtain ⟨xs, k, hk, hxy, _, hxl, hf⟩ := DataW.trod_struct Try.underlying29 h
  obtain ⟨y0, y1, y2, y3, y4, y5, y6, y7, y8, y9, y10, y11, y12, y13, y14, rfl⟩ := list15 (show xs.length = 15 from hxl)
  have cc : Try.prog.cellsOf 22 = 1 := by kernel_rfl
  have g0' : DataW.trod enc Try.prog w base spare held k 22 ((cs.drop 0).take 1) = some y0 := by rw [← cc]; exact hf 0 _ rfl
  obtain ⟨c0, c1, c2, c3, c4, c5, c6, c7, c8, c9, c10, c11, c12, c13, c14, rfl⟩ := list15 hlen
  have g0 : DataW.trod enc Try.prog w base spare held k 22 [c0] = some y0 := g0'
  obtain ⟨zs, hz, hw⟩ := open_assocs g0
  obtain ⟨⟨o0, n0, p0, rfl⟩, ⟨o1, n1, p1, rfl⟩, ⟨o2, n2, p2, rfl⟩, ⟨a3, rfl, -⟩, ⟨o4, n4, p4, rfl⟩, ⟨a5, rfl⟩, ⟨o6, n6, p6, rfl⟩, ⟨a7, rfl, -⟩, ⟨a8, rfl⟩, ⟨a9, rfl⟩, ⟨a10, rfl, -⟩, ⟨a11, rfl, -⟩, ⟨a12, rfl, -⟩, ⟨a13, rfl, -⟩, ⟨a14, rfl, -⟩, -⟩ := F
  refine ⟨zs, a8, a9, ⟨⟨_, ⟨rfl, rfl, rfl, rfl⟩, hz⟩, hw, fun u hu => ?_⟩⟩
  simp only [List.mem_cons, List.not_mem_nil, or_false] at hu
  rcases hu with rfl | rfl | rfl | rfl | rfl | rfl | rfl | rfl | rfl | rfl | rfl | rfl | rfl | rfl | rfl <;> rfl
end Go.Proofs.Ytnjdmkgkpdebdaa
