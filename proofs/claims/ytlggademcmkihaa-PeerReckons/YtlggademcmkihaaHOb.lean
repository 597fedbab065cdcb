/- Structs of one-cell fields that came in, by value: opened. -/
import Derived.Test.YtlggademcmkihaaHO
import Derived.Test.YtlggademcmkihaaHDa
import Derived.Test.YtlggademcmkihaaHY
import Derived.Deep.Fields
namespace Go.Proofs.Ytlggademcmkihaa
open Go.ChangeShapes Go.WideShapes Go.ChangeAt Go.RowKit Go.Deep
/-- what a cell holds: a number, a bool, a slice -/
abbrev Ck := Sum IntKind (Option Bool)
abbrev Ck.i (k : IntKind) : Ck := .inl k
abbrev Ck.b : Ck := .inr none
abbrev Ck.s : Ck := .inr (some false)
def fitK : Ck → Value → Prop
  | .inl k, v => ∃ n, v = .int k n ∧ (Lit.int k n).wf = true
  | .inr none, v => ∃ x, v = .bool x
  | .inr (some _), v => ∃ o n c, v = .slice o n c
def fitsL : List Ck → List Value → Prop
  | [], [] => True
  | k :: ks, v :: vs => fitK k v ∧ fitsL ks vs
  | _, _ => False
def okD : Option TypeDesc → Ck → Bool
  | some (.int k'), .inl k => decide (k' = k)
  | some .bool, .inr none => true
  | some (.slice _), .inr (some false) => true
  | _, _ => false
theorem fitsL_of : ∀ (ks : List Ck) (cs : List Value), ks.length = cs.length → (∀ (j : Nat) k v, ks[j]? = some k → cs[j]? = some v → fitK k v) → fitsL ks cs
  | [], [], _, _ => trivial
  | k :: ks, v :: vs, hl, h => ⟨h 0 k v rfl rfl, fitsL_of ks vs (by simpa using hl) (fun j k v h1 h2 => h (j + 1) k v (by simpa using h1) (by simpa using h2))⟩
  | [], _ :: _, hl, _ => by simp at hl
  | _ :: _, [], hl, _ => by simp at hl
set_option maxRecDepth 20000 in
theorem fit_cell {H : Type} {enc : TypeId × Value → H} {w : World} {base : Nat} {spare : Nat → Bool} {held : Bool} {fuel : Nat} {t : TypeId} {c : Value} {x : DataW H × List MemPlace} (k : Ck) (d : Option TypeDesc) (hd : Try.prog.underlying t = d) (hk : okD d k = true) (h : DataW.trod enc Try.prog w base spare held fuel t [c] = some x) : fitK k c := by
  unfold okD at hk
  split at hk
  · rename_i k1 k2
    have e := of_decide_eq_true hk
    subst e
    obtain ⟨n, e, -, wf⟩ := DataW.trod_int hd h
    simp at e
    exact ⟨n, e, wf⟩
  · obtain ⟨n, e, -⟩ := DataW.trod_bool hd h
    simp at e
    exact ⟨n, e⟩
  · rcases open_slice hd h with ⟨hcs, _⟩ | ⟨a, len, cap, m, n, D, Pl, hcs, _⟩
    · simp at hcs; exact ⟨_, _, _, hcs⟩
    · simp at hcs; exact ⟨_, _, _, hcs⟩
  · cases hk
set_option maxRecDepth 20000 in
theorem fits_of {H : Type} {enc : TypeId × Value → H} {w : World} {base : Nat} {spare : Nat → Bool} {held : Bool} {fuel : Nat} {t : TypeId} {cs : List Value} {x : DataW H × List MemPlace} {fs : Array Field} (hs : Try.prog.underlying t = some (.struct fs)) (hone : oneCellFields Try.prog fs = true) (ks : List Ck) (hfl : fs.size = ks.length) (hok : (fs.toList.zip ks).all (fun p => okD (Try.prog.underlying p.1.type) p.2) = true) (hlen : cs.length = ks.length)
    (h : DataW.trod enc Try.prog w base spare held fuel t cs = some x) : fitsL ks cs := by
  obtain ⟨xs, n, _, hx, _, hl, hg⟩ := DataW.trod_struct hs h
  refine fitsL_of ks cs hlen.symm fun j k v hj hv => ?_
  have hjl : j < ks.length := by
    rcases Nat.lt_or_ge j ks.length with h | h
    · exact h
    · rw [List.getElem?_eq_none h] at hj; cases hj
  have hjf : j < fs.size := by omega
  obtain ⟨p0, q0⟩ := hone_of hone j fs[j] (Array.getElem?_eq_getElem hjf)
  have g := hg j fs[j] (Array.getElem?_eq_getElem hjf)
  rw [p0, q0] at g
  have e1 : (cs.drop j).take 1 = [v] := by
    have hjc : j < cs.length := by omega
    rw [List.drop_eq_getElem_cons hjc]
    rw [List.getElem?_eq_getElem hjc] at hv
    injection hv with hv
    rw [hv]
    rfl
  rw [e1] at g
  have hxj : j < xs.length := by omega
  rw [List.getElem?_eq_getElem hxj] at g
  refine fit_cell k _ rfl ?_ g
  have := List.all_eq_true.1 hok (fs[j], k) (by
    rw [List.mem_iff_getElem?]
    exact ⟨j, by simp [List.getElem?_zip_eq_some, hjf, hj]⟩)
  exact this
theorem list17 {α : Type} {l : List α} (h : l.length = 17) : ∃ c0 c1 c2 c3 c4 c5 c6 c7 c8 c9 c10 c11 c12 c13 c14 c15 c16, l = [c0, c1, c2, c3, c4, c5, c6, c7, c8, c9, c10, c11, c12, c13, c14, c15, c16] := by
  match l, h with
  | [c0, c1, c2, c3, c4, c5, c6, c7, c8, c9, c10, c11, c12, c13, c14, c15, c16], _ => exact ⟨c0, c1, c2, c3, c4, c5, c6, c7, c8, c9, c10, c11, c12, c13, c14, c15, c16, rfl⟩
theorem list8 {α : Type} {l : List α} (h : l.length = 8) : ∃ c0 c1 c2 c3 c4 c5 c6 c7, l = [c0, c1, c2, c3, c4, c5, c6, c7] := by
  match l, h with
  | [c0, c1, c2, c3, c4, c5, c6, c7], _ => exact ⟨c0, c1, c2, c3, c4, c5, c6, c7, rfl⟩
theorem list6 {α : Type} {l : List α} (h : l.length = 6) : ∃ c0 c1 c2 c3 c4 c5, l = [c0, c1, c2, c3, c4, c5] := by
  match l, h with
  | [c0, c1, c2, c3, c4, c5], _ => exact ⟨c0, c1, c2, c3, c4, c5, rfl⟩
theorem list12 {α : Type} {l : List α} (h : l.length = 12) : ∃ c0 c1 c2 c3 c4 c5 c6 c7 c8 c9 c10 c11, l = [c0, c1, c2, c3, c4, c5, c6, c7, c8, c9, c10, c11] := by
  match l, h with
  | [c0, c1, c2, c3, c4, c5, c6, c7, c8, c9, c10, c11], _ => exact ⟨c0, c1, c2, c3, c4, c5, c6, c7, c8, c9, c10, c11, rfl⟩
set_option maxRecDepth 20000 in
theorem cells_pk {H : Type} {enc : TypeId × Value → H} {w : World} {base : Nat} {spare : Nat → Bool} {held : Bool} {fuel : Nat} {cs : List Value} {x : DataW H × List MemPlace} (hlen : cs.length = 17) (h : DataW.trod enc Try.prog w base spare held fuel 44 cs = some x) : ∃ q : Pk, cs = pkC q ∧ okP q := by
  have F := fits_of Try.underlying44 (by kernel_rfl) [.i .i64, .i .i64, .i .i64, .i .i64, .i .i64, .i .i64, .i .i64, .i .i64, .i .u32, .i .u64, .i .u64, .i .u64, .i .u64, .s, .i .i64, .b, .s] (by kernel_rfl) (by kernel_rfl) hlen h
  obtain ⟨c0, c1, c2, c3, c4, c5, c6, c7, c8, c9, c10, c11, c12, c13, c14, c15, c16, rfl⟩ := list17 hlen
  obtain ⟨⟨a0, rfl, w0⟩, ⟨a1, rfl, w1⟩, ⟨a2, rfl, w2⟩, ⟨a3, rfl, w3⟩, ⟨a4, rfl, w4⟩, ⟨a5, rfl, w5⟩, ⟨a6, rfl, w6⟩, ⟨a7, rfl, w7⟩, ⟨a8, rfl, w8⟩, ⟨a9, rfl, w9⟩, ⟨a10, rfl, w10⟩, ⟨a11, rfl, w11⟩, ⟨a12, rfl, w12⟩, ⟨eo, en, ec, rfl⟩, ⟨a14, rfl, w14⟩, ⟨a15, rfl⟩, ⟨mo, mn, mc, rfl⟩, -⟩ := F
  exact ⟨⟨a0, a1, a2, a3, a4, a5, a6, a7, a8, a9, a10, a11, a12, eo, en, ec, a14, a15, mo, mn, mc⟩, rfl, ⟨i64_wf w2, i64_wf w3, i64_wf w5, i64_wf w6, i64_wf w7, u64_wf w10, u64_wf w12⟩⟩
set_option maxRecDepth 20000 in
theorem cells_td {H : Type} {enc : TypeId × Value → H} {w : World} {base : Nat} {spare : Nat → Bool} {held : Bool} {fuel : Nat} {cs : List Value} {x : DataW H × List MemPlace} (hlen : cs.length = 8) (h : DataW.trod enc Try.prog w base spare held fuel 60 cs = some x) : ∃ t : Td, cs = tdL t ∧ okT t := by
  have F := fits_of Try.underlying60 (by kernel_rfl) [.i .i64, .i .i64, .i .i64, .i .i64, .i .i64, .i .i64, .i .u32, .i .u64] (by kernel_rfl) (by kernel_rfl) hlen h
  obtain ⟨c0, c1, c2, c3, c4, c5, c6, c7, rfl⟩ := list8 hlen
  obtain ⟨⟨a0, rfl, w0⟩, ⟨a1, rfl, w1⟩, ⟨a2, rfl, w2⟩, ⟨a3, rfl, w3⟩, ⟨a4, rfl, w4⟩, ⟨a5, rfl, w5⟩, ⟨a6, rfl, w6⟩, ⟨a7, rfl, w7⟩, -⟩ := F
  exact ⟨⟨a0, a1, a2, a3, a4, a5, a6, a7⟩, rfl, ⟨i64_wf w4, i64_wf w5⟩⟩
set_option maxRecDepth 20000 in
theorem cells_be {H : Type} {enc : TypeId × Value → H} {w : World} {base : Nat} {spare : Nat → Bool} {held : Bool} {fuel : Nat} {cs : List Value} {x : DataW H × List MemPlace} (hlen : cs.length = 6) (h : DataW.trod enc Try.prog w base spare held fuel 66 cs = some x) : ∃ b : Be, cs = beL b ∧ okB' b := by
  have F := fits_of Try.underlying66 (by kernel_rfl) [.i .i64, .i .i64, .i .i64, .i .i64, .i .u64, .b] (by kernel_rfl) (by kernel_rfl) hlen h
  obtain ⟨c0, c1, c2, c3, c4, c5, rfl⟩ := list6 hlen
  obtain ⟨⟨a0, rfl, w0⟩, ⟨a1, rfl, w1⟩, ⟨a2, rfl, w2⟩, ⟨a3, rfl, w3⟩, ⟨a4, rfl, w4⟩, ⟨a5, rfl⟩, -⟩ := F
  exact ⟨⟨a0, a1, a2, a3, a4, a5⟩, rfl, ⟨i64_wf w1, i64_wf w2, i64_wf w3⟩⟩
set_option maxRecDepth 20000 in
theorem cells_as {H : Type} {enc : TypeId × Value → H} {w : World} {base : Nat} {spare : Nat → Bool} {held : Bool} {fuel : Nat} {cs : List Value} {x : DataW H × List MemPlace} (hlen : cs.length = 12) (h : DataW.trod enc Try.prog w base spare held fuel 31 cs = some x) : ∃ a : As, cs = asL a ∧ W64 a.kind := by
  have F := fits_of Try.underlying31 (by kernel_rfl) [.i .i64, .i .u32, .i .i64, .i .i64, .i .i64, .b, .b, .b, .i .i64, .b, .i .i64, .i .i64] (by kernel_rfl) (by kernel_rfl) hlen h
  obtain ⟨c0, c1, c2, c3, c4, c5, c6, c7, c8, c9, c10, c11, rfl⟩ := list12 hlen
  obtain ⟨⟨a0, rfl, w0⟩, ⟨a1, rfl, w1⟩, ⟨a2, rfl, w2⟩, ⟨a3, rfl, w3⟩, ⟨a4, rfl, w4⟩, ⟨a5, rfl⟩, ⟨a6, rfl⟩, ⟨a7, rfl⟩, ⟨a8, rfl, w8⟩, ⟨a9, rfl⟩, ⟨a10, rfl, w10⟩, ⟨a11, rfl, w11⟩, -⟩ := F
  exact ⟨⟨a0, a1, a2, a3, a4, a5, a6, a7, a8, a9, a10, a11⟩, rfl, i64_wf w0⟩
set_option maxRecDepth 20000 in
/-- by value -/
theorem by_value {H : Type} {enc : TypeId × Value → H} {w : World} {base : Nat} {spare : Nat → Bool} {held : Bool} {r : Reach} {b0 : Nat} {t : TypeId} {v : Value} {d : DataW H} {p : List MemPlace} {fs : Array Field} (hs : Try.prog.underlying t = some (.struct fs)) (n : Nat) (hC : Try.prog.cellsOf t = n)
    (hv : Value.okWide Try.prog w r b0 t v) (h : DataW.Trod enc Try.prog w base spare held t v d p) : ∃ (l : List Value) (fuel : Nat), v = .agg l.toArray ∧ l.length = n ∧ DataW.trod enc Try.prog w base spare held fuel t l = some (d, p) := by
  obtain ⟨cs, rfl, hsz⟩ := okWide_struct hs hv
  obtain ⟨l⟩ := cs
  obtain ⟨fuel, hf⟩ := h
  exact ⟨l, fuel, rfl, hsz.trans hC, hf⟩
end Go.Proofs.Ytlggademcmkihaa
