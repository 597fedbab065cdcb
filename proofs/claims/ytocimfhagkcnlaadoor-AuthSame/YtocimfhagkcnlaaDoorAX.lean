/- (XM over AW) Pieces of a slice of bytes: what the slice expressions run to. -/
import Derived.Test.YtocimfhagkcnlaaDoorAW
import Derived.Test.YtocimfhagkcnlaaDoorAA
namespace Go.Proofs.YtocimfhagkcnlaaDoor
open Go.RowKit
theorem Sv.mid {N : Nat} {w : World} {ao : Option Addr} {cap : Nat} {bs : List Int} (h : Sv N w (.slice ao bs.length cap) bs) (l r : Nat) (hlr : l ≤ r) (hr : r ≤ bs.length) :
    Sv N w (.slice (if cap = l then ao else ao.map (fun a => a.add (l * 1))) (r - l) (cap - l)) ((bs.drop l).take (r - l)) := by
  obtain ⟨ao', cap', he, h1, h2, h3, h4⟩ := h
  injection he with he1 he2 he3
  subst he1; subst he3
  have hlen : ((bs.drop l).take (r - l)).length = r - l := by rw [List.length_take, List.length_drop]; omega
  by_cases hc : cap = l
  · have h0 : (bs.drop l).take (r - l) = [] := List.length_eq_zero_iff.1 (by omega)
    rw [if_pos hc, h0]
    exact ⟨ao, cap - l, by rw [List.length_nil, show r - l = 0 by omega], by simp, fun _ => by omega, Rs.nil _ _ _, okb_nil⟩
  · rw [if_neg hc]
    cases ao with
    | none => have := h2 rfl; omega
    | some ad =>
      exact ⟨_, _, by rw [hlen], by omega, fun e => (by cases e), (by rw [Nat.mul_one]; exact (h3.drop l).take (r - l)), okb_take (okb_drop h4 l) _⟩
/-- v[l:r] -/
theorem sub_mid {N : Nat} {w : World} {v : Value} {bs : List Int} (h : Sv N w v bs) (l r : Nat) (L R : Int) (hL : (l : Int) = L) (hR : (r : Int) = R) (hlr : l ≤ r) (hr : r ≤ bs.length) :
    ∃ v', (∀ u, (Instr.slice 23 v (some (.int .i64 L)) (some (.int .i64 R)) none).run Tryd.prog u = .ok v' u) ∧ Sv N w v' ((bs.drop l).take (r - l)) := by
  have hh := h
  obtain ⟨ao, cap, rfl, h1, h2, h3, h4⟩ := h
  subst hL; subst hR
  refine ⟨_, fun u => ?_, hh.mid l r hlr hr⟩
  have q1 : r ≤ cap := by omega
  simp [Instr.slice, Instr.sliceBounds, Instr.sliceBound, asIntOf, run_underlying Tryd.underlying23, q1, hlr]
/-- v[:r] -/
theorem sub_take {N : Nat} {w : World} {v : Value} {bs : List Int} (h : Sv N w v bs) (r : Nat) (R : Int) (hR : (r : Int) = R) (hr : r ≤ bs.length) :
    ∃ v', (∀ u, (Instr.slice 23 v none (some (.int .i64 R)) none).run Tryd.prog u = .ok v' u) ∧ Sv N w v' (bs.take r) := by
  have hh := h
  obtain ⟨ao, cap, rfl, h1, h2, h3, h4⟩ := h
  subst hR
  have hm := hh.mid 0 r (Nat.zero_le _) hr
  rw [List.drop_zero, Nat.sub_zero] at hm
  refine ⟨_, fun u => ?_, hm⟩
  have q1 : r ≤ cap := by omega
  simp [Instr.slice, Instr.sliceBounds, Instr.sliceBound, asIntOf, run_underlying Tryd.underlying23, q1]
/-- v[l:] -/
theorem sub_drop {N : Nat} {w : World} {v : Value} {bs : List Int} (h : Sv N w v bs) (l : Nat) (L : Int) (hL : (l : Int) = L) (hl : l ≤ bs.length) :
    ∃ v', (∀ u, (Instr.slice 23 v (some (.int .i64 L)) none none).run Tryd.prog u = .ok v' u) ∧ Sv N w v' (bs.drop l) := by
  have hh := h
  obtain ⟨ao, cap, rfl, h1, h2, h3, h4⟩ := h
  subst hL
  have hm := hh.mid l bs.length hl (Nat.le_refl _)
  rw [List.take_of_length_le (by rw [List.length_drop]; omega)] at hm
  refine ⟨_, fun u => ?_, hm⟩
  simp [Instr.slice, Instr.sliceBounds, Instr.sliceBound, asIntOf, run_underlying Tryd.underlying23, hl]
end Go.Proofs.YtocimfhagkcnlaaDoor
