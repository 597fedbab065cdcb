/- What down and two of the reference's whole numbers return: a quotient divided down, and a power of two. -/
import Derived.Test.YtenlkadmniobdaaBigH
import Derived.WalkKit
import Derived.WalkSpells
import Derived.WalkLawsBesides
import Derived.Handy
import Derived.Deep.RegionHeld3
namespace Go.Proofs.Ytenlkadmniobdaa
open Go.RowKit
theorem sgn_down (m : Bool) (A V : Nat) (hV : 0 < V) : sgn m A / (V : Int) = if m ∧ 0 < A % V then sgn m (A / V + 1) else sgn m (A / V) := by
  cases m
  · simp [sgn]
  · simp only [sgn, if_true, true_and]
    rw [Fx.quo_neg A V hV]
    split <;> simp
theorem can_pos {R : List Nat} (h : Bg.can R) : 0 < Bg.val R ↔ 0 < R.length := by
  constructor
  · intro hp
    refine Nat.pos_of_ne_zero fun h0 => ?_
    have : R = [] := List.length_eq_zero_iff.1 h0
    subst this
    simp [Bg.val] at hp
  · intro hp
    have h1 := Bg.can_ge h hp
    have h2 : 0 < 65536 ^ (R.length - 1) := Nat.pos_of_ne_zero (by simp)
    omega
/-- a sum with one digit -/
theorem plus_one (bo : Option Addr) (B : List Nat) (cb : Nat) (d : Nat) (g : Nat) (w : World) (hB : (B.length : Int) ≤ 100000) (rb : Rd w bo B) (db : Bg.dok B) (hd : d < 65536) (rd : Rd w (some ⟨g, 0, none⟩) [d]) :
    Calls Try.prog 60 #[.slice bo B.length cb, .slice (some ⟨g, 0, none⟩) 1 1] w fun e w' => ∃ (o : Option Addr) (ds : List Nat) (c : Nat), e = .returned (.slice o ds.length c) ∧ ds.length ≤ c ∧ Rd w' o ds ∧ Bg.can ds ∧ Bg.val ds = Bg.val B + d ∧ New w.heap.size o c ∧ Below w.heap.size w w' := by
  have := plus_any bo (some ⟨g, 0, none⟩) B [d] cb 1 w hB (by simp) rb rd db (Bg.dok_one d hd)
  rw [Bg.val_one] at this
  exact this
theorem cells_kept {w w' : World} (h : Below w.heap.size w w') {b o : Nat} {v : Value} (hb : b < w.heap.size) (hc : w.cell? ⟨b, o, none⟩ = some v) : w'.cell? ⟨b, o, none⟩ = some v := (h.cell (p := ⟨b, o, none⟩) hb).trans hc
theorem free_kept {w w' : World} (h : Below w.heap.size w w') {b o : Nat} (hb : b < w.heap.size) (hc : w.frozen? ⟨b, o, none⟩ = false) : w'.frozen? ⟨b, o, none⟩ = false := (h.frozen (p := ⟨b, o, none⟩) hb).trans hc
end Go.Proofs.Ytenlkadmniobdaa
