/- For what the reference's DecodeControl returns. -/
import Derived.Test.YtoljhmnghhhggaaWM
import Derived.Test.YtoljhmnghhhggaaWK
import Derived.Test.YtoljhmnghhhggaaWNp
namespace Go.Proofs.Ytoljhmnghhhggaa
open Go.RowKit
theorem getf {N : Nat} {w : World} {ao : Option Addr} {L cap : Nat} {bs : List Int} (h : Sv N w (.slice ao L cap) bs) (k : Nat) (hk : k + 2 ≤ bs.length) (X : Int) (hX : X = fv bs k 2) :
    Calls Try.prog 54 #[.slice (Option.map (fun x => x.add k) ao) 2 (cap - k)] w fun e w' => e = .returned (.int .u64 X) ∧ w' = w := by
  rw [hX]
  exact get_any N _ _ w ((h.dropA k).take 2 (by rw [List.length_drop]; omega)) (by rw [List.length_take]; omega)
/-- the blocks of the reference's DecodeControl -/
structure RB (w v : World) : Prop where
  b0 : Bk w.heap.size v #[.int .i64 0, .bool false, .bool false, .bool false, .int .i64 0, .int .i64 0, .int .i64 0, .int .i64 0, .int .i64 0, .slice none 0 0, .int .i64 0, .slice none 0 0] 48
  b1 : Bk (w.heap.size + 1) v #[.int .i64 0, .bool false, .bool false, .bool false, .int .i64 0, .int .i64 0, .int .i64 0, .int .i64 0, .int .i64 0, .slice none 0 0, .int .i64 0, .slice none 0 0] 48
  bel : Below w.heap.size w v
theorem idx_int {ao : Option Addr} {ad : Addr} (n cap k : Nat) (i : Int) (hi : (k : Int) = i) (h : ao = some ad) (hk : i < n) (w : World) : Sem.run Try.prog (Instr.indexAt 27 (.slice ao n cap) (.int .i64 i)) w = .ok (.pointer (some (ad.add k))) w := by
  subst hi
  exact idx_run n cap k h hk w
/-- the bytes that fill are 0 -/
theorem pad_zero {b : List Int} (hb : okb b) (y F : Int) (y0 : 0 ≤ y) (hy : y ≤ F) (hF : F ≤ b.length) (h : ∀ j : Nat, y ≤ j → (j : Int) < F → b.getD j 0 = 0) : gt ((b.drop y.toNat).take (F - y).toNat) = 0 := by
  rw [gt_zero (okb_take (okb_drop hb _) _)]
  intro k hk
  rw [List.length_take, List.length_drop] at hk
  rw [List.getD_eq_getElem?_getD, List.getElem?_take_of_lt (by omega), List.getElem?_drop, ← List.getD_eq_getElem?_getD]
  exact h _ (by omega) (by omega)
theorem pad_not {b : List Int} (hb : okb b) (y F : Int) (y0 : 0 ≤ y) (j : Nat) (hj : y ≤ j) (hjF : (j : Int) < F) (hF : F ≤ b.length) (hne : b.getD j 0 ≠ 0) : gt ((b.drop y.toNat).take (F - y).toNat) ≠ 0 := fun hz => by
  rw [gt_zero (okb_take (okb_drop hb _) _)] at hz
  have := hz (j - y.toNat) (by rw [List.length_take, List.length_drop]; omega)
  rw [List.getD_eq_getElem?_getD, List.getElem?_take_of_lt (by omega), List.getElem?_drop, ← List.getD_eq_getElem?_getD] at this
  rw [show y.toNat + (j - y.toNat) = j by omega] at this
  exact hne this
structure RC (w v : World) (cs : Array Value) : Prop where
  rb : RB w v
  c : Bk (w.heap.size + 2) v cs 48
theorem RC.set {w v : World} {cs : Array Value} (h : RC w v cs) (j : Nat) (x : Value) : RC w (v.setCell ⟨w.heap.size + 2, j, none⟩ x) (cs.setIfInBounds j x) :=
  ⟨⟨h.rb.b0.far (by omega) _, h.rb.b1.far (by omega) _, h.rb.bel.setCell (p := ⟨w.heap.size + 2, j, none⟩) (by show w.heap.size ≤ w.heap.size + 2; omega) _⟩, h.c.set x⟩
theorem RC.below {w v v' : World} {cs : Array Value} (h : RC w v cs) (hb : Below v.heap.size v v') : RC w v' cs :=
  ⟨⟨h.rb.b0.below hb h.rb.b0.lt, h.rb.b1.below hb h.rb.b1.lt, h.rb.bel.trans (hb.mono (Nat.le_of_lt h.rb.b0.lt))⟩, h.c.below hb h.c.lt⟩
end Go.Proofs.Ytoljhmnghhhggaa
