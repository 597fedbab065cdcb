/- The law NmeaCounts, walked. -/
import Derived.Test.YthoilihokbakoaaNG
import Derived.Test.YthoilihokbakoaaNI
namespace Go.Proofs.Ythoilihokbakoaa
open Go Go.RowKit
theorem OwT.form {w : World} {B : Nat} {v : Value} {ts : List (List UInt8)} (h : OwT w B v ts) : ∃ ao cap, v = .slice ao ts.length cap := by
  rcases h.2 with ⟨h1, h2⟩ | ⟨g, cap, cur, h1, _⟩
  · exact ⟨none, 0, by rw [h1, h2]⟩
  · exact ⟨_, _, h1⟩
/-- the line behind the first k pieces -/
def Sk (l : List (List UInt8)) (k : Nat) : LS := fdL ⟨none, [], 0⟩ (l.take k).flatten
theorem Sk_zero (l : List (List UInt8)) : Sk l 0 = ⟨none, [], 0⟩ := by unfold Sk; simp [fdL_nil]
theorem Sk_succ (l : List (List UInt8)) (k : Nat) (b : List UInt8) (h : l[k]? = some b) : Sk l (k + 1) = fdL (Sk l k) b := by unfold Sk; rw [flat_take l k b h, fdL_app]
theorem Sk_all (l : List (List UInt8)) : Sk l l.length = fdL ⟨none, [], 0⟩ l.flatten := by unfold Sk; rw [List.take_length]
theorem Sk_piece (l : List (List UInt8)) (k : Nat) (b : List UInt8) (h : l[k]? = some b) : Sk l (k + 1) = ⟨(fdL ⟨(Sk l k).st, [], (Sk l k).lost⟩ b).st, (Sk l k).out ++ (fdL ⟨(Sk l k).st, [], (Sk l k).lost⟩ b).out, (fdL ⟨(Sk l k).st, [], (Sk l k).lost⟩ b).lost⟩ := by
  rw [Sk_succ l k b h]
  exact fdL_piece _ _ _ _
theorem Sk_len (l : List (List UInt8)) (k : Nat) : ∀ cur, (Sk l k).st = some cur → cur.length ≤ 82 := fdL_len _ _ (fun cur h => by cases h)
theorem Sk_grow (l : List (List UInt8)) (k : Nat) : (Sk l k).out.length + (Sk l k).lost ≤ sumL l := by
  have h := fdL_grow (l.take k).flatten ⟨none, [], 0⟩
  rw [flat_len] at h
  have := sumL_le l k
  simp [opn] at h
  unfold Sk
  omega
/-- both lines behind the first k pieces -/
structure Both (l : List (List UInt8)) (w wr : World) (p d k : Nat) : Prop where
  bl : Below w.heap.size w wr
  ln : Ln wr p (Sk l k).st (Sk l k).lost
  ld : Ld wr d (Sk l k).st (Sk l k).lost
  p0 : w.heap.size ≤ p
  d0 : w.heap.size ≤ d
  pd : p ≠ d
theorem Ln.kept {w w' : World} {q : Nat} {st : Option (List UInt8)} {n : Nat} (h : Ln w q st n) (hb : w'.heap[q]? = w.heap[q]?) (hs : w.heap.size ≤ w'.heap.size) : Ln w' q st n := by
  obtain ⟨cur, h1, h2⟩ := h
  exact ⟨cur, h1.kept hb hs, h2⟩
theorem Ln.lt {w : World} {q : Nat} {st : Option (List UInt8)} {n : Nat} (h : Ln w q st n) : q < w.heap.size := by
  obtain ⟨cur, h1, -⟩ := h
  exact h1.lt
theorem Ln.below {w w' : World} {q B : Nat} {st : Option (List UInt8)} {n : Nat} (h : Ln w q st n) (hb : Below B w w') (hB : q < B) : Ln w' q st n := h.kept (hb.block q hB) hb.size
/-- both are fed one piece more -/
theorem Both.fed {l : List (List UInt8)} {w wr w1 w2 : World} {p d k : Nat} {b : List UInt8} (h : Both l w wr p d k) (hb : l[k]? = some b) (f1 : Fq wr w1 p) (l1 : Ln w1 p (fdL ⟨(Sk l k).st, [], (Sk l k).lost⟩ b).st (fdL ⟨(Sk l k).st, [], (Sk l k).lost⟩ b).lost) (f2 : Fq w1 w2 d) (l2 : Ld w2 d (fdL ⟨(Sk l k).st, [], (Sk l k).lost⟩ b).st (fdL ⟨(Sk l k).st, [], (Sk l k).lost⟩ b).lost) : Both l w w2 p d (k + 1) := by
  refine ⟨(h.bl.trans (f1.below h.bl.size h.p0)).trans (f2.below (Nat.le_trans h.bl.size f1.size) h.d0), ?_, ?_, h.p0, h.d0, h.pd⟩
  · rw [Sk_piece l k b hb]
    exact l1.kept (f2.block p l1.lt h.pd) f2.size
  · rw [Sk_piece l k b hb]
    exact l2
theorem beg_app (a b : List UInt8) : beg (a ++ b) = beg a + beg b := by unfold beg; rw [List.countP_append]
theorem beg_le (b : List UInt8) : beg b ≤ b.length := List.countP_le_length
theorem beg_take (b : List UInt8) (k : Nat) (c : UInt8) (h : b[k]? = some c) : beg (b.take (k + 1)) = beg (b.take k) + (if c.toNat = 36 then 1 else 0) := by
  obtain ⟨hk, rfl⟩ := List.getElem?_eq_some_iff.1 h
  rw [List.take_succ_eq_append_getElem hk, beg_app]
  congr 1
  unfold beg
  simp [List.countP_cons]
theorem beg_take_le (b : List UInt8) (k : Nat) : beg (b.take k) ≤ beg b := by
  have h : beg b = beg (b.take k) + beg (b.drop k) := by rw [← beg_app, List.take_append_drop]
  omega
/-- how many are begun in the first k pieces -/
def Gk (l : List (List UInt8)) (k : Nat) : Nat := beg (l.take k).flatten
theorem Gk_succ (l : List (List UInt8)) (k : Nat) (b : List UInt8) (h : l[k]? = some b) : Gk l (k + 1) = Gk l k + beg b := by unfold Gk; rw [flat_take l k b h, beg_app]
theorem Gk_le (l : List (List UInt8)) (k : Nat) : Gk l k ≤ sumL l := by
  have h := beg_le (l.take k).flatten
  rw [flat_len] at h
  have := sumL_le l k
  unfold Gk
  omega
theorem Sk_count (l : List (List UInt8)) (k : Nat) : (Sk l k).out.length + (Sk l k).lost + opn (Sk l k).st = Gk l k := by
  have h := fdL_count (l.take k).flatten ⟨none, [], 0⟩
  unfold Sk Gk
  simp [opn] at h ⊢
  omega
end Go.Proofs.Ythoilihokbakoaa
