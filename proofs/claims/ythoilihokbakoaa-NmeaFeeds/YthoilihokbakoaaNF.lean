/- What Feed of the reference's line does; New, Lost. -/
import Derived.Test.YthoilihokbakoaaNE
import Derived.Deep.Fields
namespace Go.Proofs.Ythoilihokbakoaa
open Go Go.RowKit
/-- the reference's line -/
structure Ld (w : World) (q : Nat) (st : Option (List UInt8)) (n : Nat) : Prop where
  lt : q < w.heap.size
  fz : ∀ j, w.frozen? ⟨q, j, none⟩ = false
  c0 : w.cell? ⟨q, 0, none⟩ = some (.bool st.isSome)
  cs : w.cell? ⟨q, 1, none⟩ = some (.string (tx (st.getD [])))
  lo : w.cell? ⟨q, 2, none⟩ = some (.int .i64 (n : Int))
theorem Ld.kept {w w' : World} {q : Nat} {st : Option (List UInt8)} {n : Nat} (h : Ld w q st n) (hb : w'.heap[q]? = w.heap[q]?) (hs : w.heap.size ≤ w'.heap.size) : Ld w' q st n := by
  have hc : ∀ j, w'.cell? ⟨q, j, none⟩ = w.cell? ⟨q, j, none⟩ := fun j => World.cell?_of_block hb
  exact ⟨Nat.lt_of_lt_of_le h.lt hs, fun j => (World.frozen?_of_block hb).trans (h.fz j), (hc 0).trans h.c0, (hc _).trans h.cs, (hc _).trans h.lo⟩
theorem Ld.below {w w' : World} {q B : Nat} {st : Option (List UInt8)} {n : Nat} (h : Ld w q st n) (hb : Below B w w') (hB : q < B) : Ld w' q st n := h.kept (hb.block q hB) hb.size
/-- the loop's memory -/
structure RF (s0 : LS) (b : List UInt8) (w w' : World) (q n0 : Nat) (st : Option (List UInt8)) (n : Nat) (v : Value) (O : List (List UInt8)) (k : Nat) : Prop where
  fr : Fq w w' q
  ld : Ld w' q st n
  ow : OwT w' w.heap.size v O
  hk : k ≤ b.length
  ln : O.length ≤ k
  lo : n ≤ n0 + k
  fd : fdL s0 (b.take k) = ⟨st, O, n⟩
  sl : ∀ cur, st = some cur → cur.length ≤ 82
theorem RF.step {s0 : LS} {b : List UInt8} {w w' w2 : World} {q n0 : Nat} {st st2 : Option (List UInt8)} {n n2 : Nat} {v v2 : Value} {O O2 : List (List UInt8)} {k : Nat} {c : UInt8} (h : RF s0 b w w' q n0 st n v O k) (hc : b[k]? = some c) (hf : Fq w w2 q) (hl : Ld w2 q st2 n2) (ho : OwT w2 w.heap.size v2 O2) (hs : stp ⟨st, O, n⟩ c = ⟨st2, O2, n2⟩) : RF s0 b w w2 q n0 st2 n2 v2 O2 (k + 1) := by
  obtain ⟨hk, rfl⟩ := List.getElem?_eq_some_iff.1 hc
  have h1 := fdL_take s0 b k hk
  rw [h.fd, hs] at h1
  have h2 : ∀ cur, (stp ⟨st, O, n⟩ b[k]).st = some cur → cur.length ≤ 82 := stp_len (s := ⟨st, O, n⟩) h.sl
  rw [hs] at h2
  have h4 : O2.length ≤ O.length + 1 ∧ n2 ≤ n + 1 := by
    have := stp_grow ⟨st, O, n⟩ b[k]
    rw [hs] at this
    exact this
  have := h.ln
  have := h.lo
  exact ⟨hf, hl, ho, hk, by omega, by omega, h1, h2⟩
theorem Rb.get {w : World} {q : Nat} {ao : Option Addr} {b : List UInt8} (h : Rb w q ao b) {k : Nat} (hk : k < b.length) : ∃ ad c, ao = some ad ∧ b[k]? = some c ∧ w.cell? (ad.add k) = some (.int .u8 (c.toNat : Int)) := by
  obtain ⟨ad, h1, -, -, h4⟩ := h k hk
  exact ⟨ad, _, h1, List.getElem?_eq_getElem hk, h4⟩
/-- the last byte of a text -/
theorem tx_last {cur : List UInt8} (h : 0 < cur.length) : ∃ x : Nat, (∀ (X : ByteArray) (k : Nat) (hk : k < X.size), X = tx cur → k + 1 = cur.length → X[k].toNat = x) ∧ (cur.getLast? = some 13 ↔ x = 13) := by
  refine ⟨(cur[cur.length - 1]'(by omega)).toNat, ?_, last_cr h⟩
  intro X k hk hX hkl
  subst hX
  have : cur.length - 1 = k := by omega
  subst this
  rfl
theorem tx_cr {cur : List UInt8} {X : ByteArray} (hX : X = tx cur) (h : 0 < X.size) : (((X[X.size - 1]'(by omega)).toNat : Int) == 13) = decide (cur.getLast? = some 13) := by
  have hs : X.size = cur.length := by rw [hX]; rfl
  obtain ⟨x, h1, h2⟩ := tx_last (cur := cur) (by omega)
  rw [h1 X (X.size - 1) (by omega) hX (by omega), Bool.eq_iff_iff, beq_iff_eq, decide_eq_true_eq, h2]
  omega
theorem tx_chop {cur : List UInt8} {X : ByteArray} (hX : X = tx cur) (h : cur.getLast? = some 13) : X.extract 0 (X.size - 1) = tx (chop cur) := by
  have hs : X.size = cur.length := by rw [hX]; rfl
  rw [hs, hX, extract_tx, tx_data]
  unfold chop
  rw [if_pos h, List.dropLast_eq_take]
  simp
/-- behind an append of texts -/
theorem Ld.app {w wr W w2 : World} {q : Nat} {st : Option (List UInt8)} {n : Nat} {v : Value} {O : List (List UInt8)} (h : Ld wr q st n) (ho : OwT wr w.heap.size v O) (hq : q < w.heap.size) (hb : Below wr.heap.size wr W) (hg : W.grownBy w2 v.ownBlock) : Ld w2 q st n := by
  have h1 := h.below hb h.lt
  refine h1.kept (hg.block q h1.lt (fun e => ?_)) hg.size
  have := (ho.lt q e.symm).1
  omega
theorem Fq.app {w wr W w2 : World} {q : Nat} {v : Value} {O : List (List UInt8)} (h : Fq w wr q) (ho : OwT wr w.heap.size v O) (hb : Below wr.heap.size wr W) (hg : W.grownBy w2 v.ownBlock) : Fq w w2 q :=
  (h.trans (Fq.of_below hb (Nat.le_refl _))).grown hg (fun j e => (ho.lt j e).1)
end Go.Proofs.Ythoilihokbakoaa
