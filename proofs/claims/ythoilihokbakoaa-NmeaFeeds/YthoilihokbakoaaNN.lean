/- The law NmeaPieces, walked. -/
import Derived.Test.YthoilihokbakoaaNM
import Derived.Test.YthoilihokbakoaaNK
namespace Go.Proofs.Ythoilihokbakoaa
open Go Go.RowKit
/-- two lines, all bytes so far, all sentences so far -/
structure PI (l : List (List UInt8)) (w wr : World) (p q B k : Nat) (va vo : Value) : Prop where
  bl : Below w.heap.size w wr
  lp : Ln wr p (Sk l k).st (Sk l k).lost
  lq : Ln wr q none 0
  al : Own wr B va (ib (l.take k).flatten)
  ou : OwT wr B vo (Sk l k).out
  p0 : w.heap.size ≤ p
  q0 : w.heap.size ≤ q
  pq : p ≠ q
  pB : p < B
  qB : q < B
  sB : B ≤ wr.heap.size
theorem kept_app {W w2 : World} {p B : Nat} {v : Value} {st : Option (List UInt8)} {n : Nat} (h : Ln W p st n) (hp : p < B) (hv : ∀ k, v.ownBlock = some k → B ≤ k) (hg : W.grownBy w2 v.ownBlock) : Ln w2 p st n :=
  h.kept (hg.block p h.lt (fun e => by have := hv p e.symm; omega)) hg.size
theorem Own.keptG {W w2 : World} {B : Nat} {v va : Value} {bs : List Int} (h : Own W B va bs) (hg : W.grownBy w2 v.ownBlock) (hne : va.ownBlock = none ∨ va.ownBlock ≠ v.ownBlock) : Own w2 B va bs := World.ownsRow.kept h hg hne
theorem OwT.keptG {W w2 : World} {B : Nat} {v va : Value} {ts : List (List UInt8)} (h : OwT W B va ts) (hg : W.grownBy w2 v.ownBlock) (hne : va.ownBlock = none ∨ va.ownBlock ≠ v.ownBlock) : OwT w2 B va ts := World.ownsRow.kept h hg hne
theorem Own.fq {w w' : World} {B q : Nat} {v : Value} {bs : List Int} (h : Own w B v bs) (hf : Fq w w' q) (hq : q < B) : Own w' B v bs :=
  World.ownsRow.kept (row := some q) h ⟨hf.os, hf.tape, hf.output, hf.size, fun j hj hq => hf.block j hj (fun e => hq (by rw [e]))⟩ (by
    right; intro e; have := (World.ownsRow.lt h q e).1; omega)
theorem OwT.fq {w w' : World} {B q : Nat} {v : Value} {ts : List (List UInt8)} (h : OwT w B v ts) (hf : Fq w w' q) (hq : q < B) : OwT w' B v ts :=
  World.ownsRow.kept (row := some q) h ⟨hf.os, hf.tape, hf.output, hf.size, fun j hj hq => hf.block j hj (fun e => hq (by rw [e]))⟩ (by
    right; intro e; have := (World.ownsRow.lt h q e).1; omega)
/-- a row of bytes and a row of texts are not one -/
theorem row_ne {W : World} {B C : Nat} {va vo : Value} {bs : List Int} {ts : List (List UInt8)} (h1 : Own W B va bs) (h2 : OwT W C vo ts) : va.ownBlock = none ∨ va.ownBlock ≠ vo.ownBlock := by
  rcases h1.2 with ⟨e1, _⟩ | ⟨g, cap, cur, e1, _, e3, _⟩
  · left; rw [e1]; rfl
  · rcases h2.2 with ⟨f1, _⟩ | ⟨g2, cap2, cur2, f1, _, f3, _⟩
    · right; rw [e1, f1]; simp [Value.ownBlock]
    · right
      rw [e1, f1]
      simp only [Value.ownBlock]
      intro e
      injection e with e
      have e' : g = g2 := e
      subst e'
      rw [e3] at f3
      injection f3 with f3
      injection f3 with _ f3 _
      exact absurd f3 (by decide)
theorem row_ne' {W : World} {B C : Nat} {va vo : Value} {bs : List Int} {ts : List (List UInt8)} (h1 : Own W B va bs) (h2 : OwT W C vo ts) : vo.ownBlock = none ∨ vo.ownBlock ≠ va.ownBlock := by
  rcases row_ne h1 h2 with h | h
  · rw [h]
    cases hv : vo.ownBlock with
    | none => left; rfl
    | some k => right; simp
  · right; exact fun e => h e.symm
theorem Rb.below {w w' : World} {q B : Nat} {ao : Option Addr} {b : List UInt8} (h : Rb w q ao b) (hb : Below B w w') (hB : w.heap.size ≤ B) : Rb w' q ao b := fun k hk => by
  obtain ⟨ad, h1, h2, h3, h4⟩ := h k hk
  exact ⟨ad, h1, Nat.lt_of_lt_of_le h2 hb.size, h3, (hb.cell (p := ad.add k) (by rw [add_block]; omega)).trans h4⟩
theorem Ln.fq {w w' : World} {p q : Nat} {st : Option (List UInt8)} {n : Nat} (h : Ln w p st n) (hf : Fq w w' q) (hne : p ≠ q) : Ln w' p st n := h.kept (hf.block p h.lt hne) hf.size
theorem OwT.belowH {w w' : World} {B : Nat} {v : Value} {ts : List (List UInt8)} (h : OwT w B v ts) (hb : Below w.heap.size w w') : OwT w' B v ts := h.below hb (Nat.le_refl _)
theorem Fq.belowN {w W w' : World} {d : Nat} (hd : d = w.heap.size) (hb : Below w.heap.size w W) (hf : Fq W w' d) : Below w.heap.size w w' := hb.trans (hf.below hb.size (by omega))
/-- behind the bytes' append -/
theorem PI.app {l : List (List UInt8)} {w wr w3 : World} {p q B k : Nat} {va vo : Value} (h : PI l w wr p q B k va vo) (hg : wr.grownBy w3 va.ownBlock) : Below w.heap.size wr w3 ∧ Ln w3 p (Sk l k).st (Sk l k).lost ∧ Ln w3 q none 0 ∧ OwT w3 B vo (Sk l k).out := by
  have hv : ∀ k, va.ownBlock = some k → B ≤ k := fun k e => h.al.lt' k e
  have hp0 := h.p0
  have hpB := h.pB
  exact ⟨(Below.refl _ _).grown hg h.bl.size (fun k e => by have := hv k e; omega), kept_app h.lp h.pB hv hg, kept_app h.lq h.qB hv hg, h.ou.keptG hg (row_ne' h.al h.ou)⟩
/-- one piece more -/
theorem PI.next {l : List (List UInt8)} {w wr w3 w4 w5 : World} {p q B k : Nat} {va vo va2 vo2 : Value} {b : List UInt8} (h : PI l w wr p q B k va vo) (hb : l[k]? = some b) (hg : wr.grownBy w3 va.ownBlock) (ha : Own w3 B va2 (ib (l.take k).flatten ++ ib b)) (f4 : Fq w3 w4 p) (l4 : Ln w4 p (fdL ⟨(Sk l k).st, [], (Sk l k).lost⟩ b).st (fdL ⟨(Sk l k).st, [], (Sk l k).lost⟩ b).lost) (hg5 : w4.grownBy w5 vo.ownBlock) (ho : OwT w5 B vo2 ((Sk l k).out ++ (fdL ⟨(Sk l k).st, [], (Sk l k).lost⟩ b).out)) : PI l w w5 p q B (k + 1) va2 vo2 := by
  obtain ⟨b3, n3, m3, o3⟩ := h.app hg
  have hs3 := Nat.le_trans h.sB hg.size
  have b4 : Below w.heap.size w3 w4 := f4.below (Nat.le_trans h.bl.size b3.size) h.p0
  have o4 := o3.fq f4 h.pB
  have a4 := ha.fq f4 h.pB
  have hv : ∀ k, vo.ownBlock = some k → B ≤ k := fun k e => (World.ownsRow.lt o4 k e).1
  have hp0 := h.p0
  have hpB := h.pB
  have hsk := Sk_piece l k b hb
  refine ⟨(h.bl.trans (b3.trans b4)).grown hg5 (Nat.le_trans (Nat.le_trans h.bl.size b3.size) b4.size) (fun k e => by have := hv k e; omega), ?_, ?_, ?_, ?_, h.p0, h.q0, h.pq, h.pB, h.qB, Nat.le_trans (Nat.le_trans hs3 f4.size) hg5.size⟩
  · rw [hsk]; exact kept_app l4 h.pB hv hg5
  · exact kept_app (m3.fq f4 (fun e => h.pq e.symm)) h.qB hv hg5
  · rw [flat_take l k b hb, ib_app]; exact a4.keptG hg5 (row_ne a4 o4)
  · rw [hsk]; exact ho
end Go.Proofs.Ythoilihokbakoaa
