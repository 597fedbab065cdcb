/- A line in memory; a scope with three labels one behind another. -/
import Derived.Test.YthoilihokbakoaaDoorNA
import Derived.Test.YthoilihokbakoaaDoorCWa
import Derived.Test.YthoilihokbakoaaDoorWA
namespace Go.Proofs.YthoilihokbakoaaDoor
open Go Go.RowKit
section
variable {P : Program} {a : Act} {w : World} {Q : Exit → Act → World → Prop}
/-- three labels one behind another, into whose code the run also falls -/
theorem wp_scope_three {c R1 R2 R3 : Code} (l1 l2 l3 : Nat) (J : Nat → Act → World → Prop) (μ : Nat → Act → World → Nat) (hf1 : findLabel c l1 = some (Code.skip.seq R1)) (hf2 : findLabel c l2 = some (Code.skip.seq R2)) (hf3 : findLabel c l3 = some (Code.skip.seq R3))
    (pass3 : ∀ a w M, J l3 a w → μ l3 a w ≤ M → R3.wp P (exJ (fun l' a' w' => J l' a' w' ∧ μ l' a' w' < M) Q) a w)
    (pass2 : ∀ a w M, J l2 a w → μ l2 a w ≤ M → (∀ a w, J l3 a w → μ l3 a w ≤ M → R3.wp P (exJ (fun l' a' w' => J l' a' w' ∧ μ l' a' w' < M) Q) a w) → R2.wp P (exJ (fun l' a' w' => J l' a' w' ∧ μ l' a' w' < M) Q) a w)
    (pass1 : ∀ a w M, J l1 a w → μ l1 a w ≤ M → (∀ a w, J l2 a w → μ l2 a w ≤ M → R2.wp P (exJ (fun l' a' w' => J l' a' w' ∧ μ l' a' w' < M) Q) a w) → R1.wp P (exJ (fun l' a' w' => J l' a' w' ∧ μ l' a' w' < M) Q) a w)
    (passo : ∀ l a w M, l ≠ l1 → l ≠ l2 → l ≠ l3 → J l a w → μ l a w = M → ∃ rest, findLabel c l = some rest ∧ rest.wp P (exJ (fun l' a' w' => J l' a' w' ∧ μ l' a' w' < M) Q) a w)
    (first : (∀ a w, J l1 a w → R1.wp P (exJ J Q) a w) → c.wp P (exJ J Q) a w) : (Code.scope c).wp P Q a w := by
  have p3 : ∀ M a w, J l3 a w → μ l3 a w ≤ M → R3.wp P (exJ (fun l' a' w' => J l' a' w' ∧ μ l' a' w' < M) Q) a w := fun M a w h1 h2 => pass3 a w M h1 h2
  have p2 : ∀ M a w, J l2 a w → μ l2 a w ≤ M → R2.wp P (exJ (fun l' a' w' => J l' a' w' ∧ μ l' a' w' < M) Q) a w := fun M a w h1 h2 => pass2 a w M h1 h2 (p3 M)
  have p1 : ∀ M a w, J l1 a w → μ l1 a w ≤ M → R1.wp P (exJ (fun l' a' w' => J l' a' w' ∧ μ l' a' w' < M) Q) a w := fun M a w h1 h2 => pass1 a w M h1 h2 (p2 M)
  refine wp_scope_gotos J μ (first fun a w hJ => ?_) (fun l a w M hJ hM => ?_)
  · refine wp_mono (p1 _ a w hJ (Nat.le_refl _)) (fun e a w h => ?_)
    cases e <;> first | exact h.1 | exact h
  · by_cases h1 : l = l1
    · subst h1
      exact ⟨_, hf1, wp_seq (wp_skip (p1 M a w hJ (Nat.le_of_eq hM)))⟩
    · by_cases h2 : l = l2
      · subst h2
        exact ⟨_, hf2, wp_seq (wp_skip (p2 M a w hJ (Nat.le_of_eq hM)))⟩
      · by_cases h3 : l = l3
        · subst h3
          exact ⟨_, hf3, wp_seq (wp_skip (p3 M a w hJ (Nat.le_of_eq hM)))⟩
        · exact passo l a w M h1 h2 h3 hJ hM
end
/-- bytes as numbers -/
def ib (b : List UInt8) : List Int := b.map (fun c => (c.toNat : Int))
theorem ib_len (b : List UInt8) : (ib b).length = b.length := by unfold ib; rw [List.length_map]
theorem ib_app (a b : List UInt8) : ib (a ++ b) = ib a ++ ib b := by unfold ib; rw [List.map_append]
theorem ib_at (b : List UInt8) (k : Nat) (h : k < b.length) : (ib b).getD k 0 = (b[k].toNat : Int) := by unfold ib; rw [List.getD_eq_getElem?_getD, List.getElem?_map, List.getElem?_eq_getElem h]; rfl
theorem ib_ok (b : List UInt8) : okb (ib b) := fun x hx => by
  unfold ib at hx
  obtain ⟨c, _, rfl⟩ := List.mem_map.1 hx
  have := c.toNat_lt
  omega
theorem ib_of {bs : List Int} (h : okb bs) : ∃ b, bs = ib b := by
  refine ⟨bs.map (fun x => UInt8.ofNat x.toNat), ?_⟩
  unfold ib
  rw [List.map_map]
  conv => lhs; rw [← List.map_id bs]
  apply List.map_congr_left
  intro x hx
  have := h x hx
  simp
  omega
/-- what a call leaves as it was: all blocks that were there but block q -/
structure Fq (w w' : World) (q : Nat) : Prop where
  os : w'.os = w.os
  tape : w'.tape = w.tape
  output : w'.output = w.output
  size : w.heap.size ≤ w'.heap.size
  block : ∀ k, k < w.heap.size → k ≠ q → w'.heap[k]? = w.heap[k]?
theorem Fq.refl (w : World) (q : Nat) : Fq w w q := ⟨rfl, rfl, rfl, Nat.le_refl _, fun _ _ _ => rfl⟩
theorem Fq.trans {w w1 w2 : World} {q : Nat} (h : Fq w w1 q) (k : Fq w1 w2 q) : Fq w w2 q :=
  ⟨k.os.trans h.os, k.tape.trans h.tape, k.output.trans h.output, Nat.le_trans h.size k.size, fun i hi hq => (k.block i (Nat.lt_of_lt_of_le hi h.size) hq).trans (h.block i hi hq)⟩
theorem Fq.drew {w w' : World} {q : Nat} (h : Fq w w' q) : Fq w w'.drew q := ⟨h.os, h.tape, h.output, h.size, h.block⟩
theorem Fq.cell {w w' : World} {q j : Nat} (h : Fq w w' q) (x : Value) : Fq w (w'.setCell ⟨q, j, none⟩ x) q :=
  ⟨h.os, h.tape, h.output, by simpa [World.setCell] using h.size, fun k hk hq => by rw [Below.heap_setCell _ _ _ _ hq]; exact h.block k hk hq⟩
theorem Fq.of_below {w w' : World} {q B : Nat} (h : Below B w w') (hB : w.heap.size ≤ B) : Fq w w' q := ⟨h.os, h.tape, h.output, h.size, fun k hk _ => h.block k (by omega)⟩
theorem Fq.grown {w w1 w2 : World} {q : Nat} {row : Option Nat} (h : Fq w w1 q) (hg : w1.grownBy w2 row) (hr : ∀ k, row = some k → w.heap.size ≤ k) : Fq w w2 q :=
  ⟨hg.os.trans h.os, hg.tape.trans h.tape, hg.output.trans h.output, Nat.le_trans h.size hg.size, fun k hk hq => (hg.block k (Nat.lt_of_lt_of_le hk h.size) (fun e => by have := hr k e.symm; omega)).trans (h.block k hk hq)⟩
theorem Fq.below {w w' : World} {q B : Nat} (h : Fq w w' q) (hB : B ≤ w.heap.size) (hq : B ≤ q) : Below B w w' := ⟨h.os, h.tape, h.output, h.size, fun k hk => h.block k (by omega) (by omega)⟩
/-- a line's block: whether it is within, the bytes, how many were lost -/
structure Li (w : World) (q : Nat) (wi : Bool) (cur : List UInt8) (n : Nat) : Prop where
  lt : q < w.heap.size
  fz : ∀ j, w.frozen? ⟨q, j, none⟩ = false
  c0 : w.cell? ⟨q, 0, none⟩ = some (.bool wi)
  ct : w.cell? ⟨q, 83, none⟩ = some (.int .i64 (cur.length : Int))
  lo : w.cell? ⟨q, 84, none⟩ = some (.int .i64 (n : Int))
  le : cur.length ≤ 82
  bt : ∀ j, j < 82 → ∃ x, w.cell? ⟨q, 1 + j, none⟩ = some (.int .u8 x)
  at' : ∀ j (h : j < cur.length), w.cell? ⟨q, 1 + j, none⟩ = some (.int .u8 (cur[j].toNat : Int))
theorem Li.kept {w w' : World} {q : Nat} {wi : Bool} {cur : List UInt8} {n : Nat} (h : Li w q wi cur n) (hb : w'.heap[q]? = w.heap[q]?) (hs : w.heap.size ≤ w'.heap.size) : Li w' q wi cur n := by
  have hc : ∀ j, w'.cell? ⟨q, j, none⟩ = w.cell? ⟨q, j, none⟩ := fun j => World.cell?_of_block hb
  exact ⟨Nat.lt_of_lt_of_le h.lt hs, fun j => (World.frozen?_of_block hb).trans (h.fz j), (hc 0).trans h.c0, (hc _).trans h.ct, (hc _).trans h.lo, h.le, fun j hj => by rw [hc]; exact h.bt j hj, fun j hj => (hc _).trans (h.at' j hj)⟩
theorem Li.below {w w' : World} {q B : Nat} {wi : Bool} {cur : List UInt8} {n : Nat} (h : Li w q wi cur n) (hb : Below B w w') (hB : q < B) : Li w' q wi cur n := h.kept (hb.block q hB) hb.size
theorem Li.drew {w : World} {q : Nat} {wi : Bool} {cur : List UInt8} {n : Nat} (h : Li w q wi cur n) : Li w.drew q wi cur n := h.kept rfl (Nat.le_refl _)
theorem ne_off {q i j : Nat} (h : i ≠ j) : (⟨q, i, none⟩ : Addr) ≠ ⟨q, j, none⟩ := by intro x; injection x with _ x; exact h x
theorem Li.setWi {w : World} {q : Nat} {wi : Bool} {cur : List UInt8} {n : Nat} (h : Li w q wi cur n) (b : Bool) : Li (w.setCell ⟨q, 0, none⟩ (.bool b)) q b cur n := by
  refine ⟨by simpa [World.setCell] using h.lt, fun j => by simp [h.fz j], World.cell?_setCell_same _ _ _ h.c0, ?_, ?_, h.le, fun j hj => ?_, fun j hj => ?_⟩
  · rw [World.cell?_setCell_other (h := ne_off (by decide))]; exact h.ct
  · rw [World.cell?_setCell_other (h := ne_off (by decide))]; exact h.lo
  · rw [World.cell?_setCell_other (h := ne_off (by omega))]; exact h.bt j hj
  · rw [World.cell?_setCell_other (h := ne_off (by omega))]; exact h.at' j hj
theorem Li.setLost {w : World} {q : Nat} {wi : Bool} {cur : List UInt8} {n : Nat} (h : Li w q wi cur n) (m : Nat) : Li (w.setCell ⟨q, 84, none⟩ (.int .i64 (m : Int))) q wi cur m := by
  refine ⟨by simpa [World.setCell] using h.lt, fun j => by simp [h.fz j], ?_, ?_, World.cell?_setCell_same _ _ _ h.lo, h.le, fun j hj => ?_, fun j hj => ?_⟩
  · rw [World.cell?_setCell_other (h := ne_off (by decide))]; exact h.c0
  · rw [World.cell?_setCell_other (h := ne_off (by decide))]; exact h.ct
  · rw [World.cell?_setCell_other (h := ne_off (by omega))]; exact h.bt j hj
  · have := h.le
    rw [World.cell?_setCell_other (h := ne_off (by omega))]; exact h.at' j hj
theorem Li.clear {w : World} {q : Nat} {wi : Bool} {cur : List UInt8} {n : Nat} (h : Li w q wi cur n) : Li (w.setCell ⟨q, 83, none⟩ (.int .i64 0)) q wi [] n := by
  refine ⟨by simpa [World.setCell] using h.lt, fun j => by simp [h.fz j], ?_, World.cell?_setCell_same _ _ _ h.ct, ?_, Nat.zero_le _, fun j hj => ?_, fun j hj => absurd hj (by simp)⟩
  · rw [World.cell?_setCell_other (h := ne_off (by decide))]; exact h.c0
  · rw [World.cell?_setCell_other (h := ne_off (by decide))]; exact h.lo
  · rw [World.cell?_setCell_other (h := ne_off (by omega))]; exact h.bt j hj
/-- one byte more -/
theorem Li.push {w : World} {q : Nat} {wi : Bool} {cur : List UInt8} {n : Nat} (h : Li w q wi cur n) (c : UInt8) (hl : cur.length < 82) (d : Bool) : Li (((if d then (w.setCell ⟨q, 1 + cur.length, none⟩ (.int .u8 (c.toNat : Int))).drew else w.setCell ⟨q, 1 + cur.length, none⟩ (.int .u8 (c.toNat : Int)))).setCell ⟨q, 83, none⟩ (.int .i64 ((cur.length : Int) + 1))) q wi (cur ++ [c]) n := by
  obtain ⟨x, hx⟩ := h.bt cur.length hl
  have k1 : Li (w.setCell ⟨q, 1 + cur.length, none⟩ (.int .u8 (c.toNat : Int))) q wi cur n ∧ (w.setCell ⟨q, 1 + cur.length, none⟩ (.int .u8 (c.toNat : Int))).cell? ⟨q, 1 + cur.length, none⟩ = some (.int .u8 (c.toNat : Int)) := by
    refine ⟨⟨by simpa [World.setCell] using h.lt, fun j => by simp [h.fz j], ?_, ?_, ?_, h.le, fun j hj => ?_, fun j hj => ?_⟩, World.cell?_setCell_same _ _ _ hx⟩
    · rw [World.cell?_setCell_other (h := ne_off (by omega))]; exact h.c0
    · rw [World.cell?_setCell_other (h := ne_off (by omega))]; exact h.ct
    · rw [World.cell?_setCell_other (h := ne_off (by omega))]; exact h.lo
    · by_cases e : j = cur.length
      · subst e; exact ⟨_, World.cell?_setCell_same _ _ _ hx⟩
      · rw [World.cell?_setCell_other (h := ne_off (by omega))]; exact h.bt j hj
    · rw [World.cell?_setCell_other (h := ne_off (by omega))]; exact h.at' j hj
  have key : ∀ u : World, Li u q wi cur n → u.cell? ⟨q, 1 + cur.length, none⟩ = some (.int .u8 (c.toNat : Int)) → Li (u.setCell ⟨q, 83, none⟩ (.int .i64 ((cur.length : Int) + 1))) q wi (cur ++ [c]) n := by
    intro u k kc
    refine ⟨by simpa [World.setCell] using k.lt, fun j => by simp [k.fz j], ?_, ?_, ?_, by simp; omega, fun j hj => ?_, fun j hj => ?_⟩
    · rw [World.cell?_setCell_other (h := ne_off (by decide))]; exact k.c0
    · rw [World.cell?_setCell_same _ _ _ k.ct]; simp
    · rw [World.cell?_setCell_other (h := ne_off (by decide))]; exact k.lo
    · rw [World.cell?_setCell_other (h := ne_off (by omega))]; exact k.bt j hj
    · rw [List.length_append, List.length_singleton] at hj
      rw [World.cell?_setCell_other (h := ne_off (by omega))]
      by_cases e : j < cur.length
      · rw [List.getElem_append_left e]; exact k.at' j e
      · have e2 : j = cur.length := by omega
        subst e2
        simpa using kc
  cases d
  · exact key _ k1.1 k1.2
  · exact key _ k1.1.drew k1.2
/-- a line as its calls leave it -/
def Ln (w : World) (q : Nat) (st : Option (List UInt8)) (n : Nat) : Prop := ∃ cur, Li w q st.isSome cur n ∧ ∀ c, st = some c → cur = c
/-- bytes that came in, apart from block q -/
def Rb (w : World) (q : Nat) (ao : Option Addr) (b : List UInt8) : Prop := ∀ k (h : k < b.length), ∃ ad, ao = some ad ∧ ad.block < w.heap.size ∧ ad.block ≠ q ∧ w.cell? (ad.add k) = some (.int .u8 (b[k].toNat : Int))
theorem Rb.fq {w w' : World} {q : Nat} {ao : Option Addr} {b : List UInt8} (h : Rb w q ao b) (hf : Fq w w' q) : Rb w' q ao b := fun k hk => by
  obtain ⟨ad, h1, h2, h3, h4⟩ := h k hk
  exact ⟨ad, h1, Nat.lt_of_lt_of_le h2 hf.size, h3, (World.cell?_of_block (w := w) (a := ad.add k) (by rw [add_block]; exact hf.block _ h2 h3)).trans h4⟩
end Go.Proofs.YthoilihokbakoaaDoor
