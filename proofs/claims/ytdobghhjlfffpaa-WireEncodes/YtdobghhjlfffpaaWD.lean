/- What flags, controlFits and CheckControl of package wire return. -/
import Derived.Test.YtdobghhjlfffpaaWC
import Derived.Test.YtdobghhjlfffpaaWBit
import Derived.Deep.QuietTactic
import Derived.BigQuiet
namespace Go.Proofs.Ytdobghhjlfffpaa
open Go.RowKit
theorem below_drewN {B : Nat} {a w : World} (h : Below B a w) (n : Nat) : Below B a (w.drewN n) := by
  induction n with
  | zero => exact h
  | succ n ih => exact ih.drew
/-- what was laid in a new block is there behind a callee -/
theorem box_cell {w w1 : World} {cs : Array Value} {T : TypeId} {C : Nat} (hb : Below C (w.alloc (.cells cs T)) w1) (hC : w.heap.size < C) (j : Nat) : w1.cell? ⟨w.heap.size, j, none⟩ = cs[j]? := by
  rw [hb.cell (p := ⟨w.heap.size, j, none⟩) hC, World.cell?_alloc_new]
theorem undrew {C : Nat} {v v' : World} (h : Below C v.drew v') : Below C v v' := ⟨h.os, h.tape, h.output, h.size, h.block⟩
/-- a block's cells -/
structure Ck (p : Nat) (v : World) (cs : Array Value) : Prop where
  lt : p < v.heap.size
  at_ : ∀ j, v.cell? ⟨p, j, none⟩ = cs[j]?
theorem Ck.below {p C : Nat} {v v' : World} {cs : Array Value} (h : Ck p v cs) (hb : Below C v v') (hC : p < C) : Ck p v' cs :=
  ⟨Nat.lt_of_lt_of_le h.lt hb.size, fun j => by rw [hb.cell (p := ⟨p, j, none⟩) hC]; exact h.at_ j⟩
theorem Ck.drew {p : Nat} {v : World} {cs : Array Value} (h : Ck p v cs) : Ck p v.drew cs := ⟨h.lt, h.at_⟩
theorem Ck.new (w : World) (cs : Array Value) (T : TypeId) : Ck w.heap.size (w.alloc (.cells cs T)) cs := ⟨by simp, fun j => World.cell?_alloc_new _ _ _ _⟩
theorem Ck.c12 {p : Nat} {v : World} {a0 a1 a2 a3 a4 a5 a6 a7 a8 a9 a10 a11 : Value} (h : Ck p v #[a0, a1, a2, a3, a4, a5, a6, a7, a8, a9, a10, a11]) :
    v.cell? ⟨p, 0, none⟩ = some a0 ∧ v.cell? ⟨p, 1, none⟩ = some a1 ∧ v.cell? ⟨p, 2, none⟩ = some a2 ∧ v.cell? ⟨p, 3, none⟩ = some a3 ∧ v.cell? ⟨p, 4, none⟩ = some a4 ∧ v.cell? ⟨p, 5, none⟩ = some a5 ∧ v.cell? ⟨p, 6, none⟩ = some a6 ∧ v.cell? ⟨p, 7, none⟩ = some a7 ∧ v.cell? ⟨p, 8, none⟩ = some a8 ∧ v.cell? ⟨p, 9, none⟩ = some a9 ∧ v.cell? ⟨p, 10, none⟩ = some a10 ∧ v.cell? ⟨p, 11, none⟩ = some a11 :=
  ⟨h.at_ 0, h.at_ 1, h.at_ 2, h.at_ 3, h.at_ 4, h.at_ 5, h.at_ 6, h.at_ 7, h.at_ 8, h.at_ 9, h.at_ 10, h.at_ 11⟩
def b01 (b : Bool) : Int := if b then 1 else 0
/-- the bits above Op, in units of 32 -/
def flg (r e m : Bool) : Int := 4 * b01 r + 2 * b01 e + b01 m
theorem flg_bd (r e m : Bool) : 0 ≤ flg r e m ∧ flg r e m < 8 := by cases r <;> cases e <;> cases m <;> decide
/-- a packet of control as a value -/
def ctV (ver : Int) (r e m : Bool) (op seq sta ass off : Int) (dv : Value) (key : Int) (mv : Value) : Value :=
  .agg #[.int .i64 ver, .bool r, .bool e, .bool m, .int .i64 op, .int .i64 seq, .int .i64 sta, .int .i64 ass, .int .i64 off, dv, .int .i64 key, mv]
/-- may the numbers be? -/
def cfB (ver op seq sta ass off : Int) : Bool := wiB seq 0 65535 && wiB sta 0 65535 && wiB ass 0 65535 && wiB off 0 65535 && wiB ver 1 4 && wiB op 0 31
/-- what CheckControl answers -/
def ccE (ver op seq sta ass off key : Int) (dn mn : Nat) : Int := if (cfB ver op seq sta ass off && dfB key mn) = true then (if 512 < 12 + fil dn + dsz key mn then 31 else 0) else 32
end Go.Proofs.Ytdobghhjlfffpaa
