/- Kisses: Death, IsDeath of both. -/
import Derived.Test.YtmgphfdieekpdaaRM
import Derived.Test.YtmgphfdieekpdaaGL
import Derived.Deep.RegionWith
import Derived.Deep.RegionHeld3
import Derived.Deep.RegionLaw
namespace Go.Proofs.Ytmgphfdieekpdaa
open Go Go.RowKit
/-- a packet's cells -/
structure Pk where
  leap : Int
  ver : Int
  mode : Int
  str : Int
  poll : Int
  prec : Int
  del : Int
  dis : Int
  rid : Int
  t0 : Int
  t1 : Int
  t2 : Int
  t3 : Int
  eo : Option Addr
  en : Nat
  ec : Nat
  key : Int
  nak : Bool
  mo : Option Addr
  mn : Nat
  mc : Nat
def pkC (p : Pk) : List Value := [.int .i64 p.leap, .int .i64 p.ver, .int .i64 p.mode, .int .i64 p.str, .int .i64 p.poll, .int .i64 p.prec, .int .i64 p.del, .int .i64 p.dis, .int .u32 p.rid, .int .u64 p.t0, .int .u64 p.t1, .int .u64 p.t2, .int .u64 p.t3, .slice p.eo p.en p.ec, .int .i64 p.key, .bool p.nak, .slice p.mo p.mn p.mc]
def amI (m : Int) : Int := if m = 3 then 4 else if m = 1 then 2 else m
def pollI (a b : Int) : Int := max 3 (min 10 (max a b))
/-- the answer that tells to be quiet -/
def dtP (q : Pk) (code poll : Int) : Pk := ⟨3, q.ver, amI q.mode, 0, pollI q.poll poll, -20, 0, 0, code, 0, q.t3, q.t3, q.t3, none, 0, 0, 0, false, none, 0, 0⟩
def idB (p : Pk) : Bool := decide (p.str = 0 ∧ p.leap = 3 ∧ p.rid ≠ 0)
theorem alloc_at (w : World) (o : Obj) : (w.alloc o).heap[w.heap.size]? = some o := by
  show (w.heap.push o)[w.heap.size]? = some o
  simp
theorem size_alloc1 (w : World) (o : Obj) : (w.alloc o).heap.size = w.heap.size + 1 := by simp
theorem below_row {B g : Nat} {w0 w : World} (hb : Below B w0 w) (hBg : B ≤ g) (cs : Array Value) : Below B w0 (w.setRow g cs) :=
  hb.trans ⟨rfl, rfl, rfl, by simp [World.setRow], fun k hk => setRow_other w g k cs (by omega)⟩
theorem below_dr {B : Nat} {a w : World} (h : Below B a w) (n : Nat) : Below B a (w.drewN n) := ⟨h.os, h.tape, h.output, h.size, h.block⟩
theorem pollF (a b : Int) : (if 10 < if (if a < b then b else a) < 3 then 3 else if a < b then b else a then 10 else if (if a < b then b else a) < 3 then 3 else if a < b then b else a) = min (max (max a b) 3) 10 := by
  split <;> split <;> omega
theorem wpOp_st {ops : Array Oper} {Q : Exit → Act → World → Prop} {i : Nat} {K : Act → World → Prop} {a : Act} {w : World} {g : Nat} {T : TypeId} (o : Oper) (ho : ops[i]? = some o) (hg : o.guard = none) (x y : Operand) (hop : o.op = .store T x y) (cells : Array Value)
    (hx : a.eval x = .pointer (some ⟨g, 0, none⟩)) (hy : a.eval y = .agg cells) (old : Array Value) (hB : w.heap[g]? = some (.cells old T (0, 0))) (hs : (Try.prog.info? T).map (·.size) = some cells.size) (hold : old.size = cells.size) (h1 : cells.all (·.oneCell') = true)
    (h : K (a.put o.dst undef) (w.setRow g cells)) : wpOp Try.prog ops Q i K a w := by
  unfold wpOp
  rw [ho]
  have hw : Region.wanted o (yielded ops a.tmps) = true := by simp [Region.wanted, hg]
  simp only [hw, if_true]
  exact .inl (wp_store_row _ x y hop g cells hx hy _ old hB hs hold h1 h)
end Go.Proofs.Ytmgphfdieekpdaa
