/- What an association knows and makes of packets: plain data, plain functions. -/
import Derived.Test.YtlggademcmkihaaHM
namespace Go.Proofs.Ytlggademcmkihaa
open Go Go.RowKit
/-- a packet's cells -/
structure Pk where
  leap : Int
  ver : Int
  mode : Int
  str : Int
  poll : Int
  prec : Int
  del : Int
  dis : Int
  rid : Int
  ref : Int
  org : Int
  rc : Int
  xmt : Int
  eo : Option Addr
  en : Nat
  ec : Nat
  key : Int
  nak : Bool
  mo : Option Addr
  mn : Nat
  mc : Nat
def pkC (p : Pk) : List Value := [.int .i64 p.leap, .int .i64 p.ver, .int .i64 p.mode, .int .i64 p.str, .int .i64 p.poll, .int .i64 p.prec, .int .i64 p.del, .int .i64 p.dis, .int .u32 p.rid, .int .u64 p.ref, .int .u64 p.org, .int .u64 p.rc, .int .u64 p.xmt, .slice p.eo p.en p.ec, .int .i64 p.key, .bool p.nak, .slice p.mo p.mn p.mc]
def pk0 : Pk := ⟨0, 0, 0, 0, 0, 0, 0, 0, 0, 0, 0, 0, 0, none, 0, 0, 0, false, none, 0, 0⟩
def W64 (a : Int) : Prop := -9223372036854775808 ≤ a ∧ a ≤ 9223372036854775807
def U64 (a : Int) : Prop := 0 ≤ a ∧ a < 18446744073709551616
/-- its numbers are numbers of a machine -/
structure okP (p : Pk) : Prop where
  mode : W64 p.mode
  str : W64 p.str
  prec : W64 p.prec
  del : W64 p.del
  dis : W64 p.dis
  org : U64 p.org
  xmt : U64 p.xmt
structure Td where
  leap : Int
  str : Int
  poll : Int
  prec : Int
  del : Int
  dis : Int
  rid : Int
  ref : Int
def tdL (t : Td) : List Value := [.int .i64 t.leap, .int .i64 t.str, .int .i64 t.poll, .int .i64 t.prec, .int .i64 t.del, .int .i64 t.dis, .int .u32 t.rid, .int .u64 t.ref]
def td0 : Td := ⟨0, 0, 0, 0, 0, 0, 0, 0⟩
def tdO (q : Pk) : Td := ⟨q.leap, q.str, q.poll, q.prec, q.del, q.dis, q.rid, q.ref⟩
structure Smp where
  o : Int
  d : Int
  p : Int
  a : Int
def smL (s : Smp) : List Value := [.int .i64 s.o, .int .i64 s.d, .int .i64 s.p, .int .u64 s.a]
def sm0 : Smp := ⟨0, 0, 0, 0⟩
/-- what an association knows -/
structure Ps where
  kind : Int
  key : Int
  own : Int
  taken : Bool
  last : Int
  req : Int
  heard : Bool
  ex : Int
  ea : Int
  t : Td
def psL (s : Ps) : List Value := [.int .i64 s.kind, .int .i64 s.key, .int .u32 s.own, .bool s.taken, .int .u64 s.last, .int .u64 s.req, .bool s.heard, .int .u64 s.ex, .int .u64 s.ea, .int .i64 s.t.leap, .int .i64 s.t.str, .int .i64 s.t.poll, .int .i64 s.t.prec, .int .i64 s.t.del, .int .i64 s.t.dis, .int .u32 s.t.rid, .int .u64 s.t.ref]
def ps0 (kind key own : Int) : Ps := ⟨kind, key, own, false, 0, 0, false, 0, 0, td0⟩
structure okS (s : Ps) : Prop where
  kind : W64 s.kind
  req : 0 ≤ s.req
  echo : s.heard = false → s.ex = 0 ∧ s.ea = 0
def clr (s : Ps) : Ps := { s with req := 0, heard := false, ex := 0, ea := 0, t := td0 }
/-- verdicts -/
def scB (n : Int) : Bool := decide (1 ≤ n ∧ n < 16)
def dupB (s : Ps) (q : Pk) : Bool := s.taken && (if q.mode = 5 then decide (sn q.xmt s.last ≤ 0) else decide (q.xmt = s.last))
def kissB (q : Pk) : Bool := decide (q.str = 0 ∧ q.leap = 3 ∧ q.rid ≠ 0)
def trB (s : Ps) (auth : Bool) : Bool := decide (s.key = 0) || auth
def farI (q : Pk) : Int := Fx.cl 4611686018427387904 (Fx.sh q.del (-1) + q.dis)
def hdI (q : Pk) (own : Int) : Int :=
  if q.leap = 3 ∨ scB q.str = false then 7 else if q.del < 0 ∨ q.dis < 0 ∨ sn q.xmt q.ref < 0 then 8 else if 68719476736 < farI q then 9 else if 1 < q.str ∧ q.rid = own then 10 else 0
def vdI (s : Ps) (q : Pk) (auth : Bool) : Int :=
  if ansB s.kind q.mode = false then 1 else if dupB s q = true then 2 else if q.mode ≠ 5 ∧ s.req = 0 then 3 else if q.mode ≠ 5 ∧ q.org ≠ s.req then 4 else if trB s auth = false then 5 else if kissB q = true then 6 else hdI q s.own
def opB (s : Ps) (q : Pk) (auth : Bool) : Bool := decide (q.mode = 1 ∨ q.mode = 2) && (decide (q.org = 0) && (trB s auth && !s.heard))
def lrn (s : Ps) (v : Int) (q : Pk) (rec : Int) (auth : Bool) : Ps :=
  if v = 1 ∨ v = 2 ∨ v = 5 then s
  else if v = 3 ∨ v = 4 then (if opB s q auth = true then { s with heard := true, ex := q.xmt, ea := rec } else s)
  else if v = 6 then { s with taken := true, last := q.xmt, req := 0 }
  else if v = 0 then { s with taken := true, last := q.xmt, heard := true, ex := q.xmt, ea := rec, t := tdO q, req := 0 }
  else { s with req := 0 }
def dr (age : Int) : Int := Fx.cl 4611686018427387904 (4222124650 * age / 281474976710656)
def wr (a b : Int) : Int := dr (max (sn b a) 0)
theorem dr_bd (a : Int) : -4611686018427387904 ≤ dr a ∧ dr a ≤ 4611686018427387904 := cl62 _
def prI (q : Pk) : Int := Fx.cl 4611686018427387904 (Fx.sh 4294967296 q.prec + Fx.sh 4294967296 (-20))
def smO (q : Pk) (rec : Int) : Smp := if q.mode = 5 then ⟨Fx.cl 4611686018427387904 (sn q.xmt rec + 8388608), 16777216, prI q, rec⟩ else ⟨exO q.org q.rc q.xmt rec, exD q.org q.rc q.xmt rec, Fx.cl 4611686018427387904 (prI q + wr q.org rec), rec⟩
def hrS (s : Ps) (q : Pk) (rec : Int) (auth : Bool) : Smp := if vdI s q auth = 0 then smO q rec else sm0
def hrP (s : Ps) (q : Pk) (rec : Int) (auth : Bool) : Ps := lrn s (vdI s q auth) q rec auth
/-- the system's own -/
structure Sy where
  leap : Int
  str : Int
  poll : Int
  del : Int
  dis : Int
  rid : Int
  ref : Int
  off : Int
  jit : Int
  peer : Int
  freq : Int
def syL (s : Sy) : List Value := [.int .i64 s.leap, .int .i64 s.str, .int .i64 s.poll, .int .i64 s.del, .int .i64 s.dis, .int .u32 s.rid, .int .u64 s.ref, .int .i64 s.off, .int .i64 s.jit, .int .i64 s.peer, .int .i64 s.freq]
def ow (d : Int) : Int := min (max d 0) 281474976645120
def rqB (s : Ps) (y : Sy) : Bool := !(decide (askI s.kind = 0) || (decide (askI s.kind = 5) && decide (y.leap = 3)))
def rqP (s : Ps) (y : Sy) (poll xmt : Int) : Pk := if rqB s y = true then ⟨y.leap, 4, askI s.kind, (if scB y.str = true then y.str else 0), min (max poll (-128)) 127, -20, ow y.del, ow y.dis, y.rid, y.ref, (if askI s.kind = 5 then 0 else s.ex), (if askI s.kind = 5 then 0 else s.ea), max xmt 1, none, 0, 0, 0, false, none, 0, 0⟩ else pk0
def rqS (s : Ps) (y : Sy) (xmt : Int) : Ps := if rqB s y = true ∧ askI s.kind ≠ 5 then { s with req := max xmt 1 } else s
/-- the program's, in memory -/
def Pm (w : World) (p : Nat) (s : Ps) : Prop := Bk p w (psL s).toArray 90
theorem Pm.lt {w : World} {p : Nat} {s : Ps} (h : Pm w p s) : p < w.heap.size := Bk.lt h
theorem Pm.kept {w w' : World} {p : Nat} {s : Ps} (h : Pm w p s) (hb : w'.heap[p]? = w.heap[p]?) : Pm w' p s := Bk.kept h hb
theorem Pm.frozen {w : World} {p : Nat} {s : Ps} (h : Pm w p s) (j : Nat) : w.frozen? ⟨p, j, none⟩ = false := Bk.frozen h j
theorem i64_lit {a : Int} (h : W64 a) : (Lit.int .i64 a).wf = true := by
  have e1 : IntKind.i64.min = -9223372036854775808 := by decide
  have e2 : IntKind.i64.max = 9223372036854775807 := by decide
  obtain ⟨h1, h2⟩ := h
  simp [Lit.wf, e1, e2]
  omega
theorem okS.hr {s : Ps} (h : okS s) (q : Pk) (rec : Int) (auth : Bool) : okS (hrP s q rec auth) := by
  have h1 := h.kind
  have h2 := h.req
  have h3 := h.echo
  unfold hrP lrn
  (repeat' split) <;> first | exact h | exact ⟨h1, h2, fun h => by simp at h⟩ | exact ⟨h1, by simp, h3⟩ | exact ⟨h1, by simp, fun h => by simp at h⟩
theorem okS.rq {s : Ps} (h : okS s) (y : Sy) (xmt : Int) : okS (rqS s y xmt) := by
  unfold rqS
  split
  · exact ⟨h.kind, by simp only; omega, h.echo⟩
  · exact h
theorem okS.clr {s : Ps} (h : okS s) : okS (clr s) := ⟨h.kind, by simp [Go.Proofs.Ytlggademcmkihaa.clr], fun _ => by simp [Go.Proofs.Ytlggademcmkihaa.clr]⟩
end Go.Proofs.Ytlggademcmkihaa
