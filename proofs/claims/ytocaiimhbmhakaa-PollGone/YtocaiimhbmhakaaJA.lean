/- poll: what is known of it, in numbers; the program's functions. -/
import Derived.Test.YtocaiimhbmhakaaJM
namespace Go.Proofs.Ytocaiimhbmhakaa
open Go Go.RowKit Go.Sort
/-- an association that is configured -/
structure As where
  kind : Int
  addr : Int
  key : Int
  minp : Int
  maxp : Int
  burst : Bool
  ib : Bool
  pref : Bool
  ttl : Int
  pulse : Bool
  fudge : Int
  str : Int
def asL (a : As) : List Value := [.int .i64 a.kind, .int .u32 a.addr, .int .i64 a.key, .int .i64 a.minp, .int .i64 a.maxp, .bool a.burst, .bool a.ib, .bool a.pref, .int .i64 a.ttl, .bool a.pulse, .int .i64 a.fudge, .int .i64 a.str]
/-- when one is asked next -/
structure Pl where
  least : Int
  most : Int
  burst : Bool
  ib : Bool
  exp : Int
  reach : Int
  gone : Int
  left : Int
  next : Int
def plL (s : Pl) : List Value := [.int .i64 s.least, .int .i64 s.most, .bool s.burst, .bool s.ib, .int .i64 s.exp, .int .u8 s.reach, .int .i64 s.gone, .int .i64 s.left, .int .i64 s.next]
def ck (n : Int) : Int := max 0 (min n 1073741824)
theorem ck_bd (n : Int) : 0 ≤ ck n ∧ ck n ≤ 1073741824 := by unfold ck; omega
def pw (e : Int) : Int := 2 ^ e.toNat
theorem pw_nat (e : Int) : pw e = ((2 ^ e.toNat : Nat) : Int) := by unfold pw; simp
theorem pw_bd (e : Int) (h : e ≤ 10) : 1 ≤ pw e ∧ pw e ≤ 1024 := by
  rw [pw_nat]
  have h1 : e.toNat ≤ 10 := by omega
  have h2 : 2 ^ e.toNat ≤ 2 ^ 10 := Nat.pow_le_pow_right (by omega) h1
  have h3 : 0 < 2 ^ e.toNat := Nat.pow_pos (by omega)
  omega
theorem pw_mono (a b : Int) (h : a ≤ b) : pw a ≤ pw b := by
  rw [pw_nat, pw_nat]
  have h2 : 2 ^ a.toNat ≤ 2 ^ b.toNat := Nat.pow_le_pow_right (by omega) (by omega)
  omega
theorem w64 (n : Int) (h0 : -9223372036854775808 ≤ n) (h1 : n < 9223372036854775808) : wrap64 n = n := by
  first | exact wrap64_id h0 h1 | (unfold wrap64; omega) | (simp [wrap64]; omega)
structure OkL (s : Pl) : Prop where
  lo : 3 ≤ s.least
  le : s.least ≤ s.exp
  em : s.exp ≤ s.most
  hi : s.most ≤ 10
  r0 : 0 ≤ s.reach
  r1 : s.reach < 256
  g0 : 0 ≤ s.gone
  g1 : s.gone ≤ 100
  l0 : 0 ≤ s.left
  l1 : s.left ≤ 5
def waitS (s : Pl) (now : Int) : Pl := { s with next := ck now + if 0 < s.left then 2 else pw s.exp }
def stR (s : Pl) : Int := s.reach * 2 % 256
def stG (s : Pl) : Int := if stR s = 0 then min (s.gone + 1) 100 else s.gone
def stE (s : Pl) (sys : Int) : Int := min (min (max sys s.least) s.most + max (stG s - 12) 0) s.most
def stL (s : Pl) : Int := if (if stR s = 0 then s.ib else s.burst) = true ∧ stG s ≤ 12 then 5 else 0
def sentS (s : Pl) (now sys : Int) : Pl := if s.left = 0 then waitS ⟨s.least, s.most, s.burst, s.ib, stE s sys, stR s, stG s, stL s, s.next⟩ now else waitS { s with left := s.left - 1 } now
def heardS (s : Pl) : Pl := { s with reach := s.reach + (1 - s.reach % 2), gone := 0 }
def kiE (s : Pl) (x : Int) : Int := max s.exp (max (min x s.most) s.least)
def kissS (s : Pl) (now x : Int) : Pl := waitS { s with exp := kiE s x, least := kiE s x, left := 0 } now
def newS (a : As) (now draw : Int) : Pl := ⟨a.minp, a.maxp, a.burst, a.ib, a.minp, 0, 0, 0, ck now + max draw 0 % pw a.minp⟩
def okA (a : As) : Prop := 3 ≤ a.minp ∧ a.maxp ≤ 10 ∧ a.minp ≤ a.maxp
theorem OkL.wait {s : Pl} (h : OkL s) (now : Int) : OkL (waitS s now) := ⟨h.lo, h.le, h.em, h.hi, h.r0, h.r1, h.g0, h.g1, h.l0, h.l1⟩
theorem OkL.new {a : As} (h : okA a) (now draw : Int) : OkL (newS a now draw) := by
  obtain ⟨h1, h2, h3⟩ := h
  constructor <;> simp only [newS] <;> omega
theorem OkL.heard {s : Pl} (h : OkL s) : OkL (heardS s) := by
  obtain ⟨h1, h2, h3, h4, h5, h6, h7, h8, h9, h10⟩ := h
  constructor <;> simp only [heardS] <;> omega
theorem OkL.kiss {s : Pl} (h : OkL s) (now x : Int) : OkL (kissS s now x) := by
  obtain ⟨h1, h2, h3, h4, h5, h6, h7, h8, h9, h10⟩ := h
  refine OkL.wait ?_ now
  constructor <;> simp only [kiE] <;> omega
theorem stR_bd (s : Pl) : 0 ≤ stR s ∧ stR s < 256 := by unfold stR; omega
theorem stG_bd {s : Pl} (h : OkL s) : 0 ≤ stG s ∧ stG s ≤ 100 := by
  have := h.g0; have := h.g1
  unfold stG; split <;> omega
theorem stL_bd (s : Pl) : 0 ≤ stL s ∧ stL s ≤ 5 := by unfold stL; split <;> omega
theorem OkL.sent {s : Pl} (h : OkL s) (now sys : Int) : OkL (sentS s now sys) := by
  unfold sentS
  split
  · refine OkL.wait ?_ now
    have := stG_bd h; have := stL_bd s; have := stR_bd s
    obtain ⟨h1, h2, h3, h4, h5, h6, h7, h8, h9, h10⟩ := h
    constructor <;> simp only [stE] <;> omega
  · refine OkL.wait ?_ now
    obtain ⟨h1, h2, h3, h4, h5, h6, h7, h8, h9, h10⟩ := h
    constructor <;> simp only <;> omega
/-- a poll of the program's in block p -/
def Po (w : World) (p : Nat) (s : Pl) : Prop := Bk p w (plL s).toArray 52
theorem run_mx (a b : Int) (u : World) : (Builtin.max_ #[3, 3] 3 #[.int .i64 a, .int .i64 b]).run Try.prog u = .ok (.int .i64 (max a b)) u := by
  simp [go_sem]; split <;> omega
theorem run_mn (a b : Int) (u : World) : (Builtin.min_ #[3, 3] 3 #[.int .i64 a, .int .i64 b]).run Try.prog u = .ok (.int .i64 (min a b)) u := by
  simp [go_sem]; split <;> omega
theorem run_mx3 (a b c : Int) (u : World) : (Builtin.max_ #[3, 3, 3] 3 #[.int .i64 a, .int .i64 b, .int .i64 c]).run Try.prog u = .ok (.int .i64 (max a (max b c))) u := by
  simp [go_sem]; (repeat' split) <;> omega
theorem counted_any (n : Int) (w : World) : Calls Try.prog 21 #[.int .i64 n] w fun e w' => e = .returned (.int .i64 (ck n)) ∧ w' = w := by
  have mx := run_mx
  have mn := run_mn
  have e : ck n = min (max n 0) 1073741824 := by unfold ck; omega
  rw [e]
  go_enter Try.func21, Try.ntmps21
  go_wp2
  go_ret
  exact ⟨rfl, rfl⟩
theorem due_any (p : Nat) (s : Pl) (n : Int) (w : World) (h : Po w p s) : Calls Try.prog 11 #[.pointer (some ⟨p, 0, none⟩), .int .i64 n] w fun e w' => e = .returned (.bool (decide (s.next ≤ ck n))) ∧ ∃ m, w' = w.drewN m := by
  have c8 : w.cell? ⟨p, 8, none⟩ = some (.int .i64 s.next) := h.cell 8
  clear h
  go_enter Try.func11, Try.ntmps11
  go_wp2
  go_quiet ((go_at_call 21; exact Calls.quiet_of_same (counted_any _ _)))
  go_wp2
  go_ret
  exact ⟨rfl, _, rfl⟩
theorem next_any (p : Nat) (s : Pl) (w : World) (h : Po w p s) : Calls Try.prog 13 #[.pointer (some ⟨p, 0, none⟩)] w fun e w' => e = .returned (.int .i64 s.next) ∧ w' = w := by
  have c8 : w.cell? ⟨p, 8, none⟩ = some (.int .i64 s.next) := h.cell 8
  clear h
  go_enter Try.func13, Try.ntmps13
  go_wp2
  go_ret
  exact ⟨rfl, rfl⟩
theorem exponent_any (p : Nat) (s : Pl) (w : World) (h : Po w p s) : Calls Try.prog 15 #[.pointer (some ⟨p, 0, none⟩)] w fun e w' => e = .returned (.int .i64 s.exp) ∧ w' = w := by
  have c8 : w.cell? ⟨p, 4, none⟩ = some (.int .i64 s.exp) := h.cell 4
  clear h
  go_enter Try.func15, Try.ntmps15
  go_wp2
  go_ret
  exact ⟨rfl, rfl⟩
theorem reach_any (p : Nat) (s : Pl) (w : World) (h : Po w p s) (hs : OkL s) : Calls Try.prog 19 #[.pointer (some ⟨p, 0, none⟩)] w fun e w' => e = .returned (.int .i64 s.reach) ∧ w' = w := by
  have c8 : w.cell? ⟨p, 5, none⟩ = some (.int .u8 s.reach) := h.cell 5
  have r0 := hs.r0
  have r1 := hs.r1
  clear h hs
  go_enter Try.func19, Try.ntmps19
  go_wp2
  go_ret
  exact ⟨rfl, rfl⟩
theorem gone_any (p : Nat) (s : Pl) (w : World) (h : Po w p s) : Calls Try.prog 20 #[.pointer (some ⟨p, 0, none⟩)] w fun e w' => e = .returned (.int .i64 s.gone) ∧ w' = w := by
  have c8 : w.cell? ⟨p, 6, none⟩ = some (.int .i64 s.gone) := h.cell 6
  clear h
  go_enter Try.func20, Try.ntmps20
  go_wp2
  go_ret
  exact ⟨rfl, rfl⟩
end Go.Proofs.Ytocaiimhbmhakaa
