/- loop: what is known of it, in numbers; the program's functions that read. -/
import Derived.Test.YtbagfnafkpbanaaGB
import Derived.Test.YtbagfnafkpbanaaBigL
import Derived.Test.YtbagfnafkpbanaaBigK
import Derived.Test.YtbagfnafkpbanaaShift
namespace Go.Proofs.Ytbagfnafkpbanaa
open Go Go.RowKit Go.Sort
set_option linter.unusedVariables false
/-- a loop -/
structure Lp where
  most : Int
  panics : Int
  stepout : Int
  st : Int
  rate : Int
  left : Int
  base : Int
  wn : Int
  exp : Int
  tally : Int
def lpL (s : Lp) : List Value := [.int .i64 s.most, .int .i64 s.panics, .int .i64 s.stepout, .int .i64 s.st, .int .i64 s.rate, .int .i64 s.left, .int .i64 s.base, .int .i64 s.wn, .int .i64 s.exp, .int .i64 s.tally]
def ck (n : Int) : Int := max 0 (min n 1073741824)
theorem ck_bd (n : Int) : 0 ≤ ck n ∧ ck n ≤ 1073741824 := by unfold ck; omega
def pw (e : Int) : Int := 2 ^ e.toNat
theorem pw_nat (e : Int) : pw e = ((2 ^ e.toNat : Nat) : Int) := by unfold pw; simp
theorem pw_bd (e : Int) (h : e ≤ 10) : 1 ≤ pw e ∧ pw e ≤ 1024 := by
  rw [pw_nat]
  have h1 : e.toNat ≤ 10 := by omega
  have h2 : 2 ^ e.toNat ≤ 2 ^ 10 := Nat.pow_le_pow_right (by omega) h1
  have h3 : 0 < 2 ^ e.toNat := Nat.pow_pos (by omega)
  omega
theorem w64i (n : Int) (h0 : -9223372036854775808 ≤ n) (h1 : n < 9223372036854775808) : wrap64 n = n := by
  first | exact wrap64_id h0 h1 | (unfold wrap64; omega) | (simp [wrap64]; omega)
/-- a span that may be; a rate that may be -/
def sv (a : Int) : Int := Fx.cl 4611686018427387904 a
def cf (a : Int) : Int := Fx.cl 140737488355 a
theorem sv_bd (a : Int) : -4611686018427387904 ≤ sv a ∧ sv a ≤ 4611686018427387904 := Fx.cl_bd (by decide) a
theorem cf_bd (a : Int) : -140737488355 ≤ cf a ∧ cf a ≤ 140737488355 := Fx.cl_bd (by decide) a
theorem sv_in {a : Int} (h0 : -4611686018427387904 ≤ a) (h1 : a ≤ 4611686018427387904) : sv a = a := Fx.cl_in h0 h1
def szS (o : Int) : Int := sv (o.natAbs : Int)
def rtF (a s : Int) : Int := if s ≤ 0 then 0 else cf (a * 281474976710656 / s)
def scF (n : Int) : Int := sv (4294967296 * n)
theorem rt_bd (a s : Int) : -140737488355 ≤ rtF a s ∧ rtF a s ≤ 140737488355 := by
  unfold rtF; split
  · omega
  · exact cf_bd _
def turnS (s : Lp) (x : Int) : Lp := { s with rate := cf (s.rate + x) }
def meaX (s : Lp) (o d : Int) : Int := rtF (sv (o - s.base)) (scF (max d 1))
def meaS (s : Lp) (o d : Int) : Lp := turnS s (meaX s o d)
def adjX (s : Lp) (o d : Int) : Int := if 2048 < max d 1 then rtF (sv (o - s.base)) (scF (8 * max d 1)) else cf (sv (o * (min (max d 1) (pw s.exp) * 256) / (pw s.exp * pw s.exp)))
def adjS (s : Lp) (o d : Int) : Lp := turnS s (adjX s o d)
def tlI (s : Lp) (b : Bool) : Int := if b = true then s.tally + s.exp else s.tally - 2 * s.exp
def wgE (s : Lp) (b : Bool) : Int := if 30 < tlI s b then min (s.exp + 1) 10 else if tlI s b < -30 then max (s.exp - 1) 3 else s.exp
def wgT (s : Lp) (b : Bool) : Int := if 30 < tlI s b ∨ tlI s b < -30 then 0 else tlI s b
def wgS (s : Lp) (b : Bool) : Lp := { s with exp := wgE s b, tally := wgT s b }
def tkS (s : Lp) (o n : Int) : Lp := { s with base := o, wn := n }
def folS (s : Lp) (o j n : Int) : Lp := wgS { s with left := o, base := o, wn := n, st := 4 } (decide (szS o < Fx.sh j 2))
def resS (s : Lp) (n : Int) : Lp := ⟨s.most, s.panics, s.stepout, if s.st = 0 then 3 else 4, s.rate, 0, 0, n, 3, 0⟩
def sinS (s : Lp) (n : Int) : Int := max (n - s.wn) 0
/-- what an offset does, and what is told -/
def updS (s : Lp) (O j N : Int) : Lp × Int × Int :=
  if s.panics < szS O then (s, 3, 0)
  else if s.most < szS O then
    (if s.st = 4 then ({ s with st := 2, wn := N }, 0, 0)
     else if s.st = 2 then (if sinS s N < s.stepout then (s, 0, 0) else (resS s N, 2, O))
     else if s.st = 3 then (if sinS s N < s.stepout then (s, 0, 0) else (resS (meaS s O (sinS s N)) N, 2, O))
     else (resS s N, 2, O))
  else
    (if s.st = 0 then ({ s with st := 3, base := O, wn := N }, 0, 0)
     else if s.st = 3 then (if sinS s N < s.stepout then (s, 0, 0) else (folS (meaS s O (sinS s N)) O j N, 1, 0))
     else if s.st = 1 then (folS s O j N, 1, 0)
     else (folS (adjS s O (sinS s N)) O j N, 1, 0))
def upd (s : Lp) (o j n : Int) : Lp × Int × Int := updS s (sv o) j (ck n)
def tkX (s : Lp) : Int := Fx.sh s.left (-(s.exp + 2))
def ticS (s : Lp) : Lp := { s with left := s.left - tkX s }
structure OkL (s : Lp) : Prop where
  m0 : 1 ≤ s.most
  m1 : s.most ≤ 4611686018427387904
  p0 : 1 ≤ s.panics
  p1 : s.panics ≤ 4611686018427387904
  o0 : 0 ≤ s.stepout
  o1 : s.stepout ≤ 1048576
  s0 : 0 ≤ s.st
  s1 : s.st ≤ 4
  r0 : -140737488355 ≤ s.rate
  r1 : s.rate ≤ 140737488355
  l0 : -4611686018427387904 ≤ s.left
  l1 : s.left ≤ 4611686018427387904
  b0 : -4611686018427387904 ≤ s.base
  b1 : s.base ≤ 4611686018427387904
  w0 : 0 ≤ s.wn
  w1 : s.wn ≤ 1073741824
  e0 : 3 ≤ s.exp
  e1 : s.exp ≤ 10
  t0 : -30 ≤ s.tally
  t1 : s.tally ≤ 30
theorem OkL.turn {s : Lp} (h : OkL s) (x : Int) : OkL (turnS s x) := ⟨h.m0, h.m1, h.p0, h.p1, h.o0, h.o1, h.s0, h.s1, (cf_bd _).1, (cf_bd _).2, h.l0, h.l1, h.b0, h.b1, h.w0, h.w1, h.e0, h.e1, h.t0, h.t1⟩
theorem OkL.wg {s : Lp} (h : OkL s) (b : Bool) : OkL (wgS s b) := by
  have e0 := h.e0; have e1 := h.e1; have t0 := h.t0; have t1 := h.t1
  refine ⟨h.m0, h.m1, h.p0, h.p1, h.o0, h.o1, h.s0, h.s1, h.r0, h.r1, h.l0, h.l1, h.b0, h.b1, h.w0, h.w1, ?_, ?_, ?_, ?_⟩ <;> simp only [wgS, wgE, wgT] <;> (repeat' split) <;> omega
theorem OkL.res {s : Lp} (h : OkL s) (n : Int) (hn : 0 ≤ n ∧ n ≤ 1073741824) : OkL (resS s n) := by
  obtain ⟨a1, a2, a3, a4, a5, a6, a7, a8, a9, a10, a11, a12, a13, a14, a15, a16, a17, a18, a19, a20⟩ := h
  constructor <;> simp only [resS] <;> (try split) <;> omega
theorem OkL.fol0 {s : Lp} (h : OkL s) (o n : Int) (ho : -4611686018427387904 ≤ o ∧ o ≤ 4611686018427387904) (hn : 0 ≤ n ∧ n ≤ 1073741824) : OkL { s with left := o, base := o, wn := n, st := 4 } := by
  obtain ⟨a1, a2, a3, a4, a5, a6, a7, a8, a9, a10, a11, a12, a13, a14, a15, a16, a17, a18, a19, a20⟩ := h
  constructor <;> simp only <;> omega
theorem OkL.fol {s : Lp} (h : OkL s) (o j n : Int) (ho : -4611686018427387904 ≤ o ∧ o ≤ 4611686018427387904) (hn : 0 ≤ n ∧ n ≤ 1073741824) : OkL (folS s o j n) := (h.fol0 o n ho hn).wg _
theorem OkL.updS {s : Lp} (h : OkL s) (O j N : Int) (ho : -4611686018427387904 ≤ O ∧ O ≤ 4611686018427387904) (hn : 0 ≤ N ∧ N ≤ 1073741824) : OkL (updS s O j N).1 := by
  have h4 : OkL { s with st := 2, wn := N } := by
    obtain ⟨a1, a2, a3, a4, a5, a6, a7, a8, a9, a10, a11, a12, a13, a14, a15, a16, a17, a18, a19, a20⟩ := h
    constructor <;> simp only <;> omega
  have h0 : OkL { s with st := 3, base := O, wn := N } := by
    obtain ⟨a1, a2, a3, a4, a5, a6, a7, a8, a9, a10, a11, a12, a13, a14, a15, a16, a17, a18, a19, a20⟩ := h
    constructor <;> simp only <;> omega
  unfold Go.Proofs.Ytbagfnafkpbanaa.updS
  (repeat' split) <;> first | exact h | exact h4 | exact h0 | exact h.res N hn | exact (h.turn _).res N hn | exact h.fol _ _ _ ho hn | exact (h.turn _).fol _ _ _ ho hn
theorem OkL.upd {s : Lp} (h : OkL s) (o j n : Int) : OkL (upd s o j n).1 := h.updS _ _ _ (sv_bd o) (ck_bd n)
theorem div_pow_bd (a : Int) (k : Nat) : (0 ≤ a → 0 ≤ a / 2 ^ k ∧ a / 2 ^ k ≤ a) ∧ (a < 0 → a ≤ a / 2 ^ k ∧ a / 2 ^ k < 0) := by
  have hp : (0 : Int) < 2 ^ k := Int.pow_pos (by decide)
  refine ⟨fun h => ⟨Int.ediv_nonneg h (Int.le_of_lt hp), Int.ediv_le_self _ h⟩, fun h => ⟨?_, Int.ediv_neg_of_neg_of_pos h hp⟩⟩
  rw [Int.le_ediv_iff_mul_le hp]
  have h1 : (1 : Int) ≤ 2 ^ k := hp
  have h2 := Int.mul_nonneg (a := -a) (b := 2 ^ k - 1) (by omega) (by omega)
  have e : -a * ((2 : Int) ^ k - 1) = a - a * 2 ^ k := by rw [Int.mul_sub, Int.mul_one, Int.neg_mul]; omega
  omega
theorem tk_bd {s : Lp} (h : OkL s) : (0 ≤ s.left → 0 ≤ tkX s ∧ tkX s ≤ s.left) ∧ (s.left < 0 → s.left ≤ tkX s ∧ tkX s < 0) := by
  have e0 := h.e0
  unfold tkX
  rw [Fx.sh_neg _ _ (by omega)]
  exact div_pow_bd _ _
theorem OkL.tic {s : Lp} (h : OkL s) : OkL (ticS s) := by
  have hb := tk_bd h
  have l0 := h.l0; have l1 := h.l1
  refine ⟨h.m0, h.m1, h.p0, h.p1, h.o0, h.o1, h.s0, h.s1, h.r0, h.r1, ?_, ?_, h.b0, h.b1, h.w0, h.w1, h.e0, h.e1, h.t0, h.t1⟩ <;> simp only [ticS] <;> omega
def newS (c10 c11 c12 f : Int) (has : Bool) : Lp := ⟨max 1 (min c10 4611686018427387904), max 1 (min c11 4611686018427387904), max 0 (min c12 1048576), if has = true then 1 else 0, if has = true then cf f else 0, 0, 0, 0, 3, 0⟩
theorem OkL.new (a b c f : Int) (has : Bool) : OkL (newS a b c f has) := by
  have := cf_bd f
  constructor <;> simp only [newS] <;> (try split) <;> omega
/-- a loop of the program's in block p; of the reference's in block q -/
def Po (w : World) (p : Nat) (s : Lp) : Prop := Bk p w (lpL s).toArray 55
def Rp (w : World) (q : Nat) (s : Lp) : Prop := Bk q w (lpL s).toArray 37
theorem run_mx (a b : Int) (u : World) : (Builtin.max_ #[3, 3] 3 #[.int .i64 a, .int .i64 b]).run Try.prog u = .ok (.int .i64 (max a b)) u := by
  simp [go_sem]; split <;> omega
theorem run_mn (a b : Int) (u : World) : (Builtin.min_ #[3, 3] 3 #[.int .i64 a, .int .i64 b]).run Try.prog u = .ok (.int .i64 (min a b)) u := by
  simp [go_sem]; split <;> omega
theorem run_mxS (a b : Int) (u : World) : (Builtin.max_ #[27, 27] 27 #[.int .i64 a, .int .i64 b]).run Try.prog u = .ok (.int .i64 (max a b)) u := by
  have : (Builtin.max_ #[27, 27] 27 #[.int .i64 a, .int .i64 b]).run Try.prog u = .ok (.int .i64 (if a < b then b else a)) u := by simp [go_sem]
  rw [this]; congr 2; split <;> omega
theorem run_mnS (a b : Int) (u : World) : (Builtin.min_ #[27, 27] 27 #[.int .i64 a, .int .i64 b]).run Try.prog u = .ok (.int .i64 (min a b)) u := by
  have : (Builtin.min_ #[27, 27] 27 #[.int .i64 a, .int .i64 b]).run Try.prog u = .ok (.int .i64 (if b < a then b else a)) u := by simp [go_sem]
  rw [this]; congr 2; split <;> omega
theorem freq_any (p : Nat) (s : Lp) (w : World) (h : Po w p s) : Calls Try.prog 12 #[.pointer (some ⟨p, 0, none⟩)] w fun e w' => e = .returned (.int .i64 s.rate) ∧ w' = w := by
  have c8 : w.cell? ⟨p, 4, none⟩ = some (.int .i64 s.rate) := h.cell 4
  clear h
  go_enter Try.func12, Try.ntmps12
  go_wp2
  go_ret
  exact ⟨rfl, rfl⟩
theorem state_any (p : Nat) (s : Lp) (w : World) (h : Po w p s) : Calls Try.prog 15 #[.pointer (some ⟨p, 0, none⟩)] w fun e w' => e = .returned (.int .i64 s.st) ∧ w' = w := by
  have c8 : w.cell? ⟨p, 3, none⟩ = some (.int .i64 s.st) := h.cell 3
  clear h
  go_enter Try.func15, Try.ntmps15
  go_wp2
  go_ret
  exact ⟨rfl, rfl⟩
theorem poll_any (p : Nat) (s : Lp) (w : World) (h : Po w p s) : Calls Try.prog 16 #[.pointer (some ⟨p, 0, none⟩)] w fun e w' => e = .returned (.int .i64 s.exp) ∧ w' = w := by
  have c8 : w.cell? ⟨p, 8, none⟩ = some (.int .i64 s.exp) := h.cell 8
  clear h
  go_enter Try.func16, Try.ntmps16
  go_wp2
  go_ret
  exact ⟨rfl, rfl⟩
theorem left_any (p : Nat) (s : Lp) (w : World) (h : Po w p s) : Calls Try.prog 11 #[.pointer (some ⟨p, 0, none⟩)] w fun e w' => e = .returned (.int .i64 s.left) ∧ w' = w := by
  have c8 : w.cell? ⟨p, 5, none⟩ = some (.int .i64 s.left) := h.cell 5
  clear h
  go_enter Try.func11, Try.ntmps11
  go_wp2
  go_ret
  exact ⟨rfl, rfl⟩
theorem limit_any (a : Int) (w : World) : Calls Try.prog 21 #[.int .i64 a] w fun e w' => e = .returned (.int .i64 (max 1 (min a 4611686018427387904))) ∧ w' = w := by
  have mx := run_mxS
  have mn := run_mnS
  have e : max 1 (min a 4611686018427387904) = min (max a 1) 4611686018427387904 := by omega
  rw [e]
  go_enter Try.func21, Try.ntmps21
  go_wp2
  go_ret
  exact ⟨rfl, rfl⟩
theorem seconds_any (n : Int) (w : World) (h0 : 0 ≤ n) (h1 : n ≤ 9223372036854775807) : Calls Try.prog 49 #[.int .i64 n] w fun e w' => e = .returned (.int .i64 (scF n)) ∧ ∃ m, w' = w.drewN m := by
  go_enter Try.func49, Try.ntmps49
  go_wp2_with (go_at_call 50; refine (scale_any _ _ _ _ (by omega) (by omega) (by omega) (by omega) (by omega)).mono ?_; rintro e w' ⟨rfl, m, rfl⟩)
  go_ret
  exact ⟨ret_int' (by unfold scF sv; simp), _, rfl⟩
end Go.Proofs.Ytbagfnafkpbanaa
