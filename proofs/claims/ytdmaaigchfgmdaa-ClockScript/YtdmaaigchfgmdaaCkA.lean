/- clock: what is known of it, in numbers; dates; the program's functions that read. -/
import Derived.Test.YtdmaaigchfgmdaaGB
import Derived.Test.YtdmaaigchfgmdaaGC
import Derived.Test.YtdmaaigchfgmdaaHA
namespace Go.Proofs.Ytdmaaigchfgmdaa
open Go Go.RowKit Go.Sort
set_option linter.unusedVariables false
/-- a clock: true time in 2^-32 seconds behind the beginning of era 0; how far it is ahead; rate, frequency, rest, leap, seconds -/
structure Cs where
  x : Int
  e : Int
  r : Int
  f : Int
  q : Int
  l : Int
  n : Int
def eraI (x : Int) : Int := x / 18446744073709551616
def atI (x : Int) : Int := x % 18446744073709551616
def dtL (x : Int) : List Value := [.int .i64 (eraI x), .int .u64 (atI x)]
def csL (s : Cs) : List Value := [.int .i64 (eraI s.x), .int .u64 (atI s.x), .int .i64 s.e, .int .i64 s.r, .int .i64 s.f, .int .i64 s.q, .int .i64 s.l, .int .i64 s.n]
theorem w64i (n : Int) (h0 : -9223372036854775808 ≤ n) (h1 : n < 9223372036854775808) : wrap64 n = n := by
  first | exact wrap64_id h0 h1 | (unfold wrap64; omega) | (simp [wrap64]; omega)
def sv (a : Int) : Int := Fx.cl 4611686018427387904 a
def cf (a : Int) : Int := Fx.cl 140737488355 a
theorem sv_bd (a : Int) : -4611686018427387904 ≤ sv a ∧ sv a ≤ 4611686018427387904 := Fx.cl_bd (by decide) a
theorem cf_bd (a : Int) : -140737488355 ≤ cf a ∧ cf a ≤ 140737488355 := Fx.cl_bd (by decide) a
theorem sv_in {a : Int} (h0 : -4611686018427387904 ≤ a) (h1 : a ≤ 4611686018427387904) : sv a = a := Fx.cl_in h0 h1
theorem cf_in {a : Int} (h0 : -140737488355 ≤ a) (h1 : a ≤ 140737488355) : cf a = a := Fx.cl_in h0 h1
structure OkC (s : Cs) : Prop where
  x0 : -18446744073709551616000 ≤ s.x - 4294967296 * s.n
  x1 : s.x - 4294967296 * s.n < 18465190817783261167616
  e0 : -4611686018427387904 ≤ s.e
  e1 : s.e ≤ 4611686018427387904
  r0 : -140737488355 ≤ s.r
  r1 : s.r ≤ 140737488355
  f0 : -140737488355 ≤ s.f
  f1 : s.f ≤ 140737488355
  q0 : 0 ≤ s.q
  q1 : s.q < 65536
  l0 : 0 ≤ s.l
  l1 : s.l ≤ 2
  n0 : 0 ≤ s.n
  n1 : s.n ≤ 1048576
/-- a date that a clock may bear -/
def Ox (x : Int) : Prop := -36893488147419103232000 ≤ x ∧ x ≤ 36893488147419103232000
theorem OkC.ox {s : Cs} (h : OkC s) : Ox s.x := by
  obtain ⟨a1, a2, a3, a4, a5, a6, a7, a8, a9, a10, a11, a12, a13, a14⟩ := h
  unfold Ox; omega
theorem OkC.oxe {s : Cs} (h : OkC s) : Ox (s.x + s.e) := by
  obtain ⟨a1, a2, a3, a4, a5, a6, a7, a8, a9, a10, a11, a12, a13, a14⟩ := h
  unfold Ox; omega
def dayI (x : Int) : Int := x / 4294967296 / 86400
def one (s : Cs) : Cs := { s with n := s.n + 1, x := s.x + 4294967296, q := (s.q + s.r + s.f) % 65536, e := sv (s.e + (s.q + s.r + s.f) / 65536) }
def lpE (l e : Int) : Int := if l = 1 then sv (e - 4294967296) else if l = 2 then sv (e + 4294967296) else e
def secS (s : Cs) : Cs := if dayI (s.x + s.e) < dayI ((one s).x + (one s).e) then { one s with e := lpE s.l (one s).e, l := 0 } else one s
theorem lpE_bd (l e : Int) (h0 : -4611686018427387904 ≤ e) (h1 : e ≤ 4611686018427387904) : -4611686018427387904 ≤ lpE l e ∧ lpE l e ≤ 4611686018427387904 := by
  unfold lpE; split
  · exact sv_bd _
  · split
    · exact sv_bd _
    · exact ⟨h0, h1⟩
theorem OkC.one {s : Cs} (h : OkC s) (hn : s.n < 1048576) : OkC (one s) := by
  obtain ⟨a1, a2, a3, a4, a5, a6, a7, a8, a9, a10, a11, a12, a13, a14⟩ := h
  have hb := sv_bd (s.e + (s.q + s.r + s.f) / 65536)
  constructor <;> simp only [Go.Proofs.Ytdmaaigchfgmdaa.one] <;> omega
theorem OkC.sec {s : Cs} (h : OkC s) (hn : s.n < 1048576) : OkC (secS s) := by
  have h1 := h.one hn
  unfold secS; split
  · have hb := lpE_bd s.l (Go.Proofs.Ytdmaaigchfgmdaa.one s).e h1.e0 h1.e1
    exact ⟨h1.x0, h1.x1, hb.1, hb.2, h1.r0, h1.r1, h1.f0, h1.f1, h1.q0, h1.q1, Int.le_refl 0, (show (0 : Int) ≤ 2 by decide), h1.n0, h1.n1⟩
  · exact h1
def passS (s : Cs) : Nat → Cs
  | 0 => s
  | k + 1 => secS (passS s k)
theorem sec_n (s : Cs) : (secS s).n = s.n + 1 := by unfold secS; split <;> rfl
theorem pass_n (s : Cs) (k : Nat) : (passS s k).n = s.n + k := by
  induction k with
  | zero => simp [passS]
  | succ k ih => rw [passS, sec_n, ih]; omega
theorem OkC.pass {s : Cs} (h : OkC s) (k : Nat) (hk : s.n + k ≤ 1048576) : OkC (passS s k) := by
  induction k with
  | zero => exact h
  | succ k ih => exact (ih (by omega)).sec (by rw [pass_n]; omega)
/-- what a clock does, in numbers -/
def newS (era at' off rate : Int) : Cs := ⟨(if era < -1000 ∨ 1000 < era then 0 else era) * 18446744073709551616 + at', sv off, cf rate, 0, 0, 0, 0⟩
def slewS (s : Cs) (d : Int) : Cs := { s with e := sv (s.e + d) }
def sfS (s : Cs) (f : Int) : Cs := { s with f := cf f }
def srS (s : Cs) (f : Int) : Cs := { s with r := cf f }
def slS (s : Cs) (n : Int) : Cs := if 0 ≤ n ∧ n ≤ 2 then { s with l := n } else s
def paE (s : Cs) (n : Int) : Bool := n < 0 || 1048576 - s.n < n
def paS (s : Cs) (n : Int) : Cs := if paE s n = true then s else passS s n.toNat
def atT (s : Cs) (d : Int) : Int := (s.x + s.e + sv (d + sv ((s.r + s.f) * d / 281474976710656))) % 18446744073709551616
theorem OkC.new {era at' off rate : Int} (h0 : 0 ≤ at') (h1 : at' < 18446744073709551616) : OkC (newS era at' off rate) := by
  have b1 := sv_bd off; have b2 := cf_bd rate
  constructor <;> simp only [newS] <;> (try split) <;> omega
theorem OkC.slew {s : Cs} (h : OkC s) (d : Int) : OkC (slewS s d) := ⟨h.x0, h.x1, (sv_bd _).1, (sv_bd _).2, h.r0, h.r1, h.f0, h.f1, h.q0, h.q1, h.l0, h.l1, h.n0, h.n1⟩
theorem OkC.sf {s : Cs} (h : OkC s) (d : Int) : OkC (sfS s d) := ⟨h.x0, h.x1, h.e0, h.e1, h.r0, h.r1, (cf_bd _).1, (cf_bd _).2, h.q0, h.q1, h.l0, h.l1, h.n0, h.n1⟩
theorem OkC.sr {s : Cs} (h : OkC s) (d : Int) : OkC (srS s d) := ⟨h.x0, h.x1, h.e0, h.e1, (cf_bd _).1, (cf_bd _).2, h.f0, h.f1, h.q0, h.q1, h.l0, h.l1, h.n0, h.n1⟩
theorem OkC.sl {s : Cs} (h : OkC s) (n : Int) : OkC (slS s n) := by
  unfold slS; split
  · rename_i hn; exact ⟨h.x0, h.x1, h.e0, h.e1, h.r0, h.r1, h.f0, h.f1, h.q0, h.q1, hn.1, hn.2, h.n0, h.n1⟩
  · exact h
theorem OkC.pa {s : Cs} (h : OkC s) (n : Int) : OkC (paS s n) := by
  unfold paS; split
  · exact h
  · rename_i hn
    have h' : paE s n = false := by simpa using hn
    simp only [paE, Bool.or_eq_false_iff, decide_eq_false_iff_not] at h'
    exact h.pass _ (by omega)
theorem eraI_bd {x : Int} (h : Ox x) : -2000 ≤ eraI x ∧ eraI x ≤ 2000 := by unfold Ox at h; unfold eraI; omega
theorem atI_bd (x : Int) : 0 ≤ atI x ∧ atI x < 18446744073709551616 := by unfold atI; omega
/-- a clock of the program's in block p; of the reference's in block q -/
def Po (w : World) (p : Nat) (s : Cs) : Prop := Bk p w (csL s).toArray 64
def Rp (w : World) (q : Nat) (s : Cs) : Prop := Bk q w (csL s).toArray 67
theorem Po.drewN {w : World} {p : Nat} {s : Cs} (h : Po w p s) (n : Nat) : Po (w.drewN n) p s := Bk.kept h rfl
theorem Rp.drewN {w : World} {p : Nat} {s : Cs} (h : Rp w p s) (n : Nat) : Rp (w.drewN n) p s := Bk.kept h rfl
theorem tplus_any (t d : Int) (w : World) (t0 : 0 ≤ t) (t1 : t < 18446744073709551616) : Calls Try.prog 50 #[.int .u64 t, .int .i64 d] w fun e w' => e = .returned (.int .u64 ((t + d) % 18446744073709551616)) ∧ w' = w := by
  go_enter Try.func50, Try.ntmps50
  go_wp2
  go_ret
  exact ⟨ret_int' (by simp only [IntKind.wrap_u64] at *; omega), rfl⟩
theorem rtplus_any (t d : Int) (w : World) (t0 : 0 ≤ t) (t1 : t < 18446744073709551616) : Calls Try.prog 60 #[.int .u64 t, .int .i64 d] w fun e w' => e = .returned (.int .u64 ((t + d) % 18446744073709551616)) ∧ w' = w := by
  go_enter Try.func60, Try.ntmps60
  go_wp2
  go_ret
  exact ⟨ret_int' (by simp only [IntKind.wrap_u64] at *; omega), rfl⟩
set_option maxHeartbeats 1000000 in
theorem unfold_near (x d : Int) (w : World) (hx : Ox x) (d0 : -4611686018427387904 ≤ d) (d1 : d ≤ 4611686018427387904) :
    Calls Try.prog 49 #[.int .u64 (atI (x + d)), .agg (dtL x).toArray] w fun r w' => r = .returned (.agg (dtL (x + d)).toArray) ∧ Below w.heap.size w w' := by
  obtain ⟨t, ht⟩ : ∃ t, atI (x + d) = t := ⟨_, rfl⟩
  obtain ⟨p, hp⟩ : ∃ t, atI x = t := ⟨_, rfl⟩
  obtain ⟨e, he⟩ : ∃ t, eraI x = t := ⟨_, rfl⟩
  obtain ⟨e', he'⟩ : ∃ t, eraI (x + d) = t := ⟨_, rfl⟩
  simp only [dtL]
  rw [ht, hp, he, he']
  have hd : sn t p = d := by
    unfold sn Fx.cl; rw [← ht, ← hp]; unfold atI; omega
  have h1 : d < 0 → p < t → e' = e - 1 := by rw [← ht, ← hp, ← he, ← he']; unfold atI eraI; omega
  have h2 : d < 0 → ¬ p < t → e' = e := by rw [← ht, ← hp, ← he, ← he']; unfold atI eraI; omega
  have h3 : ¬ d < 0 → t < p → e' = e + 1 := by rw [← ht, ← hp, ← he, ← he']; unfold atI eraI; omega
  have h4 : ¬ d < 0 → ¬ t < p → e' = e := by rw [← ht, ← hp, ← he, ← he']; unfold atI eraI; omega
  have be : -2000 ≤ e ∧ e ≤ 2000 := by rw [← he]; exact eraI_bd hx
  have K : Hid (∀ u, Calls Try.prog 22 #[.int .u64 t, .int .u64 p] u fun r w' => r = .returned (.int .i64 d) ∧ w' = u) := fun u => by rw [← hd]; exact since_any t p u
  have w1 : wrap64 (e - 1) = e - 1 := w64i _ (by omega) (by omega)
  have w2 : wrap64 (e + 1) = e + 1 := w64i _ (by omega) (by omega)
  clear ht hp he he' hd hx d0 d1 be
  by_cases hs : d < 0
  · by_cases hp : p < t
    · rw [h1 hs hp]
      clear h1 h2 h3 h4
      go_enter Try.func49, Try.ntmps49
      go_wp2_with (go_at_call 22; refine (K.out _).mono ?_; rintro r w1 ⟨rfl, rfl⟩)
      exact bodyPost_ret (v := .agg #[.int .i64 (e - 1), .int .u64 t]) (by simp [results, Try.results49, go_sem]) rfl ⟨rfl, (by repeat' (first | with_reducible exact Below.refl _ _ | with_reducible refine Below.setCell ?_ (by first | (simp; done) | (simp; omega) | omega) _ | with_reducible refine below_drewN ?_ _ | with_reducible refine Below.drew ?_ | with_reducible refine Below.alloc ?_ (by first | (simp; done) | (simp; omega) | omega) _))⟩
    · rw [h2 hs hp]
      clear h1 h2 h3 h4
      go_enter Try.func49, Try.ntmps49
      go_wp2_with (go_at_call 22; refine (K.out _).mono ?_; rintro r w1 ⟨rfl, rfl⟩)
      exact bodyPost_ret (v := .agg #[.int .i64 e, .int .u64 t]) (by simp [results, Try.results49, go_sem]) rfl ⟨rfl, (by repeat' (first | with_reducible exact Below.refl _ _ | with_reducible refine Below.setCell ?_ (by first | (simp; done) | (simp; omega) | omega) _ | with_reducible refine below_drewN ?_ _ | with_reducible refine Below.drew ?_ | with_reducible refine Below.alloc ?_ (by first | (simp; done) | (simp; omega) | omega) _))⟩
  · by_cases hp : t < p
    · rw [h3 hs hp]
      clear h1 h2 h3 h4
      go_enter Try.func49, Try.ntmps49
      go_wp2_with (go_at_call 22; refine (K.out _).mono ?_; rintro r w1 ⟨rfl, rfl⟩)
      exact bodyPost_ret (v := .agg #[.int .i64 (e + 1), .int .u64 t]) (by simp [results, Try.results49, go_sem]) rfl ⟨rfl, (by repeat' (first | with_reducible exact Below.refl _ _ | with_reducible refine Below.setCell ?_ (by first | (simp; done) | (simp; omega) | omega) _ | with_reducible refine below_drewN ?_ _ | with_reducible refine Below.drew ?_ | with_reducible refine Below.alloc ?_ (by first | (simp; done) | (simp; omega) | omega) _))⟩
    · rw [h4 hs hp]
      clear h1 h2 h3 h4
      go_enter Try.func49, Try.ntmps49
      go_wp2_with (go_at_call 22; refine (K.out _).mono ?_; rintro r w1 ⟨rfl, rfl⟩)
      exact bodyPost_ret (v := .agg #[.int .i64 e, .int .u64 t]) (by simp [results, Try.results49, go_sem]) rfl ⟨rfl, (by repeat' (first | with_reducible exact Below.refl _ _ | with_reducible refine Below.setCell ?_ (by first | (simp; done) | (simp; omega) | omega) _ | with_reducible refine below_drewN ?_ _ | with_reducible refine Below.drew ?_ | with_reducible refine Below.alloc ?_ (by first | (simp; done) | (simp; omega) | omega) _))⟩
theorem error_any (p : Nat) (s : Cs) (w : World) (h : Po w p s) : Calls Try.prog 11 #[.pointer (some ⟨p, 0, none⟩)] w fun e w' => e = .returned (.int .i64 s.e) ∧ w' = w := by
  have c0 : w.cell? ⟨p, 2, none⟩ = some (.int .i64 s.e) := h.cell 2
  clear h
  go_enter Try.func11, Try.ntmps11
  go_wp2
  go_ret
  exact ⟨rfl, rfl⟩
theorem freq_any (p : Nat) (s : Cs) (w : World) (h : Po w p s) : Calls Try.prog 35 #[.pointer (some ⟨p, 0, none⟩)] w fun e w' => e = .returned (.int .i64 s.f) ∧ w' = w := by
  have c0 : w.cell? ⟨p, 4, none⟩ = some (.int .i64 s.f) := h.cell 4
  clear h
  go_enter Try.func35, Try.ntmps35
  go_wp2
  go_ret
  exact ⟨rfl, rfl⟩
theorem crate_any (p : Nat) (s : Cs) (w : World) (h : Po w p s) : Calls Try.prog 36 #[.pointer (some ⟨p, 0, none⟩)] w fun e w' => e = .returned (.int .i64 s.r) ∧ w' = w := by
  have c0 : w.cell? ⟨p, 3, none⟩ = some (.int .i64 s.r) := h.cell 3
  clear h
  go_enter Try.func36, Try.ntmps36
  go_wp2
  go_ret
  exact ⟨rfl, rfl⟩
theorem seconds_any (p : Nat) (s : Cs) (w : World) (h : Po w p s) : Calls Try.prog 15 #[.pointer (some ⟨p, 0, none⟩)] w fun e w' => e = .returned (.int .i64 s.n) ∧ w' = w := by
  have c0 : w.cell? ⟨p, 7, none⟩ = some (.int .i64 s.n) := h.cell 7
  clear h
  go_enter Try.func15, Try.ntmps15
  go_wp2
  go_ret
  exact ⟨rfl, rfl⟩
end Go.Proofs.Ytdmaaigchfgmdaa
