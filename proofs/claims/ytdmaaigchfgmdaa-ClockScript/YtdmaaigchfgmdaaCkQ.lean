/- clock: clocks in a law's world; the examples. -/
import Derived.Test.YtdmaaigchfgmdaaCkP
namespace Go.Proofs.Ytdmaaigchfgmdaa
open Go Go.RowKit Go.Sort
set_option linter.unusedVariables false
/-- a clock that a law has made -/
structure Wc (w u : World) (p : Nat) (s : Cs) : Prop where
  po : Po u p s
  ok : OkC s
  be : Below w.heap.size w u
  lp : w.heap.size ≤ p
theorem below_grown {w a b : World} {p : Nat} (h : Below w.heap.size w a) (hg : a.grownBy b (some p)) (hp : w.heap.size ≤ p) : Below w.heap.size w b := h.grown hg h.size (fun k hk => by injection hk with hk; omega)
theorem Wc.thru {w u u' : World} {p : Nat} {s : Cs} (h : Wc w u p s) (hb : Below u.heap.size u u') : Wc w u' p s := ⟨Bk.kept h.po (hb.block _ (Bk.lt h.po)), h.ok, below_thru h.be hb, h.lp⟩
theorem Wc.mod {w u u' : World} {p : Nat} {s s' : Cs} (h : Wc w u p s) (ok : OkC s') (hp : Po u' p s') (hg : u.grownBy u' (some p)) : Wc w u' p s' := ⟨hp, ok, below_grown h.be hg h.lp, h.lp⟩
theorem Wc.other {w u u' : World} {p q : Nat} {s : Cs} (h : Wc w u p s) (hg : u.grownBy u' (some q)) (hq : w.heap.size ≤ q) (hn : p ≠ q) : Wc w u' p s := ⟨Bk.kept h.po (hg.block _ (Bk.lt h.po) (fun e => hn (Option.some.inj e))), h.ok, below_grown h.be hg hq, h.lp⟩
theorem wc_new {w u : World} (hb : Below w.heap.size w u) (era at' off rate : Int) (h0 : 0 ≤ at') (h1 : at' < 18446744073709551616) (s : Cs) (hs : newS era at' off rate = s) : Calls Try.prog 7 #[.agg #[.int .i64 era, .int .u64 at'], .int .i64 off, .int .i64 rate] u fun e w' => ∃ p, e = .returned (.pointer (some ⟨p, 0, none⟩)) ∧ Wc w w' p s ∧ u.heap.size ≤ p ∧ Below u.heap.size u w' := by
  subst hs
  exact (new_any era at' off rate u h0 h1).mono fun _ _ ⟨p, h1', h2⟩ => ⟨p, h1', ⟨h2.po, OkC.new h0 h1, below_thru hb h2.be, Nat.le_trans hb.size h2.hp⟩, h2.hp, h2.be⟩
theorem wc_pass {w u : World} {p : Nat} {s : Cs} (h : Wc w u p s) (n : Int) (s' : Cs) (hs : paS s n = s') (e' : Int) (he : (if paE s n = true then 1 else 0) = e') : Calls Try.prog 10 #[.pointer (some ⟨p, 0, none⟩), .int .i64 n] u fun e w' => e = .returned (.int .i64 e') ∧ Wc w w' p s' ∧ u.grownBy w' (some p) := by
  subst hs he
  exact (pass_any p s n u h.po h.ok).mono fun _ _ ⟨h1, h2, h3⟩ => ⟨h1, h.mod (h.ok.pa n) h2 h3, h3⟩
theorem wc_slew {w u : World} {p : Nat} {s : Cs} (h : Wc w u p s) (d : Int) (hd : -9223372036854775808 ≤ d ∧ d ≤ 9223372036854775807) (s' : Cs) (hs : slewS s d = s') : Calls Try.prog 8 #[.pointer (some ⟨p, 0, none⟩), .int .i64 d] u fun e w' => e = .returned (.tuple #[]) ∧ Wc w w' p s' ∧ u.grownBy w' (some p) := by
  subst hs
  exact (slew_any p s d u h.po h.ok hd).mono fun _ _ ⟨h1, h2, h3⟩ => ⟨h1, h.mod (h.ok.slew d) h2 h3, h3⟩
theorem wc_step {w u : World} {p : Nat} {s : Cs} (h : Wc w u p s) (d : Int) (hd : -9223372036854775808 ≤ d ∧ d ≤ 9223372036854775807) (s' : Cs) (hs : slewS s d = s') : Calls Try.prog 9 #[.pointer (some ⟨p, 0, none⟩), .int .i64 d] u fun e w' => e = .returned (.tuple #[]) ∧ Wc w w' p s' ∧ u.grownBy w' (some p) := by
  subst hs
  exact (step_any p s d u h.po h.ok hd).mono fun _ _ ⟨h1, h2, h3⟩ => ⟨h1, h.mod (h.ok.slew d) h2 h3, h3⟩
theorem wc_setFreq {w u : World} {p : Nat} {s : Cs} (h : Wc w u p s) (d : Int) (s' : Cs) (hs : sfS s d = s') : Calls Try.prog 21 #[.pointer (some ⟨p, 0, none⟩), .int .i64 d] u fun e w' => e = .returned (.tuple #[]) ∧ Wc w w' p s' ∧ u.grownBy w' (some p) := by
  subst hs
  exact (setFreq_any p s d u h.po).mono fun _ _ ⟨h1, h2, h3⟩ => ⟨h1, h.mod (h.ok.sf d) h2 h3, h3⟩
theorem wc_setRate {w u : World} {p : Nat} {s : Cs} (h : Wc w u p s) (d : Int) (s' : Cs) (hs : srS s d = s') : Calls Try.prog 30 #[.pointer (some ⟨p, 0, none⟩), .int .i64 d] u fun e w' => e = .returned (.tuple #[]) ∧ Wc w w' p s' ∧ u.grownBy w' (some p) := by
  subst hs
  exact (setRate_any p s d u h.po).mono fun _ _ ⟨h1, h2, h3⟩ => ⟨h1, h.mod (h.ok.sr d) h2 h3, h3⟩
theorem wc_setLeap {w u : World} {p : Nat} {s : Cs} (h : Wc w u p s) (n : Int) (s' : Cs) (hs : slS s n = s') (b : Bool) (hb : decide (0 ≤ n ∧ n ≤ 2) = b) : Calls Try.prog 23 #[.pointer (some ⟨p, 0, none⟩), .int .i64 n] u fun e w' => e = .returned (.bool b) ∧ Wc w w' p s' ∧ u.grownBy w' (some p) := by
  subst hs hb
  exact (setLeap_any p s n u h.po).mono fun _ _ ⟨h1, h2, h3⟩ => ⟨h1, h.mod (h.ok.sl n) h2 h3, h3⟩
theorem wc_now {w u : World} {p : Nat} {s : Cs} (h : Wc w u p s) (a : Int) (ha : atI (s.x + s.e) = a) : Calls Try.prog 12 #[.pointer (some ⟨p, 0, none⟩)] u fun e w' => e = .returned (.int .u64 a) ∧ Wc w w' p s ∧ Below u.heap.size u w' := by
  subst ha
  exact (now_any p s u h.po h.ok).mono fun _ _ ⟨h1, h2⟩ => ⟨h1, h.thru h2, h2⟩
theorem wc_true {w u : World} {p : Nat} {s : Cs} (h : Wc w u p s) (a : Int) (ha : atI s.x = a) : Calls Try.prog 13 #[.pointer (some ⟨p, 0, none⟩)] u fun e w' => e = .returned (.int .u64 a) ∧ w' = u := by
  subst ha
  exact true_any p s u h.po
theorem wc_error {w u : World} {p : Nat} {s : Cs} (h : Wc w u p s) (a : Int) (ha : s.e = a) : Calls Try.prog 11 #[.pointer (some ⟨p, 0, none⟩)] u fun e w' => e = .returned (.int .i64 a) ∧ w' = u := by
  subst ha
  exact error_any p s u h.po
theorem wc_seconds {w u : World} {p : Nat} {s : Cs} (h : Wc w u p s) (a : Int) (ha : s.n = a) : Calls Try.prog 15 #[.pointer (some ⟨p, 0, none⟩)] u fun e w' => e = .returned (.int .i64 a) ∧ w' = u := by
  subst ha
  exact seconds_any p s u h.po
theorem wc_date {w u : World} {p : Nat} {s : Cs} (h : Wc w u p s) (a b : Int) (ha : eraI (s.x + s.e) = a) (hb : atI (s.x + s.e) = b) : Calls Try.prog 14 #[.pointer (some ⟨p, 0, none⟩)] u fun e w' => e = .returned (.agg #[.int .i64 a, .int .u64 b]) ∧ Wc w w' p s ∧ Below u.heap.size u w' := by
  subst ha hb
  exact (date_any p s u h.po h.ok).mono fun _ _ ⟨h1, h2⟩ => ⟨h1, h.thru h2, h2⟩
def c0S : Cs := ⟨42949672960, 5, 0, 0, 0, 0, 0⟩
def c1S : Cs := ⟨42949672960, 5, 196609, 0, 0, 0, 0⟩
def c2S : Cs := ⟨47244640256, 8, 196609, 0, 1, 0, 1⟩
def c3S : Cs := ⟨281517926383616, 196614, 196609, 0, 0, 0, 65536⟩
def d0S : Cs := ⟨371076584439808, 0, 0, 0, 0, 0, 0⟩
def d1S : Cs := ⟨371076584439808, 0, 0, 0, 0, 1, 0⟩
def d2S : Cs := ⟨371085174374400, -4294967296, 0, 0, 0, 0, 2⟩
def d3S : Cs := ⟨371089469341696, -4294967296, 0, 0, 0, 0, 3⟩
theorem c2_ok : OkC c2S := by constructor <;> decide
theorem c3_pass : paS c2S 65535 = c3S := by
  have e : paE c2S 65535 = false := by kernel_rfl
  have h : runS c2S 65535 = c3S := by kernel_rfl
  unfold paS
  rw [e, if_neg (by decide), show (65535 : Int).toNat = 65535 from rfl, run_pass c2_ok rfl (by decide) (by decide) 65535 (by decide)]
  exact h
set_option maxRecDepth 20000 in
set_option maxHeartbeats 2000000 in
theorem shown_any (w : World) : Calls Try.prog 16 #[] w fun e w' => e = .returned (.bool true) ∧ Below w.heap.size w w' := by
  have N0 : Hid (newS 0 42949672960 5 0 = c0S ∧ srS c0S 196609 = c1S ∧ paS c1S 1 = c2S ∧ paS c2S 65535 = c3S ∧ paS c3S (-1) = c3S) := ⟨by kernel_rfl, by kernel_rfl, by kernel_rfl, c3_pass, by kernel_rfl⟩
  have N1 : Hid (newS 0 371076584439808 0 0 = d0S ∧ slS d0S 1 = d1S ∧ paS d1S 2 = d2S ∧ paS d2S 1 = d3S ∧ slS d3S 3 = d3S) := ⟨by kernel_rfl, by kernel_rfl, by kernel_rfl, by kernel_rfl, by kernel_rfl⟩
  go_enter Try.func16, Try.ntmps16
  refine post_hid fun Q hQ => ?_
  refine seq_hid fun R hR => ?_
  go_wp2_with fail
  rw [hR.out]
  clear hR
  refine seq_hid fun R hR => ?_
  go_wp2_with (go_at_call 7; have hK := wc_new (w := w) (Below.refl _ _) 0 42949672960 5 0 (by decide) (by decide) c0S N0.out.1; (with_reducible refine hK.mono ?_); clear hK; rintro e w1 ⟨p, rfl, h1, h2, h3⟩; have H0 : Hid (Wc w w1 p c0S) := h1; clear h1 h2 h3)
  rw [hR.out]
  clear hR
  go_wp2_with (first
    | (go_at_call 12; have hK := wc_now H0.out 42949672965 (by kernel_rfl); (with_reducible refine hK.mono ?_); clear hK; rintro e w2 ⟨rfl, h1, h2⟩; have H1 : Hid (Wc w w2 p c0S) := h1; clear h1 h2)
    | (go_at_call 13; have hK := wc_true H1.out 42949672960 (by kernel_rfl); (with_reducible refine hK.mono ?_); clear hK; rintro e w3 ⟨rfl, hw⟩; rw [hw]; clear hw)
    | (go_at_call 11; have hK := wc_error H1.out 5 (by kernel_rfl); (with_reducible refine hK.mono ?_); clear hK; rintro e w3 ⟨rfl, hw⟩; rw [hw]; clear hw)
    | (go_at_call 30; have hK := wc_setRate H1.out 196609 c1S N0.out.2.1; (with_reducible refine hK.mono ?_); clear hK; rintro e w3 ⟨rfl, h1, h2⟩; have H2 : Hid (Wc w w3 p c1S) := h1; clear h1 h2)
    | (go_at_call 10; have hK := wc_pass H2.out 1 c2S N0.out.2.2.1 0 (by kernel_rfl); (with_reducible refine hK.mono ?_); clear hK; rintro e w4 ⟨rfl, h1, h2⟩; have H3 : Hid (Wc w w4 p c2S) := h1; clear h1 h2)
    | (go_at_call 11; have hK := wc_error H3.out 8 (by kernel_rfl); (with_reducible refine hK.mono ?_); clear hK; rintro e w5 ⟨rfl, hw⟩; rw [hw]; clear hw)
    | (go_at_call 10; have hK := wc_pass H3.out 65535 c3S N0.out.2.2.2.1 0 (by kernel_rfl); (with_reducible refine hK.mono ?_); clear hK; rintro e w5 ⟨rfl, h1, h2⟩; have H4 : Hid (Wc w w5 p c3S) := h1; clear h1 h2)
    | (go_at_call 11; have hK := wc_error H4.out 196614 (by kernel_rfl); (with_reducible refine hK.mono ?_); clear hK; rintro e w6 ⟨rfl, hw⟩; rw [hw]; clear hw)
    | (go_at_call 10; have hK := wc_pass H4.out (-1) c3S N0.out.2.2.2.2 1 (by kernel_rfl); (with_reducible refine hK.mono ?_); clear hK; rintro e w6 ⟨rfl, h1, h2⟩; have H5 : Hid (Wc w w6 p c3S) := h1; clear h1 h2)
    | (go_at_call 7; have hK := wc_new (w := w) H5.out.be 0 371076584439808 0 0 (by decide) (by decide) d0S N1.out.1; (with_reducible refine hK.mono ?_); clear hK; rintro e w7 ⟨q, rfl, h1, h2, h3⟩; have H6 : Hid (Wc w w7 q d0S) := h1; clear h1 h2 h3)
    | (go_at_call 23; have hK := wc_setLeap H6.out 1 d1S N1.out.2.1 true (by decide); (with_reducible refine hK.mono ?_); clear hK; rintro e w8 ⟨rfl, h1, h2⟩; have H7 : Hid (Wc w w8 q d1S) := h1; clear h1 h2)
    | (go_at_call 10; have hK := wc_pass H7.out 2 d2S N1.out.2.2.1 0 (by kernel_rfl); (with_reducible refine hK.mono ?_); clear hK; rintro e w9 ⟨rfl, h1, h2⟩; have H8 : Hid (Wc w w9 q d2S) := h1; clear h1 h2)
    | (go_at_call 11; have hK := wc_error H8.out (-4294967296) (by kernel_rfl); (with_reducible refine hK.mono ?_); clear hK; rintro e w10 ⟨rfl, hw⟩; rw [hw]; clear hw)
    | (go_at_call 10; have hK := wc_pass H8.out 1 d3S N1.out.2.2.2.1 0 (by kernel_rfl); (with_reducible refine hK.mono ?_); clear hK; rintro e w10 ⟨rfl, h1, h2⟩; have H9 : Hid (Wc w w10 q d3S) := h1; clear h1 h2)
    | (go_at_call 11; have hK := wc_error H9.out (-4294967296) (by kernel_rfl); (with_reducible refine hK.mono ?_); clear hK; rintro e w11 ⟨rfl, hw⟩; rw [hw]; clear hw)
    | (go_at_call 23; have hK := wc_setLeap H9.out 3 d3S N1.out.2.2.2.2 false (by decide); (with_reducible refine hK.mono ?_); clear hK; rintro e w12 ⟨rfl, h1, h2⟩; have HA : Hid (Wc w w12 q d3S) := h1; clear h1 h2))
  rw [hQ.out]
  go_ret
  exact ⟨rfl, HA.out.be⟩
end Go.Proofs.Ytdmaaigchfgmdaa
