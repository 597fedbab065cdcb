/- Loops in a law's world: one of the program's beside the configuration; another one; the reference's. -/
import Derived.Test.YtbagfnafkpbanaaLpH
namespace Go.Proofs.Ytbagfnafkpbanaa
open Go Go.RowKit Go.Sort
set_option linter.unusedVariables false
/-- the law's size -/
theorem szS_sv (o : Int) : szS (sv o) = max (-(sv o)) (sv o) := by
  have := sv_bd o
  unfold szS
  rw [sv_in (by omega) (by omega)]
  omega
theorem sv_eq (a : Int) : sv a = max (-4611686018427387904) (min a 4611686018427387904) := by
  unfold sv Fx.cl
  first | rfl | omega | (repeat' split) <;> omega
theorem lsize_any (a : Int) (w : World) (h : -9223372036854775808 ≤ a ∧ a ≤ 9223372036854775807) : Calls Try.prog 17 #[.int .i64 a] w fun e w' => e = .returned (.int .i64 (szS (sv a))) ∧ w' = w := by
  have e1 : szS (sv a) = if a < 0 then -(max a (-4611686018427387904)) else min a 4611686018427387904 := by
    rw [szS_sv, sv_eq]; split <;> omega
  rw [e1]
  clear e1
  have mx := run_mxS
  have mn := run_mnS
  by_cases h0 : a < 0
  · obtain ⟨M, hM⟩ : ∃ M, max a (-4611686018427387904) = M := ⟨_, rfl⟩
    have mx1 : ∀ u, (Builtin.max_ #[27, 27] 27 #[.int .i64 a, .int .i64 (-4611686018427387904)]).run Try.prog u = .ok (.int .i64 M) u := fun u => by rw [run_mxS, hM]
    obtain ⟨k1, k2⟩ := wrapS (n := -M) rfl (by omega) (by omega)
    rw [if_pos h0, hM]
    clear mx mn hM h
    go_enter Try.func17, Try.ntmps17
    go_wp2
    go_ret
    exact ⟨rfl, rfl⟩
  · rw [if_neg h0]
    clear mx h
    go_enter Try.func17, Try.ntmps17
    go_wp2
    go_ret
    exact ⟨rfl, rfl⟩
/-- a loop of the program's in block p, the law's copy of the configuration in block g -/
structure Wl (w : World) (g : Nat) (c : Array Value) (p : Nat) (s : Lp) (u : World) : Prop where
  po : Po u p s
  ck : Bk g u c 29
  ne : g ≠ p
  be : Below w.heap.size w u
  lp : w.heap.size ≤ p
  lg : w.heap.size ≤ g
theorem below_grown {w a b : World} {p : Nat} (h : Below w.heap.size w a) (hg : a.grownBy b (some p)) (hp : w.heap.size ≤ p) : Below w.heap.size w b := h.grown hg h.size (fun k hk => by injection hk with hk; omega)
theorem Wl.drewN {w u : World} {g p : Nat} {c : Array Value} {s : Lp} (h : Wl w g c p s u) (n : Nat) : Wl w g c p s (u.drewN n) := ⟨h.po, h.ck, h.ne, ⟨h.be.os, h.be.tape, h.be.output, h.be.size, h.be.block⟩, h.lp, h.lg⟩
theorem Wl.drew {w u : World} {g p : Nat} {c : Array Value} {s : Lp} (h : Wl w g c p s u) : Wl w g c p s u.drew := h.drewN 1
theorem Wl.thru {w u u' : World} {g p : Nat} {c : Array Value} {s : Lp} (h : Wl w g c p s u) (hb : Below u.heap.size u u') : Wl w g c p s u' := ⟨h.po.below hb (Bk.lt h.po), h.ck.kept (hb.block _ h.ck.lt), h.ne, below_thru h.be hb, h.lp, h.lg⟩
theorem Wl.alloc {w u : World} {g p : Nat} {c : Array Value} {s : Lp} (h : Wl w g c p s u) (o : Obj) : Wl w g c p s (u.alloc o) := h.thru ((Below.refl _ _).alloc (Nat.le_refl _) _)
theorem Wl.mod {w u u' : World} {g p : Nat} {c : Array Value} {s s' : Lp} (h : Wl w g c p s u) (hp : Po u' p s') (hg : u.grownBy u' (some p)) : Wl w g c p s' u' := ⟨hp, h.ck.kept (hg.block _ h.ck.lt (fun e => h.ne (Option.some.inj e))), h.ne, below_grown h.be hg h.lp, h.lp, h.lg⟩
theorem Wl.other {w u u' : World} {g p q : Nat} {c : Array Value} {s : Lp} (h : Wl w g c p s u) (hg : u.grownBy u' (some q)) (hq : w.heap.size ≤ q) (h1 : q ≠ p) (h2 : q ≠ g) : Wl w g c p s u' := ⟨h.po.other hg (fun e => h1 e.symm), h.ck.kept (hg.block _ h.ck.lt (fun e => h2 (Option.some.inj e).symm)), h.ne, below_grown h.be hg hq, h.lp, h.lg⟩
/-- a law's calls, in such a world -/
theorem wl_upd {w u : World} {g p : Nat} {c : Array Value} {s : Lp} (h : Wl w g c p s u) (ok : OkL s) (o j n : Int) (ho : -9223372036854775808 ≤ o ∧ o ≤ 9223372036854775807) (hj : -9223372036854775808 ≤ j ∧ j ≤ 9223372036854775807) : Calls Try.prog 14 #[.pointer (some ⟨p, 0, none⟩), .int .i64 o, .int .i64 j, .int .i64 n] u fun e w' => e = .returned (.tuple #[.int .i64 (upd s o j n).2.1, .int .i64 (upd s o j n).2.2]) ∧ Wl w g c p (upd s o j n).1 w' :=
  (update_any p s o j n u h.po ok ho hj).mono fun _ _ ⟨h1, h2, h3⟩ => ⟨h1, h.mod h2 h3⟩
theorem wl_tick {w u : World} {g p : Nat} {c : Array Value} {s : Lp} (h : Wl w g c p s u) (ok : OkL s) : Calls Try.prog 10 #[.pointer (some ⟨p, 0, none⟩)] u fun e w' => e = .returned (.int .i64 (tkX s)) ∧ Wl w g c p (ticS s) w' :=
  (tick_any p s u h.po ok).mono fun _ _ ⟨h1, h2, h3⟩ => ⟨h1, h.mod h2 h3⟩
theorem wl_freq {w u : World} {g p : Nat} {c : Array Value} {s : Lp} (h : Wl w g c p s u) (n : Int) (hn : s.rate = n) : Calls Try.prog 12 #[.pointer (some ⟨p, 0, none⟩)] u fun e w' => e = .returned (.int .i64 n) ∧ w' = u := by
  rw [← hn]; exact freq_any p s u h.po
theorem wl_state {w u : World} {g p : Nat} {c : Array Value} {s : Lp} (h : Wl w g c p s u) (n : Int) (hn : s.st = n) : Calls Try.prog 15 #[.pointer (some ⟨p, 0, none⟩)] u fun e w' => e = .returned (.int .i64 n) ∧ w' = u := by
  rw [← hn]; exact state_any p s u h.po
theorem wl_poll {w u : World} {g p : Nat} {c : Array Value} {s : Lp} (h : Wl w g c p s u) (n : Int) (hn : s.exp = n) : Calls Try.prog 16 #[.pointer (some ⟨p, 0, none⟩)] u fun e w' => e = .returned (.int .i64 n) ∧ w' = u := by
  rw [← hn]; exact poll_any p s u h.po
theorem wl_left {w u : World} {g p : Nat} {c : Array Value} {s : Lp} (h : Wl w g c p s u) (n : Int) (hn : s.left = n) : Calls Try.prog 11 #[.pointer (some ⟨p, 0, none⟩)] u fun e w' => e = .returned (.int .i64 n) ∧ w' = u := by
  rw [← hn]; exact left_any p s u h.po
theorem wl_new {w u : World} {g : Nat} {c : List Value} {st pa so : Int} (hc : Cg c st pa so) (hk : Bk g u c.toArray 29) (hb : Below w.heap.size w u) (hg : w.heap.size ≤ g) (f : Int) (has : Bool) : Calls Try.prog 9 #[.agg c.toArray, .int .i64 f, .bool has] u fun e w' => ∃ p, e = .returned (.pointer (some ⟨p, 0, none⟩)) ∧ Wl w g c.toArray p (newS st pa so f has) w' ∧ u.heap.size ≤ p ∧ Below u.heap.size u w' :=
  (new_any c st pa so f has u hc).mono fun _ _ ⟨p, h1, h2⟩ => ⟨p, h1, ⟨h2.po, hk.kept (h2.be.block _ hk.lt), (fun e => by have := hk.lt; have := h2.hp; omega), below_thru hb h2.be, Nat.le_trans hb.size h2.hp, hg⟩, h2.hp, h2.be⟩
/-- what an Update says, in plain words -/
theorem upd_says {s : Lp} (ok : OkL s) (o j n : Int) :
    ((upd s o j n).2.1 = 3 ∧ (upd s o j n).2.2 = 0 ∧ s.panics < szS (sv o) ∧ (upd s o j n).1 = s) ∨
    ((upd s o j n).2.1 = 2 ∧ (upd s o j n).2.2 = sv o ∧ ¬ s.panics < szS (sv o) ∧ s.most < szS (sv o) ∧ s.st ≠ 4 ∧ (s.st = 2 → s.stepout ≤ sinS s (ck n)) ∧ (upd s o j n).1.st = (if s.st = 0 then 3 else 4) ∧ (upd s o j n).1.left = 0) ∨
    ((upd s o j n).2.1 = 1 ∧ (upd s o j n).2.2 = 0 ∧ ¬ s.panics < szS (sv o) ∧ ¬ s.most < szS (sv o) ∧ (upd s o j n).1.st = 4 ∧ (upd s o j n).1.left = sv o) ∨
    ((upd s o j n).2.1 = 0 ∧ (upd s o j n).2.2 = 0 ∧ ¬ s.panics < szS (sv o) ∧ (s.st = 4 → (upd s o j n).1 = { s with st := 2, wn := ck n }) ∧ (s.st = 2 → (upd s o j n).1 = s) ∧ (upd s o j n).1.left = s.left ∧ s.st ≠ 1) := by
  unfold upd updS
  by_cases h1 : s.panics < szS (sv o)
  · rw [if_pos h1]; exact .inl ⟨rfl, rfl, h1, rfl⟩
  rw [if_neg h1]
  by_cases h2 : s.most < szS (sv o)
  · rw [if_pos h2]
    by_cases h3 : s.st = 4
    · rw [if_pos h3]; exact .inr (.inr (.inr ⟨rfl, rfl, h1, fun _ => rfl, fun h => by omega, rfl, by omega⟩))
    rw [if_neg h3]
    by_cases h4 : s.st = 2
    · rw [if_pos h4]
      by_cases h5 : sinS s (ck n) < s.stepout
      · rw [if_pos h5]; exact .inr (.inr (.inr ⟨rfl, rfl, h1, fun h => absurd h h3, fun _ => rfl, rfl, by omega⟩))
      · rw [if_neg h5]; exact .inr (.inl ⟨rfl, rfl, h1, h2, h3, fun _ => by omega, rfl, rfl⟩)
    rw [if_neg h4]
    by_cases h6 : s.st = 3
    · rw [if_pos h6]
      by_cases h5 : sinS s (ck n) < s.stepout
      · rw [if_pos h5]; exact .inr (.inr (.inr ⟨rfl, rfl, h1, fun h => absurd h h3, fun _ => rfl, rfl, by omega⟩))
      · rw [if_neg h5]; exact .inr (.inl ⟨rfl, rfl, h1, h2, h3, fun h => absurd h h4, rfl, rfl⟩)
    · rw [if_neg h6]; exact .inr (.inl ⟨rfl, rfl, h1, h2, h3, fun h => absurd h h4, rfl, rfl⟩)
  rw [if_neg h2]
  by_cases h3 : s.st = 0
  · rw [if_pos h3]; exact .inr (.inr (.inr ⟨rfl, rfl, h1, fun h => by omega, fun h => by omega, rfl, by omega⟩))
  rw [if_neg h3]
  by_cases h6 : s.st = 3
  · rw [if_pos h6]
    by_cases h5 : sinS s (ck n) < s.stepout
    · rw [if_pos h5]; exact .inr (.inr (.inr ⟨rfl, rfl, h1, fun h => by omega, fun h => by omega, rfl, by omega⟩))
    · rw [if_neg h5]; exact .inr (.inr (.inl ⟨rfl, rfl, h1, h2, rfl, rfl⟩))
  rw [if_neg h6]
  split <;> exact .inr (.inr (.inl ⟨rfl, rfl, h1, h2, rfl, rfl⟩))
theorem upd_same {s : Lp} (o j n : Int) : (upd s o j n).1.most = s.most ∧ (upd s o j n).1.panics = s.panics ∧ (upd s o j n).1.stepout = s.stepout := by
  unfold upd updS
  (repeat' split) <;> exact ⟨rfl, rfl, rfl⟩
end Go.Proofs.Ytbagfnafkpbanaa
