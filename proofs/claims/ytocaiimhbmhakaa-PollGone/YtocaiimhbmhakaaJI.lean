/- Two polls in one world. -/
import Derived.Test.YtocaiimhbmhakaaJC
import Derived.Test.YtocaiimhbmhakaaJD
import Derived.Test.YtocaiimhbmhakaaJH
import Derived.Test.YtocaiimhbmhakaaJO
namespace Go.Proofs.Ytocaiimhbmhakaa
open Go Go.RowKit Go.Sort
theorem Po.other {w w' : World} {p q : Nat} {s : Pl} (h : Po w p s) (hg : w.grownBy w' (some q)) (hne : p ≠ q) : Po w' p s := Bk.kept h (hg.block p (Bk.lt h) (fun e => hne (Option.some.inj e)))
theorem Rp.other {w w' : World} {p q : Nat} {a : As} {s : Pl} (h : Rp w q a s) (hg : w.grownBy w' (some p)) (hne : q ≠ p) : Rp w' q a s := Bk.kept h (hg.block q (Bk.lt h) (fun e => hne (Option.some.inj e)))
theorem Po.below {w w' : World} {p B : Nat} {s : Pl} (h : Po w p s) (hb : Below B w w') (hp : p < B) : Po w' p s := Bk.kept h (hb.block p hp)
theorem below_grown {w a b : World} {p : Nat} (h : Below w.heap.size w a) (hg : a.grownBy b (some p)) (hp : w.heap.size ≤ p) : Below w.heap.size w b := h.grown hg h.size (fun k hk => by injection hk with hk; omega)
theorem ck_mono {a b : Int} (h : a ≤ b) : ck a ≤ ck b := by unfold ck; omega
/-- a poll in block p, the association's copy, all else as it was -/
structure Wd (w : World) (a : As) (p : Nat) (s : Pl) (u : World) : Prop where
  po : Po u p s
  ak : Bk w.heap.size u (asL a).toArray 25
  be : Below w.heap.size w u
  lt : w.heap.size < p
theorem Wd.drewN {w u : World} {a : As} {p : Nat} {s : Pl} (h : Wd w a p s u) (n : Nat) : Wd w a p s (u.drewN n) := ⟨h.po, h.ak, ⟨h.be.os, h.be.tape, h.be.output, h.be.size, h.be.block⟩, h.lt⟩
theorem Wd.drew {w u : World} {a : As} {p : Nat} {s : Pl} (h : Wd w a p s u) : Wd w a p s u.drew := ⟨h.po, h.ak, ⟨h.be.os, h.be.tape, h.be.output, h.be.size, h.be.block⟩, h.lt⟩
theorem Wd.mod {w u u' : World} {a : As} {p : Nat} {s s' : Pl} (h : Wd w a p s u) (hp : Po u' p s') (hg : u.grownBy u' (some p)) : Wd w a p s' u' := ⟨hp, h.ak.kept (hg.block _ h.ak.lt (fun e => by have := h.lt; injection e with e; omega)), below_grown h.be hg (Nat.le_of_lt h.lt), h.lt⟩
theorem wd_due {w u : World} {a : As} {p : Nat} {s : Pl} (h : Wd w a p s u) (n : Int) (b : Bool) (hb : decide (s.next ≤ ck n) = b) : Calls Try.prog 11 #[.pointer (some ⟨p, 0, none⟩), .int .i64 n] u fun e w' => e = .returned (.bool b) ∧ Wd w a p s w' :=
  (due_any p s n u h.po).mono fun _ _ ⟨h1, m, h2⟩ => ⟨by rw [h1, hb], by rw [h2]; exact h.drewN m⟩
theorem wd_sent {w u : World} {a : As} {p : Nat} {s : Pl} (h : Wd w a p s u) (ok : OkL s) (now sys : Int) (s' : Pl) (hs : sentS s now sys = s') : Calls Try.prog 12 #[.pointer (some ⟨p, 0, none⟩), .int .i64 now, .int .i64 sys] u fun e w' => e = .returned (.tuple #[]) ∧ Wd w a p s' w' :=
  (sent_any p s now sys u h.po ok).mono fun _ _ ⟨h1, h2, h3⟩ => ⟨h1, by rw [← hs]; exact h.mod h2 h3⟩
theorem wd_heard {w u : World} {a : As} {p : Nat} {s : Pl} (h : Wd w a p s u) (ok : OkL s) (now : Int) : Calls Try.prog 16 #[.pointer (some ⟨p, 0, none⟩), .int .i64 now] u fun e w' => e = .returned (.tuple #[]) ∧ Wd w a p (heardS s) w' :=
  (heard_any p s now u h.po ⟨ok.r0, ok.r1⟩).mono fun _ _ ⟨h1, h2, h3⟩ => ⟨h1, h.mod h2 h3⟩
theorem wd_kissed {w u : World} {a : As} {p : Nat} {s : Pl} (h : Wd w a p s u) (ok : OkL s) (now x : Int) : Calls Try.prog 14 #[.pointer (some ⟨p, 0, none⟩), .int .i64 now, .int .i64 x] u fun e w' => e = .returned (.tuple #[]) ∧ Wd w a p (kissS s now x) w' :=
  (kissed_any p s now x u h.po ok).mono fun _ _ ⟨h1, h2, h3⟩ => ⟨h1, h.mod h2 h3⟩
theorem wd_next {w u : World} {a : As} {p : Nat} {s : Pl} (h : Wd w a p s u) (n : Int) (hn : s.next = n) : Calls Try.prog 13 #[.pointer (some ⟨p, 0, none⟩)] u fun e w' => e = .returned (.int .i64 n) ∧ w' = u :=
  (next_any p s u h.po).mono fun _ _ ⟨h1, h2⟩ => ⟨by rw [h1, hn], h2⟩
theorem wd_exp {w u : World} {a : As} {p : Nat} {s : Pl} (h : Wd w a p s u) (n : Int) (hn : s.exp = n) : Calls Try.prog 15 #[.pointer (some ⟨p, 0, none⟩)] u fun e w' => e = .returned (.int .i64 n) ∧ w' = u :=
  (exponent_any p s u h.po).mono fun _ _ ⟨h1, h2⟩ => ⟨by rw [h1, hn], h2⟩
theorem wd_reach {w u : World} {a : As} {p : Nat} {s : Pl} (h : Wd w a p s u) (ok : OkL s) (n : Int) (hn : s.reach = n) : Calls Try.prog 19 #[.pointer (some ⟨p, 0, none⟩)] u fun e w' => e = .returned (.int .i64 n) ∧ w' = u :=
  (reach_any p s u h.po ok).mono fun _ _ ⟨h1, h2⟩ => ⟨by rw [h1, hn], h2⟩
theorem wd_gone {w u : World} {a : As} {p : Nat} {s : Pl} (h : Wd w a p s u) (n : Int) (hn : s.gone = n) : Calls Try.prog 20 #[.pointer (some ⟨p, 0, none⟩)] u fun e w' => e = .returned (.int .i64 n) ∧ w' = u :=
  (gone_any p s u h.po).mono fun _ _ ⟨h1, h2⟩ => ⟨by rw [h1, hn], h2⟩
theorem pw_ge (e : Int) (h : 3 ≤ e) : 8 ≤ pw e := by
  have h1 := pw_mono 3 e h
  have h2 : pw 3 = 8 := by decide
  omega
theorem sent_next {s : Pl} (h : OkL s) (now sys : Int) : ck now + 2 ≤ (sentS s now sys).next ∧ (sentS s now sys).next ≤ ck now + pw s.most := by
  have hm := pw_mono 3 s.most (by have := h.lo; have := h.le; have := h.em; omega)
  have h3 : pw 3 = 8 := by decide
  have key : ∀ t : Pl, OkL t → t.most = s.most → ck now + 2 ≤ (waitS t now).next ∧ (waitS t now).next ≤ ck now + pw s.most := by
    intro t ht hts
    have h1 := pw_ge t.exp (by have := ht.lo; have := ht.le; omega)
    have h2 := pw_mono t.exp s.most (by have := ht.em; omega)
    unfold waitS
    simp only
    split <;> omega
  have hk := OkL.sent h now sys
  unfold sentS at hk ⊢
  split at hk
  · rw [if_pos (by assumption)]
    exact key _ ⟨hk.lo, hk.le, hk.em, hk.hi, hk.r0, hk.r1, hk.g0, hk.g1, hk.l0, hk.l1⟩ rfl
  · rw [if_neg (by assumption)]
    exact key _ ⟨hk.lo, hk.le, hk.em, hk.hi, hk.r0, hk.r1, hk.g0, hk.g1, hk.l0, hk.l1⟩ rfl
end Go.Proofs.Ytocaiimhbmhakaa
