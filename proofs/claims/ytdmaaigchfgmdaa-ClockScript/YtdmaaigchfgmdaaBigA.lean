/- What trim and compare of the reference's whole numbers return. -/
import Derived.Test.YtdmaaigchfgmdaaRows
import Derived.Test.YtdmaaigchfgmdaaBigM
import Derived.WalkKit
import Derived.ProofKit
import Derived.WalkSpells
import Derived.WalkLawsBesides
import Derived.Deep.QuietTactic
import Derived.BigQuiet
namespace Go.Proofs.Ytdmaaigchfgmdaa
open Go.RowKit
/-- a slice at an address reads as these digits -/
def Rd (w : World) (ao : Option Addr) (ds : List Nat) : Prop := ∀ k, k < ds.length → ∃ b, ao = some ⟨b, 0, none⟩ ∧ b < w.heap.size ∧ w.cell? ⟨b, k, none⟩ = some (.int .i64 ((ds.getD k 0 : Nat) : Int))
theorem Rd.below {B : Nat} {w w' : World} {ao : Option Addr} {ds : List Nat} (h : Rd w ao ds) (hb : Below B w w') (hB : w.heap.size ≤ B) : Rd w' ao ds := fun k hk => by
  obtain ⟨b, h1, h2, h3⟩ := h k hk
  exact ⟨b, h1, Nat.lt_of_lt_of_le h2 hb.size, (hb.cell (p := ⟨b, k, none⟩) (Nat.lt_of_lt_of_le h2 hB)).trans h3⟩
theorem Rd.drew {w : World} {ao : Option Addr} {ds : List Nat} (h : Rd w ao ds) (n : Nat) : Rd (w.drewN n) ao ds := h
theorem Rd.take {w : World} {ao : Option Addr} {ds : List Nat} (h : Rd w ao ds) (m : Nat) : Rd w ao (ds.take m) := fun k hk => by
  rw [List.length_take] at hk
  obtain ⟨b, h1, h2, h3⟩ := h k (by omega)
  refine ⟨b, h1, h2, ?_⟩
  rw [Bg.getD_at _ _ (by rw [List.length_take]; omega), List.getElem_take, ← Bg.getD_at _ _ (by omega)]
  exact h3
theorem below_drewN {B : Nat} {a w : World} (h : Below B a w) (n : Nat) : Below B a (w.drewN n) := ⟨h.os, h.tape, h.output, h.size, h.block⟩
theorem w_drew2 (w : World) (n m : Nat) : ∃ k, (w.drewN n).drewN m = w.drewN k := ⟨n + m, by simp [World.drewN, Nat.add_assoc]⟩
theorem drew3 (w : World) (n m k : Nat) : ((w.drewN n).drewN m).drewN k = w.drewN (n + m + k) := by simp [World.drewN, Nat.add_assoc]
theorem cells_int : Try.prog.cellsOf 3 = 1 := by kernel_rfl
theorem idx_run {ao : Option Addr} {b : Nat} (n cap k : Nat) (i : Int) (h : ao = some ⟨b, 0, none⟩) (hi : i = (k : Int)) (hk : (k : Int) < n) (w : World) : Sem.run Try.prog (Instr.indexAt 50 (.slice ao n cap) (.int .i64 i)) w = .ok (.pointer (some ⟨b, k, none⟩)) w := by
  subst h hi
  have u46 := Try.underlying50
  have u3 := Try.underlying3
  have c3 := cells_int
  have h0 : (0 : Int) ≤ k := Int.natCast_nonneg k
  go_simp
theorem Rd.at {w : World} {ao : Option Addr} {ds : List Nat} (h : Rd w ao ds) (hd : Bg.dok ds) (k : Nat) (hk : k < ds.length) :
    ∃ (b : Nat) (x : Int), Hid (ao = some ⟨b, 0, none⟩) ∧ b < w.heap.size ∧ w.cell? ⟨b, k, none⟩ = some (.int .i64 x) ∧ Hid (x = ((ds.getD k 0 : Nat) : Int)) ∧ 0 ≤ x ∧ x ≤ 65535 := by
  obtain ⟨b, h1, h2, h3⟩ := h k hk
  have := Bg.dok_getD hd k
  exact ⟨b, _, h1, h2, h3, rfl, Int.natCast_nonneg _, by omega⟩
set_option maxHeartbeats 400000 in
theorem trim_any (ao : Option Addr) (ds : List Nat) (cap : Nat) (w : World) (hn1 : (ds.length : Int) ≤ 1000000) (hc : (ds.length : Int) ≤ cap) (hr : Rd w ao ds) (hd : Bg.dok ds) :
    Calls Try.prog 71 #[.slice ao ds.length cap] w fun e w' => ∃ m, e = .returned (.slice ao m cap) ∧ m ≤ ds.length ∧ Bg.can (ds.take m) ∧ Bg.val (ds.take m) = Bg.val ds ∧ w' = w := by
  have hr' : Hid (Rd w ao ds) := hr
  have hd' : Hid (Bg.dok ds) := hd
  clear hr hd
  go_enter Try.func71, Try.ntmps71
  go_wp2
  go_loop [3] (fun i => ∃ m : Nat, i = .int .i64 (m : Int) ∧ (m : Int) ≤ ds.length ∧ Hid (Bg.val (ds.drop m) = 0)) (fun i => (intOf i).toNat)
  case atStart => exact ⟨ds.length, rfl, by omega, Bg.val_cmp_zero ds⟩
  case round =>
    obtain ⟨m, rfl, hm, hz⟩ := hrel
    rcases m with _ | m
    · go_wp2
      go_ret
      obtain ⟨t1, t2⟩ := Bg.trimmed ds 0 hd'.out (by omega) hz.out (Or.inl rfl)
      exact ⟨0, rfl, by omega, t1, t2, rfl⟩
    · obtain ⟨b, x, h1, h2, h3, hx, x0, x1⟩ := hr'.out.at hd'.out m (by omega)
      have hi : ∀ w, Sem.run Try.prog (Instr.indexAt 50 (.slice ao ds.length cap) (.int .i64 (m : Int))) w = .ok (.pointer (some ⟨b, m, none⟩)) w := idx_run ds.length cap m m h1.out rfl (by omega)
      have hm' : (m : Int) + 1 ≤ ds.length := by omega
      by_cases hq : (x == 0) = true
      · have hq' : x = 0 := by simpa using hq
        have hq2 : Hid (ds.getD m 0 = 0) := by have := hx.out; show _ = _; omega
        clear hq'
        go_wp2
        go_round
        case rel => exact ⟨m, rfl, by omega, Bg.drop_zero ds m (by omega) hz.out hq2.out⟩
        case measure => simp [intOf]
      · have hq' : (x == 0) = false := by simpa using hq
        have hq2 : Hid (ds.getD m 0 ≠ 0) := by have := hx.out; have : x ≠ 0 := by simpa using hq'
                                               show _ ≠ _; omega
        clear hq
        go_wp2
        go_ret
        obtain ⟨t1, t2⟩ := Bg.trimmed ds (m + 1) hd'.out (by omega) hz.out (Or.inr (by simpa using hq2.out))
        exact ⟨m + 1, rfl, by omega, t1, t2, rfl⟩
set_option maxHeartbeats 1000000 in
theorem compare_any (ao bo : Option Addr) (A B : List Nat) (ca cb : Nat) (w : World) (hA : (A.length : Int) ≤ 1000000) (_hB : (B.length : Int) ≤ 1000000) (ra : Rd w ao A) (rb : Rd w bo B) (da : Bg.can A) (db : Bg.can B) :
    Calls Try.prog 52 #[.slice ao A.length ca, .slice bo B.length cb] w fun e w' => ∃ r : Int, e = .returned (.int .i64 r) ∧ ((r = -1 ∧ Bg.val A < Bg.val B) ∨ (r = 0 ∧ Bg.val A = Bg.val B) ∨ (r = 1 ∧ Bg.val B < Bg.val A)) ∧ ∃ n, w' = w.drewN n := by
  have ra' : Hid (Rd w ao A) := ra
  have rb' : Hid (Rd w bo B) := rb
  have da' : Hid (Bg.can A) := da
  have db' : Hid (Bg.can B) := db
  clear ra rb da db
  by_cases hl : ((A.length : Int) == B.length) = true
  · have hl' : A.length = B.length := by have : (A.length : Int) = B.length := by simpa using hl
                                         omega
    have hl2 : Hid (A.length = B.length) := hl'
    have hl3 : ((A.length : Int) != B.length) = false := by rw [bne_eq_false_iff_eq]; omega
    clear hl' hl
    go_enter Try.func52, Try.ntmps52
    go_wp2
    go_loopw [5] (fun i wr => ∃ (j : Int) (n : Nat), i = .int .i64 j ∧ -1 ≤ j ∧ j < A.length ∧ wr = w.drewN n ∧ Hid (Bg.val (A.drop (j + 1).toNat) = Bg.val (B.drop (j + 1).toNat))) (fun i _ => (intOf i + 1).toNat)
    case atStart => exact ⟨(A.length : Int) - 1, 0, rfl, by omega, by omega, rfl, by show _ = _; rw [show ((A.length : Int) - 1 + 1).toNat = A.length from by omega, Bg.val_cmp_zero, hl2.out, Bg.val_cmp_zero]⟩
    case round =>
      obtain ⟨j, n, rfl, hj0, hj1, rfl, hz⟩ := hrel
      by_cases hj : j < 0
      · go_wp2
        go_ret
        refine ⟨0, rfl, Or.inr (Or.inl ⟨rfl, ?_⟩), _, rfl⟩
        have := hz.out
        rw [show (j + 1).toNat = 0 from by omega] at this
        simpa using this
      · have hlen := hl2.out
        obtain ⟨b, x, h1, h2, h3, hx, x0, x1⟩ := ra'.out.at da'.out.1 j.toNat (by omega)
        obtain ⟨c, y, g1, g2, g3, hy, y0, y1⟩ := rb'.out.at db'.out.1 j.toNat (by omega)
        have hi : ∀ w, Sem.run Try.prog (Instr.indexAt 50 (.slice ao A.length ca) (.int .i64 j)) w = .ok (.pointer (some ⟨b, j.toNat, none⟩)) w := idx_run A.length ca j.toNat j h1.out (by omega) (by omega)
        have hk : ∀ w, Sem.run Try.prog (Instr.indexAt 50 (.slice bo B.length cb) (.int .i64 j)) w = .ok (.pointer (some ⟨c, j.toNat, none⟩)) w := idx_run B.length cb j.toNat j g1.out (by omega) (by omega)
        have hz2 : Hid (Bg.val (A.drop (j.toNat + 1)) = Bg.val (B.drop (j.toNat + 1))) := by
          have := hz.out
          rw [show (j + 1).toNat = j.toNat + 1 from by omega] at this
          exact this
        clear hlen hz
        by_cases c1 : x < y
        · go_wp2
          go_quiet (fail)
          go_wp2
          go_ret
          refine ⟨-1, rfl, Or.inl ⟨rfl, ?_⟩, w_drew2 _ _ _⟩
          exact Bg.cmp_at da'.out.1 j.toNat (by omega) hl2.out hz2.out (by have := hx.out; have := hy.out; omega)
        by_cases c2 : y < x
        · go_wp2
          go_quiet (fail)
          go_wp2
          go_quiet (fail)
          go_wp2
          go_ret
          refine ⟨1, rfl, Or.inr (Or.inr ⟨rfl, ?_⟩), _, drew3 _ _ _ _⟩
          have hlen := hl2.out
          exact Bg.cmp_at db'.out.1 j.toNat (by omega) hlen.symm hz2.out.symm (by have := hx.out; have := hy.out; omega)
        go_wp2
        go_quiet (fail)
        go_wp2
        go_quiet (fail)
        go_wp2
        go_roundw
        case rel =>
          refine ⟨j - 1, _, by go_num, by omega, by omega, rfl, ?_⟩
          have hlen := hl2.out
          show _ = _
          rw [show (j - 1 + 1).toNat = j.toNat from by omega]
          exact Bg.drop_same j.toNat (by omega) hlen hz2.out (by have := hx.out; have := hy.out; omega)
        case measure => simp [intOf]; omega
  · have hl' : ((A.length : Int) == B.length) = false := by simpa using hl
    have hne : A.length ≠ B.length := by
      have : (A.length : Int) ≠ B.length := by simpa using hl'
      omega
    have hne' : Hid (A.length ≠ B.length) := hne
    have hl3 : ((A.length : Int) != B.length) = true := by rw [bne_iff_ne]; omega
    clear hl hl' hne
    by_cases c1 : (A.length : Int) < B.length
    · go_enter Try.func52, Try.ntmps52
      go_wp2
      go_ret
      exact ⟨-1, rfl, Or.inl ⟨rfl, Bg.cmp_len da'.out.1 db'.out (by omega)⟩, 0, rfl⟩
    · go_enter Try.func52, Try.ntmps52
      go_wp2
      go_ret
      exact ⟨1, rfl, Or.inr (Or.inr ⟨rfl, Bg.cmp_len db'.out.1 da'.out (by have := hne'.out; omega)⟩), 0, rfl⟩
end Go.Proofs.Ytdmaaigchfgmdaa
