/- Packets of time in memory; what the small functions of package wire return on them: within of spans, modeFits, dataFits, the function of extsFit. -/
import Derived.Test.YtdobghhjlfffpaaWE
namespace Go.Proofs.Ytdobghhjlfffpaa
open Go.RowKit
/-- the numbers of a packet's header -/
structure Hd where
  leap : Int
  ver : Int
  mode : Int
  str : Int
  poll : Int
  prec : Int
  del : Int
  dis : Int
  rid : Int
  t0 : Int
  t1 : Int
  t2 : Int
  t3 : Int
/-- a packet of time as a value -/
def pkV (h : Hd) (ev : Value) (key : Int) (nak : Bool) (mv : Value) : Value :=
  .agg #[.int .i64 h.leap, .int .i64 h.ver, .int .i64 h.mode, .int .i64 h.str, .int .i64 h.poll, .int .i64 h.prec, .int .i64 h.del, .int .i64 h.dis, .int .u32 h.rid, .int .u64 h.t0, .int .u64 h.t1, .int .u64 h.t2, .int .u64 h.t3, ev, .int .i64 key, .bool nak, mv]
/-- a field: its type, its Data as a value and as bytes -/
structure Xt where
  ty : Int
  dv : Value
  dat : List Int
/-- a slice of fields below block N -/
def Es (N : Nat) (w : World) (v : Value) (xs : List Xt) : Prop := ∃ ao cap, v = .slice ao xs.length cap ∧ xs.length ≤ cap ∧ (ao = none → cap = 0) ∧
  ∀ i (hi : i < xs.length), ∃ ad, ao = some ad ∧ ad.block < N ∧ w.cell? (ad.add (2 * i)) = some (.int .i64 xs[i].ty) ∧ w.cell? (ad.add (2 * i + 1)) = some xs[i].dv ∧ Sv N w xs[i].dv xs[i].dat
theorem Es.below {N B : Nat} {w w' : World} {v : Value} {xs : List Xt} (h : Es N w v xs) (hb : Below B w w') (hB : N ≤ B) : Es N w' v xs := by
  obtain ⟨ao, cap, h1, h2, h3, h4⟩ := h
  refine ⟨ao, cap, h1, h2, h3, fun i hi => ?_⟩
  obtain ⟨ad, g1, g2, g3, g4, g5⟩ := h4 i hi
  exact ⟨ad, g1, g2, (hb.cell (p := ad.add (2 * i)) (by rw [add_block]; omega)).trans g3, (hb.cell (p := ad.add (2 * i + 1)) (by rw [add_block]; omega)).trans g4, g5.below hb hB⟩
theorem Es.mono {N M : Nat} {w : World} {v : Value} {xs : List Xt} (h : Es N w v xs) (hN : N ≤ M) : Es M w v xs := by
  obtain ⟨ao, cap, h1, h2, h3, h4⟩ := h
  refine ⟨ao, cap, h1, h2, h3, fun i hi => ?_⟩
  obtain ⟨ad, g1, g2, g3, g4, g5⟩ := h4 i hi
  exact ⟨ad, g1, Nat.lt_of_lt_of_le g2 hN, g3, g4, g5.mono hN⟩
set_option maxHeartbeats 400000 in
theorem withinS_any (n a b : Int) (w : World) :
    Calls Try.prog 50 #[.int .i64 n, .int .i64 a, .int .i64 b] w fun e w' => e = .returned (.bool (wiB n a b)) ∧ w' = w := by
  go_enter Try.func50, Try.ntmps50
  go_wp2
  all_goals
    go_ret
    exact ⟨ret_bool' (by unfold wiB; rw [Bool.eq_iff_iff]; simp at *; omega), rfl⟩
set_option maxHeartbeats 400000 in
theorem modeFits_any (n : Int) (w : World) :
    Calls Try.prog 37 #[.int .i64 n] w fun e w' => e = .returned (.bool (wiB n 1 5)) ∧ w' = w := by
  go_enter Try.func37, Try.ntmps37
  go_wp2_with (go_at_call 49; refine (within_any _ _ _ _).mono ?_; rintro e w' ⟨rfl, rfl⟩)
  go_ret
  exact ⟨rfl, rfl⟩
set_option maxHeartbeats 400000 in
theorem fromShort_max (w : World) :
    Calls Try.prog 51 #[.int .u32 4294967295] w fun e w' => e = .returned (.int .i64 281474976645120) ∧ w' = w := by
  go_enter Try.func51, Try.ntmps51
  go_wp2
  go_ret
  exact ⟨rfl, rfl⟩
/-- may Data have so many bytes? -/
def dtB (n : Int) : Bool := decide (24 ≤ n ∧ n % 4 = 0)
set_option maxHeartbeats 400000 in
theorem dataFits_any (n : Int) (w : World) :
    Calls Try.prog 54 #[.int .i64 n] w fun e w' => e = .returned (.bool (dtB n)) ∧ w' = w := by
  by_cases h : 24 ≤ n
  · have e4 : n.tmod 4 = n % 4 := Int.tmod_eq_emod_of_nonneg (by omega)
    obtain ⟨M, hM⟩ : ∃ M, n % 4 = M := ⟨_, rfl⟩
    rw [hM] at e4
    have HD : Hid (dtB n = (M == 0)) := by show _ = _; unfold dtB; rw [hM, Bool.eq_iff_iff, decide_eq_true_iff, beq_iff_eq]; exact ⟨fun x => x.2, fun x => ⟨h, x⟩⟩
    clear hM
    go_enter Try.func54, Try.ntmps54
    go_wp2
    go_ret
    exact ⟨ret_bool' HD.out.symm, rfl⟩
  · have HD : Hid (dtB n = false) := by show _ = _; unfold dtB; rw [decide_eq_false]; exact fun x => h x.1
    go_enter Try.func54, Try.ntmps54
    go_wp2
    go_ret
    exact ⟨ret_bool' HD.out.symm, rfl⟩
/-- may a field be? -/
def xtB (ty : Int) (n : Nat) : Bool := wiB ty 0 65535 && dtB n
set_option maxHeartbeats 1000000 in
theorem extFit_any (ty : Int) (ao : Option Addr) (n cap : Nat) (w : World) :
    Calls Try.prog 53 #[.agg #[.int .i64 ty, .slice ao n cap]] w fun e w' => e = .returned (.bool (!xtB ty n)) ∧ Below w.heap.size w w' := by
  obtain ⟨D, hD⟩ : ∃ D, D = dtB n := ⟨_, rfl⟩
  have HD : Hid (∀ w, Calls Try.prog 54 #[.int .i64 (n : Int)] w fun e w' => e = .returned (.bool D) ∧ w' = w) := fun w => by rw [hD]; exact dataFits_any n w
  have HDD : Hid (D = dtB n) := hD
  clear hD
  cases hx : wiB ty 0 65535
  · go_enter Try.func53, Try.ntmps53
    go_wp2_with (first | (go_at_call 49; refine (within_any _ _ _ _).mono ?_; rintro e w' ⟨rfl, rfl⟩))
    go_ret
    exact ⟨ret_bool' (by unfold xtB; rw [hx]; rfl), (by repeat' (first | with_reducible exact Below.refl _ _ | with_reducible refine Below.setCell ?_ (by first | (simp; done) | (simp; omega) | omega) _ | with_reducible refine below_drewN ?_ _ | with_reducible refine Below.drew ?_ | with_reducible refine Below.alloc ?_ (by first | (simp; done) | (simp; omega) | omega) _))⟩
  · go_enter Try.func53, Try.ntmps53
    go_wp2_with (first | (go_at_call 49; refine (within_any _ _ _ _).mono ?_; rintro e w' ⟨rfl, rfl⟩) | (go_at_call 54; refine (HD.out _).mono ?_; rintro e w' ⟨rfl, rfl⟩))
    go_ret
    exact ⟨ret_bool' (by unfold xtB; rw [hx, HDD.out]; rfl), (by repeat' (first | with_reducible exact Below.refl _ _ | with_reducible refine Below.setCell ?_ (by first | (simp; done) | (simp; omega) | omega) _ | with_reducible refine below_drewN ?_ _ | with_reducible refine Below.drew ?_ | with_reducible refine Below.alloc ?_ (by first | (simp; done) | (simp; omega) | omega) _))⟩
end Go.Proofs.Ytdobghhjlfffpaa
