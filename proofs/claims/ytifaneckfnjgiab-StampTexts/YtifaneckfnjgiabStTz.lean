/- That the law StampTexts returns true. -/
import Derived.Test.YtifaneckfnjgiabRw
import Derived.Test.YtifaneckfnjgiabStTr
import Derived.Test.YtifaneckfnjgiabStTp
import Derived.WalkKit
import Derived.WalkSpells
import Derived.WalkLawsBesides
import Derived.Handy
import Derived.Below
import Derived.Deep.RegionHeld3
namespace Go.Proofs.Ytifaneckfnjgiab
open Go.RowKit

set_option maxHeartbeats 400000 in
theorem date_any (e p : Int) (w : World) :
    Calls Try.prog 14 #[.agg #[.int .i64 e, .int .u64 p]] w fun r w' => r = .returned (.agg #[.int .i64 e, .int .u64 p]) ∧ Below w.heap.size w w' := by
  go_enter Try.func14, Try.ntmps14
  go_wp2
  exact bodyPost_ret (v := .agg #[.int .i64 e, .int .u64 p]) (by simp [results, Try.results14, go_sem]) rfl ⟨rfl, (by repeat' (first | with_reducible exact Below.refl _ _ | with_reducible refine Below.setCell ?_ (by first | (simp; done) | (simp; omega) | omega) _ | with_reducible refine below_drewN ?_ _ | with_reducible refine Below.drew ?_ | with_reducible refine Below.alloc ?_ (by first | (simp; done) | (simp; omega) | omega) _))⟩
/-- the two variables of the law -/
structure Kt (w v : World) (A B : Nat) (E T : Int) : Prop where
  bel : Below w.heap.size w v
  a : R2 v A E T
  b : R2 v B E T
theorem Kt.step0 {w v v' : World} {A B : Nat} {E T : Int} (x : Kt w v A B E T) (hb : Below v.heap.size v v') : Kt w v' A B E T :=
  ⟨bel_step x.bel hb, x.a.step hb, x.b.step hb⟩
theorem Kt.step1 {w v v' : World} {A B : Nat} {E T : Int} (x : Kt w v A B E T) (hb : Below v.drew.heap.size v.drew v') : Kt w v' A B E T :=
  Kt.step0 (v := v.drew) ⟨x.bel.drew, x.a.drew, x.b.drew⟩ hb
set_option maxHeartbeats 8000000 in
theorem texts1 (s : ByteArray) (e t E T C : Int) (w : World) (t0 : 0 ≤ t) (t1 : t < 18446744073709551616) (HX : Hid (xE s = E ∧ xT s = T ∧ xC s = C)) (G0 : Hid (0 ≤ ds e t)) (G1 : Hid (ds e t < 66269577600)) :
    Calls Try.prog 5 #[.string s, .agg #[.int .i64 e, .int .u64 t]] w fun r w' => r = .returned (.bool true) ∧ Below w.heap.size w w' := by
  go_enter Try.func5, Try.ntmps5
  have P2 : Hid (R2 _ w.heap.size e t) := R2.new w e t 25
  go_wp2_with fail
  refine (shown_any _).mono ?_
  rintro r w1 ⟨rfl, hb⟩
  have P2a : Hid (R2 w1 w.heap.size e t) := P2.out.step hb
  have L1 : Hid (Below w.heap.size w w1) := by
    refine Below.trans ?_ (hb.mono (by simp))
    exact (by repeat' (first | with_reducible exact Below.refl _ _ | with_reducible refine Below.setCell ?_ (by first | (simp; done) | (simp; omega) | omega) _ | with_reducible refine below_drewN ?_ _ | with_reducible refine Below.drew ?_ | with_reducible refine Below.alloc ?_ (by first | (simp; done) | (simp; omega) | omega) _))
  clear hb P2
  go_wp2_with fail
  refine (parse_all s _).mono ?_
  rintro r w2 ⟨rfl, hb⟩
  rw [HX.out.1, HX.out.2.1, HX.out.2.2]
  have P2b : Hid (R2 w2 w.heap.size e t) := P2a.out.step hb
  have L2 : Hid (Below w.heap.size w w2) := bel_step L1.out hb
  have A2 : Hid (R2 _ w2.heap.size E T) := R2.new w2 E T 25
  clear hb P2a L1
  go_wp2_with fail
  refine (rparse_all s _).mono ?_
  rintro r w3 ⟨rfl, hb⟩
  rw [HX.out.1, HX.out.2.1, HX.out.2.2]
  have P2c : Hid (R2 w3 w.heap.size e t) := (P2b.out.alloc _).step hb
  have L3 : Hid (Below w.heap.size w w3) := bel_step (bel_alloc L2.out _) hb
  have A3 : Hid (R2 w3 w2.heap.size E T) := A2.out.step hb
  have B3 : Hid (R2 _ w3.heap.size E T) := R2.new w3 E T 38
  clear hb P2b L2 A2
  have u0 := P2c.out.c0
  have u1 := P2c.out.c1
  have z0 := P2c.out.top
  go_wp2_with fail
  refine (print_yes e t _ t0 t1 G0.out G1.out).mono ?_
  rintro r w4 ⟨y2, m2, d2, h2, n2, s2, rfl, hd2, ht2, hs2, hb⟩
  have Q : Hid (Cal.Day y2 m2 d2 ∧ Cal.Time h2 n2 s2 ∧ Cal.sec y2 m2 d2 h2 n2 s2 = ds e t) := ⟨hd2, ht2, hs2⟩
  clear hd2 ht2 hs2
  unfold yesP
  have P2d : Hid (R2 w4 w.heap.size e t) := (P2c.out.alloc _).step hb
  have L4 : Hid (Below w.heap.size w w4) := bel_step (bel_alloc L3.out _) hb
  have A4 : Hid (R2 w4 w2.heap.size E T) := (A3.out.alloc _).step hb
  have B4 : Hid (R2 w4 w3.heap.size E T) := B3.out.step hb
  clear hb P2c L3 A3 B3 u0 u1 z0
  have u0 := P2d.out.c0
  have u1 := P2d.out.c1
  go_wp2_with fail
  refine (date_any e t _).mono ?_
  rintro r w5 ⟨rfl, hb⟩
  have L5 : Hid (Below w.heap.size w w5) := bel_step L4.out hb
  have A5 : Hid (R2 w5 w2.heap.size E T) := A4.out.step hb
  have B5 : Hid (R2 w5 w3.heap.size E T) := B4.out.step hb
  clear hb P2d L4 A4 B4 u0 u1
  go_wp2_with fail
  refine (rprint_yes e t _ t0 t1 G0.out G1.out).mono ?_
  rintro r w6 ⟨y3, m3, d3, h3, n3, s3, rfl, hd3, ht3, hs3, hb⟩
  obtain ⟨x1, x2, x3, x4, x5, x6⟩ := Cal.sec_one hd3 ht3 Q.out.1 Q.out.2.1 (hs3.trans Q.out.2.2.symm)
  rw [x1, x2, x3, x4, x5, x6]
  clear x1 x2 x3 x4 x5 x6 hd3 ht3 hs3 Q
  unfold yesP
  generalize (⟨(Tx.txt (nums y2 m2 d2 h2 n2 s2 (t % 4294967296 * 1000000 / 4294967296))).toArray⟩ : ByteArray) = X
  have K : Hid (Kt w w6 w2.heap.size w3.heap.size E T) := ⟨bel_step L5.out hb, A5.out.step hb, B5.out.step hb⟩
  clear hb L5 A5 B5
  go_wp2_with fail
  go_region_held3 (fun w' => w'.cell? ⟨w2.heap.size, 0, none⟩ = some (.int .i64 E) ∧ w'.cell? ⟨w2.heap.size, 1, none⟩ = some (.int .u64 T) ∧ w'.cell? ⟨w3.heap.size, 0, none⟩ = some (.int .i64 E) ∧ w'.cell? ⟨w3.heap.size, 1, none⟩ = some (.int .u64 T)) (first | exact ⟨K.out.a.c0, K.out.a.c1, K.out.b.c0, K.out.b.c1⟩ | go_keep)
    ((go_at_call 14; refine (date_any E T _).mono ?_; rintro r w7 ⟨rfl, hb⟩; have K2 : Hid (Kt w w7 w2.heap.size w3.heap.size E T) := (by first | exact K.out.step0 hb | exact K.out.step1 hb); clear hb K; have K := K2; clear K2))
  all_goals
    go_wp2
    go_ret
    exact ⟨ret_bool' (by simp), K.out.bel⟩
set_option maxHeartbeats 8000000 in
theorem texts0 (s : ByteArray) (e t E T C : Int) (w : World) (t0 : 0 ≤ t) (t1 : t < 18446744073709551616) (HX : Hid (xE s = E ∧ xT s = T ∧ xC s = C)) (HG : Hid (ds e t < 0 ∨ 66269577600 ≤ ds e t)) :
    Calls Try.prog 5 #[.string s, .agg #[.int .i64 e, .int .u64 t]] w fun r w' => r = .returned (.bool true) ∧ Below w.heap.size w w' := by
  go_enter Try.func5, Try.ntmps5
  have P2 : Hid (R2 _ w.heap.size e t) := R2.new w e t 25
  go_wp2_with fail
  refine (shown_any _).mono ?_
  rintro r w1 ⟨rfl, hb⟩
  have P2a : Hid (R2 w1 w.heap.size e t) := P2.out.step hb
  have L1 : Hid (Below w.heap.size w w1) := by
    refine Below.trans ?_ (hb.mono (by simp))
    exact (by repeat' (first | with_reducible exact Below.refl _ _ | with_reducible refine Below.setCell ?_ (by first | (simp; done) | (simp; omega) | omega) _ | with_reducible refine below_drewN ?_ _ | with_reducible refine Below.drew ?_ | with_reducible refine Below.alloc ?_ (by first | (simp; done) | (simp; omega) | omega) _))
  clear hb P2
  go_wp2_with fail
  refine (parse_all s _).mono ?_
  rintro r w2 ⟨rfl, hb⟩
  rw [HX.out.1, HX.out.2.1, HX.out.2.2]
  have P2b : Hid (R2 w2 w.heap.size e t) := P2a.out.step hb
  have L2 : Hid (Below w.heap.size w w2) := bel_step L1.out hb
  have A2 : Hid (R2 _ w2.heap.size E T) := R2.new w2 E T 25
  clear hb P2a L1
  go_wp2_with fail
  refine (rparse_all s _).mono ?_
  rintro r w3 ⟨rfl, hb⟩
  rw [HX.out.1, HX.out.2.1, HX.out.2.2]
  have P2c : Hid (R2 w3 w.heap.size e t) := (P2b.out.alloc _).step hb
  have L3 : Hid (Below w.heap.size w w3) := bel_step (bel_alloc L2.out _) hb
  have A3 : Hid (R2 w3 w2.heap.size E T) := A2.out.step hb
  have B3 : Hid (R2 _ w3.heap.size E T) := R2.new w3 E T 38
  clear hb P2b L2 A2
  have u0 := P2c.out.c0
  have u1 := P2c.out.c1
  have z0 := P2c.out.top
  go_wp2_with fail
  refine (print_no e t _ t0 t1 HG.out).mono ?_
  rintro r w4 ⟨rfl, hb⟩
  unfold noP
  have P2d : Hid (R2 w4 w.heap.size e t) := (P2c.out.alloc _).step hb
  have L4 : Hid (Below w.heap.size w w4) := bel_step (bel_alloc L3.out _) hb
  have A4 : Hid (R2 w4 w2.heap.size E T) := (A3.out.alloc _).step hb
  have B4 : Hid (R2 w4 w3.heap.size E T) := B3.out.step hb
  clear hb P2c L3 A3 B3 u0 u1 z0
  have u0 := P2d.out.c0
  have u1 := P2d.out.c1
  go_wp2_with fail
  refine (date_any e t _).mono ?_
  rintro r w5 ⟨rfl, hb⟩
  have L5 : Hid (Below w.heap.size w w5) := bel_step L4.out hb
  have A5 : Hid (R2 w5 w2.heap.size E T) := A4.out.step hb
  have B5 : Hid (R2 w5 w3.heap.size E T) := B4.out.step hb
  clear hb P2d L4 A4 B4 u0 u1
  go_wp2_with fail
  refine (rprint_no e t _ t0 t1 HG.out).mono ?_
  rintro r w6 ⟨rfl, hb⟩
  unfold noP
  have K : Hid (Kt w w6 w2.heap.size w3.heap.size E T) := ⟨bel_step L5.out hb, A5.out.step hb, B5.out.step hb⟩
  clear hb L5 A5 B5
  go_wp2_with fail
  go_region_held3 (fun w' => w'.cell? ⟨w2.heap.size, 0, none⟩ = some (.int .i64 E) ∧ w'.cell? ⟨w2.heap.size, 1, none⟩ = some (.int .u64 T) ∧ w'.cell? ⟨w3.heap.size, 0, none⟩ = some (.int .i64 E) ∧ w'.cell? ⟨w3.heap.size, 1, none⟩ = some (.int .u64 T)) (first | exact ⟨K.out.a.c0, K.out.a.c1, K.out.b.c0, K.out.b.c1⟩ | go_keep)
    ((go_at_call 14; refine (date_any E T _).mono ?_; rintro r w7 ⟨rfl, hb⟩; have K2 : Hid (Kt w w7 w2.heap.size w3.heap.size E T) := (by first | exact K.out.step0 hb | exact K.out.step1 hb); clear hb K; have K := K2; clear K2))
  all_goals
    go_wp2
    go_ret
    exact ⟨ret_bool' (by simp), K.out.bel⟩
theorem StampTexts_row (s : ByteArray) (e t : Int) (w : World) (_w0 : s.size ≤ maxLen) (_w1 : (Lit.int .i64 e).wf = true) (w2 : (Lit.int .u64 t).wf = true) :
    Calls Try.prog 5 #[.string s, .agg #[.int .i64 e, .int .u64 t]] w fun r w' => r = .returned (.bool true) ∧ Below w.heap.size w w' := by
  obtain ⟨t0, t1⟩ := bounds_u64 w2
  by_cases g : ds e t < 0 ∨ 66269577600 ≤ ds e t
  · exact texts0 s e t _ _ _ w t0 (by omega) ⟨rfl, rfl, rfl⟩ g
  · exact texts1 s e t _ _ _ w t0 (by omega) ⟨rfl, rfl, rfl⟩ (show _ ≤ _ by omega) (show _ < _ by omega)
end Go.Proofs.Ytifaneckfnjgiab
