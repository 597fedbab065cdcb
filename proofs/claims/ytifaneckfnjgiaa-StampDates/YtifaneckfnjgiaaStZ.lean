/- That the law StampDates returns true. -/
import Derived.Test.YtifaneckfnjgiaaRw
import Derived.Test.YtifaneckfnjgiaaStV
import Derived.Test.YtifaneckfnjgiaaStSc
import Derived.WalkKit
import Derived.WalkSpells
import Derived.WalkLawsBesides
import Derived.Handy
import Derived.Below
import Derived.Deep.RegionHeld3
namespace Go.Proofs.Ytifaneckfnjgiaa
open Go.RowKit

/-- the four variables of the law -/
structure Kz (w v : World) (A B G I : Nat) (y m d h n s f E T : Int) : Prop where
  bel : Below w.heap.size w v
  a : R7 v A y m d h n s f
  b : R7 v B y m d h n s f
  g : R2 v G E T
  i : R2 v I E T
theorem Kz.step0 {w v v' : World} {A B G I : Nat} {y m d h n s f E T : Int} (x : Kz w v A B G I y m d h n s f E T) (hb : Below v.heap.size v v') : Kz w v' A B G I y m d h n s f E T :=
  ⟨bel_step x.bel hb, x.a.step hb, x.b.step hb, x.g.step hb, x.i.step hb⟩
theorem Kz.step1 {w v v' : World} {A B G I : Nat} {y m d h n s f E T : Int} (x : Kz w v A B G I y m d h n s f E T) (hb : Below v.drew.heap.size v.drew v') : Kz w v' A B G I y m d h n s f E T :=
  Kz.step0 (v := v.drew) ⟨x.bel.drew, x.a.drew, x.b.drew, x.g.drew, x.i.drew⟩ hb
set_option maxHeartbeats 8000000 in
theorem dates1 (e t y m d h n s f : Int) (w : World) (t0 : 0 ≤ t) (t1 : t < 18446744073709551616) (f0 : 0 ≤ f) (f1 : f < 4294967296) (G0 : Hid (0 ≤ ds e t)) (G1 : Hid (ds e t < 66269577600)) :
    Calls Try.prog 8 #[.agg #[.int .i64 e, .int .u64 t], .agg #[.int .i64 y, .int .i64 m, .int .i64 d, .int .i64 h, .int .i64 n, .int .i64 s, .int .u32 f]] w fun r w' => r = .returned (.bool true) ∧ Below w.heap.size w w' := by
  go_enter Try.func8, Try.ntmps8
  have P2 : Hid (R2 _ w.heap.size e t) := R2.alloc (R2.new w e t 35) (.cells #[.int .i64 y, .int .i64 m, .int .i64 d, .int .i64 h, .int .i64 n, .int .i64 s, .int .u32 f] 43)
  have P7 := R7.new (w.alloc (.cells #[.int .i64 e, .int .u64 t] 35)) y m d h n s f 43
  simp only [World.size_alloc] at P7
  have P7' := show Hid _ from P7
  clear P7
  go_wp2_with fail
  refine (shown_any _).mono ?_
  rintro r w1 ⟨rfl, hb⟩
  have P2a : Hid (R2 w1 w.heap.size e t) := P2.out.step hb
  have P7a : Hid (R7 w1 (w.heap.size + 1) y m d h n s f) := P7'.out.step hb
  have L1 : Hid (Below w.heap.size w w1) := by
    refine Below.trans ?_ (hb.mono (by simp; omega))
    exact (by repeat' (first | with_reducible exact Below.refl _ _ | with_reducible refine Below.setCell ?_ (by first | (simp; done) | (simp; omega) | omega) _ | with_reducible refine below_drewN ?_ _ | with_reducible refine Below.drew ?_ | with_reducible refine Below.alloc ?_ (by first | (simp; done) | (simp; omega) | omega) _))
  clear hb P2 P7'
  have u0 := P2a.out.c0
  have u1 := P2a.out.c1
  go_wp2_with fail
  refine (ofDate_yes e t _ t0 t1 G0.out G1.out).mono ?_
  rintro r w2 ⟨y2, m2, d2, h2, n2, s2, rfl, hd2, ht2, hs2, hb⟩
  have Q : Hid (Cal.Day y2 m2 d2 ∧ Cal.Time h2 n2 s2 ∧ Cal.sec y2 m2 d2 h2 n2 s2 = ds e t) := ⟨hd2, ht2, hs2⟩
  clear hd2 ht2 hs2
  unfold yesC
  have P2b : Hid (R2 w2 w.heap.size e t) := P2a.out.step hb
  have P7b : Hid (R7 w2 (w.heap.size + 1) y m d h n s f) := P7a.out.step hb
  have L2 : Hid (Below w.heap.size w w2) := bel_step L1.out hb
  have A2 : Hid (R7 _ w2.heap.size y2 m2 d2 h2 n2 s2 (t % 4294967296)) := R7.new w2 y2 m2 d2 h2 n2 s2 (t % 4294967296) 43
  clear hb P2a P7a L1 u0 u1
  have u0 := P2b.out.c0
  have u1 := P2b.out.c1
  have z0 := P2b.out.top
  go_wp2_with fail
  refine (date_any e t _).mono ?_
  rintro r w3 ⟨rfl, hb⟩
  have P7c : Hid (R7 w3 (w.heap.size + 1) y m d h n s f) := (P7b.out.alloc _).step hb
  have L3 : Hid (Below w.heap.size w w3) := bel_step (bel_alloc L2.out _) hb
  have A3 : Hid (R7 w3 w2.heap.size y2 m2 d2 h2 n2 s2 (t % 4294967296)) := A2.out.step hb
  clear hb P2b P7b L2 A2 u0 u1 z0
  go_wp2_with fail
  refine (rofDate_yes e t _ t0 t1 G0.out G1.out).mono ?_
  rintro r w4 ⟨y3, m3, d3, h3, n3, s3, rfl, hd3, ht3, hs3, hb⟩
  obtain ⟨x1, x2, x3, x4, x5, x6⟩ := Cal.sec_one hd3 ht3 Q.out.1 Q.out.2.1 (hs3.trans Q.out.2.2.symm)
  rw [x1, x2, x3, x4, x5, x6]
  clear x1 x2 x3 x4 x5 x6 hd3 ht3 hs3 Q
  unfold yesC
  have P7d : Hid (R7 w4 (w.heap.size + 1) y m d h n s f) := P7c.out.step hb
  have L4 : Hid (Below w.heap.size w w4) := bel_step L3.out hb
  have A4 : Hid (R7 w4 w2.heap.size y2 m2 d2 h2 n2 s2 (t % 4294967296)) := A3.out.step hb
  have B4 : Hid (R7 _ w4.heap.size y2 m2 d2 h2 n2 s2 (t % 4294967296)) := R7.new w4 y2 m2 d2 h2 n2 s2 (t % 4294967296) 47
  clear hb P7c L3 A3
  have u0 := P7d.out.c0
  have u1 := P7d.out.c1
  have u2 := P7d.out.c2
  have u3 := P7d.out.c3
  have u4 := P7d.out.c4
  have u5 := P7d.out.c5
  have u6 := P7d.out.c6
  have z0 := P7d.out.top
  go_wp2_with fail
  refine (toDate_any y m d h n s f _ f0 f1).mono ?_
  rintro r w5 ⟨rfl, hb⟩
  have P7e : Hid (R7 w5 (w.heap.size + 1) y m d h n s f) := (P7d.out.alloc _).step hb
  have L5 : Hid (Below w.heap.size w w5) := bel_step (bel_alloc L4.out _) hb
  have A5 : Hid (R7 w5 w2.heap.size y2 m2 d2 h2 n2 s2 (t % 4294967296)) := (A4.out.alloc _).step hb
  have B5 : Hid (R7 w5 w4.heap.size y2 m2 d2 h2 n2 s2 (t % 4294967296)) := B4.out.step hb
  obtain ⟨E, hE⟩ : ∃ E, E = dE y m d h n s := ⟨_, rfl⟩
  obtain ⟨T, hT⟩ : ∃ T, T = dT y m d h n s f := ⟨_, rfl⟩
  obtain ⟨C, hC⟩ : ∃ C, C = dC y m d h n s := ⟨_, rfl⟩
  rw [← hE, ← hT, ← hC]
  have HE : Hid (dE y m d h n s = E ∧ dT y m d h n s f = T ∧ dC y m d h n s = C) := ⟨hE.symm, hT.symm, hC.symm⟩
  have G5 : Hid (R2 _ w5.heap.size E T) := R2.new w5 E T 35
  clear hb P7d L4 A4 B4 u0 u1 u2 u3 u4 u5 u6 z0 hE hT hC
  have u0 := P7e.out.c0
  have u1 := P7e.out.c1
  have u2 := P7e.out.c2
  have u3 := P7e.out.c3
  have u4 := P7e.out.c4
  have u5 := P7e.out.c5
  have u6 := P7e.out.c6
  have z0 := P7e.out.top
  go_wp2_with fail
  refine (rtoDate_any y m d h n s f _ f0 f1).mono ?_
  rintro r w6 ⟨rfl, hb⟩
  rw [HE.out.1, HE.out.2.1, HE.out.2.2]
  have K : Hid (Kz w (w6.alloc (.cells #[.int .i64 E, .int .u64 T] 36)) w2.heap.size w4.heap.size w5.heap.size w6.heap.size y2 m2 d2 h2 n2 s2 (t % 4294967296) E T) :=
    ⟨bel_alloc (bel_step (bel_alloc L5.out _) hb) _, ((A5.out.alloc _).step hb).alloc _, ((B5.out.alloc _).step hb).alloc _, (G5.out.step hb).alloc _, R2.new w6 E T _⟩
  clear hb P7e L5 A5 B5 G5 u0 u1 u2 u3 u4 u5 u6 z0 HE
  go_wp2_with fail
  go_region_held3 (fun w' => w'.cell? ⟨w2.heap.size, 0, none⟩ = some (.int .i64 y2) ∧ w'.cell? ⟨w2.heap.size, 1, none⟩ = some (.int .i64 m2) ∧ w'.cell? ⟨w2.heap.size, 2, none⟩ = some (.int .i64 d2) ∧ w'.cell? ⟨w2.heap.size, 3, none⟩ = some (.int .i64 h2) ∧ w'.cell? ⟨w2.heap.size, 4, none⟩ = some (.int .i64 n2) ∧ w'.cell? ⟨w2.heap.size, 5, none⟩ = some (.int .i64 s2) ∧ w'.cell? ⟨w2.heap.size, 6, none⟩ = some (.int .u32 (t % 4294967296)) ∧ w'.cell? ⟨w4.heap.size, 0, none⟩ = some (.int .i64 y2) ∧ w'.cell? ⟨w4.heap.size, 1, none⟩ = some (.int .i64 m2) ∧ w'.cell? ⟨w4.heap.size, 2, none⟩ = some (.int .i64 d2) ∧ w'.cell? ⟨w4.heap.size, 3, none⟩ = some (.int .i64 h2) ∧ w'.cell? ⟨w4.heap.size, 4, none⟩ = some (.int .i64 n2) ∧ w'.cell? ⟨w4.heap.size, 5, none⟩ = some (.int .i64 s2) ∧ w'.cell? ⟨w4.heap.size, 6, none⟩ = some (.int .u32 (t % 4294967296)) ∧ w'.cell? ⟨w5.heap.size, 0, none⟩ = some (.int .i64 E) ∧ w'.cell? ⟨w5.heap.size, 1, none⟩ = some (.int .u64 T) ∧ w'.cell? ⟨w6.heap.size, 0, none⟩ = some (.int .i64 E) ∧ w'.cell? ⟨w6.heap.size, 1, none⟩ = some (.int .u64 T)) (first | exact ⟨K.out.a.c0, K.out.a.c1, K.out.a.c2, K.out.a.c3, K.out.a.c4, K.out.a.c5, K.out.a.c6, K.out.b.c0, K.out.b.c1, K.out.b.c2, K.out.b.c3, K.out.b.c4, K.out.b.c5, K.out.b.c6, K.out.g.c0, K.out.g.c1, K.out.i.c0, K.out.i.c1⟩ | go_keep)
    ((go_at_call 18; refine (date_any E T _).mono ?_; rintro r w7 ⟨rfl, hb⟩; have K2 : Hid (Kz w w7 w2.heap.size w4.heap.size w5.heap.size w6.heap.size y2 m2 d2 h2 n2 s2 (t % 4294967296) E T) := (by first | exact K.out.step0 hb | exact K.out.step1 hb); clear hb K; have K := K2; clear K2))
  all_goals
    go_wp2
    go_ret
    exact ⟨ret_bool' (by simp), K.out.bel⟩
set_option maxHeartbeats 8000000 in
theorem dates0 (e t y m d h n s f : Int) (w : World) (t0 : 0 ≤ t) (t1 : t < 18446744073709551616) (f0 : 0 ≤ f) (f1 : f < 4294967296) (HG : Hid (ds e t < 0 ∨ 66269577600 ≤ ds e t)) :
    Calls Try.prog 8 #[.agg #[.int .i64 e, .int .u64 t], .agg #[.int .i64 y, .int .i64 m, .int .i64 d, .int .i64 h, .int .i64 n, .int .i64 s, .int .u32 f]] w fun r w' => r = .returned (.bool true) ∧ Below w.heap.size w w' := by
  go_enter Try.func8, Try.ntmps8
  have P2 : Hid (R2 _ w.heap.size e t) := R2.alloc (R2.new w e t 35) (.cells #[.int .i64 y, .int .i64 m, .int .i64 d, .int .i64 h, .int .i64 n, .int .i64 s, .int .u32 f] 43)
  have P7 := R7.new (w.alloc (.cells #[.int .i64 e, .int .u64 t] 35)) y m d h n s f 43
  simp only [World.size_alloc] at P7
  have P7' := show Hid _ from P7
  clear P7
  go_wp2_with fail
  refine (shown_any _).mono ?_
  rintro r w1 ⟨rfl, hb⟩
  have P2a : Hid (R2 w1 w.heap.size e t) := P2.out.step hb
  have P7a : Hid (R7 w1 (w.heap.size + 1) y m d h n s f) := P7'.out.step hb
  have L1 : Hid (Below w.heap.size w w1) := by
    refine Below.trans ?_ (hb.mono (by simp; omega))
    exact (by repeat' (first | with_reducible exact Below.refl _ _ | with_reducible refine Below.setCell ?_ (by first | (simp; done) | (simp; omega) | omega) _ | with_reducible refine below_drewN ?_ _ | with_reducible refine Below.drew ?_ | with_reducible refine Below.alloc ?_ (by first | (simp; done) | (simp; omega) | omega) _))
  clear hb P2 P7'
  have u0 := P2a.out.c0
  have u1 := P2a.out.c1
  go_wp2_with fail
  refine (ofDate_no e t _ t0 t1 HG.out).mono ?_
  rintro r w2 ⟨rfl, hb⟩
  unfold noC
  have P2b : Hid (R2 w2 w.heap.size e t) := P2a.out.step hb
  have P7b : Hid (R7 w2 (w.heap.size + 1) y m d h n s f) := P7a.out.step hb
  have L2 : Hid (Below w.heap.size w w2) := bel_step L1.out hb
  have A2 : Hid (R7 _ w2.heap.size 0 0 0 0 0 0 0) := R7.new w2 0 0 0 0 0 0 0 43
  clear hb P2a P7a L1 u0 u1
  have u0 := P2b.out.c0
  have u1 := P2b.out.c1
  have z0 := P2b.out.top
  go_wp2_with fail
  refine (date_any e t _).mono ?_
  rintro r w3 ⟨rfl, hb⟩
  have P7c : Hid (R7 w3 (w.heap.size + 1) y m d h n s f) := (P7b.out.alloc _).step hb
  have L3 : Hid (Below w.heap.size w w3) := bel_step (bel_alloc L2.out _) hb
  have A3 : Hid (R7 w3 w2.heap.size 0 0 0 0 0 0 0) := A2.out.step hb
  clear hb P2b P7b L2 A2 u0 u1 z0
  go_wp2_with fail
  refine (rofDate_no e t _ t0 t1 HG.out).mono ?_
  rintro r w4 ⟨rfl, hb⟩
  unfold noC
  have P7d : Hid (R7 w4 (w.heap.size + 1) y m d h n s f) := P7c.out.step hb
  have L4 : Hid (Below w.heap.size w w4) := bel_step L3.out hb
  have A4 : Hid (R7 w4 w2.heap.size 0 0 0 0 0 0 0) := A3.out.step hb
  have B4 : Hid (R7 _ w4.heap.size 0 0 0 0 0 0 0) := R7.new w4 0 0 0 0 0 0 0 47
  clear hb P7c L3 A3
  have u0 := P7d.out.c0
  have u1 := P7d.out.c1
  have u2 := P7d.out.c2
  have u3 := P7d.out.c3
  have u4 := P7d.out.c4
  have u5 := P7d.out.c5
  have u6 := P7d.out.c6
  have z0 := P7d.out.top
  go_wp2_with fail
  refine (toDate_any y m d h n s f _ f0 f1).mono ?_
  rintro r w5 ⟨rfl, hb⟩
  have P7e : Hid (R7 w5 (w.heap.size + 1) y m d h n s f) := (P7d.out.alloc _).step hb
  have L5 : Hid (Below w.heap.size w w5) := bel_step (bel_alloc L4.out _) hb
  have A5 : Hid (R7 w5 w2.heap.size 0 0 0 0 0 0 0) := (A4.out.alloc _).step hb
  have B5 : Hid (R7 w5 w4.heap.size 0 0 0 0 0 0 0) := B4.out.step hb
  obtain ⟨E, hE⟩ : ∃ E, E = dE y m d h n s := ⟨_, rfl⟩
  obtain ⟨T, hT⟩ : ∃ T, T = dT y m d h n s f := ⟨_, rfl⟩
  obtain ⟨C, hC⟩ : ∃ C, C = dC y m d h n s := ⟨_, rfl⟩
  rw [← hE, ← hT, ← hC]
  have HE : Hid (dE y m d h n s = E ∧ dT y m d h n s f = T ∧ dC y m d h n s = C) := ⟨hE.symm, hT.symm, hC.symm⟩
  have G5 : Hid (R2 _ w5.heap.size E T) := R2.new w5 E T 35
  clear hb P7d L4 A4 B4 u0 u1 u2 u3 u4 u5 u6 z0 hE hT hC
  have u0 := P7e.out.c0
  have u1 := P7e.out.c1
  have u2 := P7e.out.c2
  have u3 := P7e.out.c3
  have u4 := P7e.out.c4
  have u5 := P7e.out.c5
  have u6 := P7e.out.c6
  have z0 := P7e.out.top
  go_wp2_with fail
  refine (rtoDate_any y m d h n s f _ f0 f1).mono ?_
  rintro r w6 ⟨rfl, hb⟩
  rw [HE.out.1, HE.out.2.1, HE.out.2.2]
  have K : Hid (Kz w (w6.alloc (.cells #[.int .i64 E, .int .u64 T] 36)) w2.heap.size w4.heap.size w5.heap.size w6.heap.size 0 0 0 0 0 0 0 E T) :=
    ⟨bel_alloc (bel_step (bel_alloc L5.out _) hb) _, ((A5.out.alloc _).step hb).alloc _, ((B5.out.alloc _).step hb).alloc _, (G5.out.step hb).alloc _, R2.new w6 E T _⟩
  clear hb P7e L5 A5 B5 G5 u0 u1 u2 u3 u4 u5 u6 z0 HE
  go_wp2_with fail
  go_region_held3 (fun w' => w'.cell? ⟨w2.heap.size, 0, none⟩ = some (.int .i64 0) ∧ w'.cell? ⟨w2.heap.size, 1, none⟩ = some (.int .i64 0) ∧ w'.cell? ⟨w2.heap.size, 2, none⟩ = some (.int .i64 0) ∧ w'.cell? ⟨w2.heap.size, 3, none⟩ = some (.int .i64 0) ∧ w'.cell? ⟨w2.heap.size, 4, none⟩ = some (.int .i64 0) ∧ w'.cell? ⟨w2.heap.size, 5, none⟩ = some (.int .i64 0) ∧ w'.cell? ⟨w2.heap.size, 6, none⟩ = some (.int .u32 0) ∧ w'.cell? ⟨w4.heap.size, 0, none⟩ = some (.int .i64 0) ∧ w'.cell? ⟨w4.heap.size, 1, none⟩ = some (.int .i64 0) ∧ w'.cell? ⟨w4.heap.size, 2, none⟩ = some (.int .i64 0) ∧ w'.cell? ⟨w4.heap.size, 3, none⟩ = some (.int .i64 0) ∧ w'.cell? ⟨w4.heap.size, 4, none⟩ = some (.int .i64 0) ∧ w'.cell? ⟨w4.heap.size, 5, none⟩ = some (.int .i64 0) ∧ w'.cell? ⟨w4.heap.size, 6, none⟩ = some (.int .u32 0) ∧ w'.cell? ⟨w5.heap.size, 0, none⟩ = some (.int .i64 E) ∧ w'.cell? ⟨w5.heap.size, 1, none⟩ = some (.int .u64 T) ∧ w'.cell? ⟨w6.heap.size, 0, none⟩ = some (.int .i64 E) ∧ w'.cell? ⟨w6.heap.size, 1, none⟩ = some (.int .u64 T)) (first | exact ⟨K.out.a.c0, K.out.a.c1, K.out.a.c2, K.out.a.c3, K.out.a.c4, K.out.a.c5, K.out.a.c6, K.out.b.c0, K.out.b.c1, K.out.b.c2, K.out.b.c3, K.out.b.c4, K.out.b.c5, K.out.b.c6, K.out.g.c0, K.out.g.c1, K.out.i.c0, K.out.i.c1⟩ | go_keep)
    ((go_at_call 18; refine (date_any E T _).mono ?_; rintro r w7 ⟨rfl, hb⟩; have K2 : Hid (Kz w w7 w2.heap.size w4.heap.size w5.heap.size w6.heap.size 0 0 0 0 0 0 0 E T) := (by first | exact K.out.step0 hb | exact K.out.step1 hb); clear hb K; have K := K2; clear K2))
  all_goals
    go_wp2
    go_ret
    exact ⟨ret_bool' (by simp), K.out.bel⟩
theorem StampDates_row (e t y m d h n s f : Int) (w : World) (_w0 : (Lit.int .i64 e).wf = true) (w1 : (Lit.int .u64 t).wf = true) (_w2 : (Lit.int .i64 y).wf = true) (_w3 : (Lit.int .i64 m).wf = true) (_w4 : (Lit.int .i64 d).wf = true) (_w5 : (Lit.int .i64 h).wf = true) (_w6 : (Lit.int .i64 n).wf = true) (_w7 : (Lit.int .i64 s).wf = true) (w8 : (Lit.int .u32 f).wf = true) :
    Calls Try.prog 8 #[.agg #[.int .i64 e, .int .u64 t], .agg #[.int .i64 y, .int .i64 m, .int .i64 d, .int .i64 h, .int .i64 n, .int .i64 s, .int .u32 f]] w fun r w' => r = .returned (.bool true) ∧ Below w.heap.size w w' := by
  obtain ⟨t0, t1⟩ := bounds_u64 w1
  obtain ⟨f0, f1⟩ := bounds_u32 w8
  by_cases g : ds e t < 0 ∨ 66269577600 ≤ ds e t
  · exact dates0 e t y m d h n s f w t0 (by omega) f0 (by omega) g
  · exact dates1 e t y m d h n s f w t0 (by omega) f0 (by omega) (show _ ≤ _ by omega) (show _ < _ by omega)
end Go.Proofs.Ytifaneckfnjgiaa
