/- That the law StampBack returns true. -/
import Derived.Test.YtifaneckfnjgiabStH
import Derived.WalkKit
import Derived.WalkSpells
import Derived.WalkLawsBesides
import Derived.Handy
import Derived.Below
namespace Go.Proofs.Ytifaneckfnjgiab
open Go.RowKit
/-- a date and a calendar's date that lie boxed in a call's first two blocks stay -/
structure Bx (w v : World) (e t y m d h n s f : Int) : Prop where
  bel : Below w.heap.size w v
  top : w.heap.size + 1 < v.heap.size
  d0 : v.cell? ⟨w.heap.size, 0, none⟩ = some (.int .i64 e)
  d1 : v.cell? ⟨w.heap.size, 1, none⟩ = some (.int .u64 t)
  c0 : v.cell? ⟨w.heap.size + 1, 0, none⟩ = some (.int .i64 y)
  c1 : v.cell? ⟨w.heap.size + 1, 1, none⟩ = some (.int .i64 m)
  c2 : v.cell? ⟨w.heap.size + 1, 2, none⟩ = some (.int .i64 d)
  c3 : v.cell? ⟨w.heap.size + 1, 3, none⟩ = some (.int .i64 h)
  c4 : v.cell? ⟨w.heap.size + 1, 4, none⟩ = some (.int .i64 n)
  c5 : v.cell? ⟨w.heap.size + 1, 5, none⟩ = some (.int .i64 s)
  c6 : v.cell? ⟨w.heap.size + 1, 6, none⟩ = some (.int .u32 f)
theorem Bx.step {w v v' : World} {e t y m d h n s f : Int} (x : Bx w v e t y m d h n s f) (hb : Below v.heap.size v v') : Bx w v' e t y m d h n s f := by
  have h1 := x.top
  have h0 : w.heap.size < v.heap.size := by omega
  exact ⟨x.bel.trans (hb.mono (by omega)), Nat.lt_of_lt_of_le h1 hb.size, by rw [hb.cell h0]; exact x.d0, by rw [hb.cell h0]; exact x.d1, by rw [hb.cell h1]; exact x.c0, by rw [hb.cell h1]; exact x.c1, by rw [hb.cell h1]; exact x.c2, by rw [hb.cell h1]; exact x.c3, by rw [hb.cell h1]; exact x.c4, by rw [hb.cell h1]; exact x.c5, by rw [hb.cell h1]; exact x.c6⟩
theorem Bx.alloc {w v : World} {e t y m d h n s f : Int} (x : Bx w v e t y m d h n s f) (o : Obj) : Bx w (v.alloc o) e t y m d h n s f :=
  x.step ((Below.refl _ _).alloc (Nat.le_refl _) o)
theorem Bx.start (w : World) (e t y m d h n s f : Int) (T U : TypeId) : Bx w ((w.alloc (.cells #[.int .i64 e, .int .u64 t] T)).alloc (.cells #[.int .i64 y, .int .i64 m, .int .i64 d, .int .i64 h, .int .i64 n, .int .i64 s, .int .u32 f] U)) e t y m d h n s f := by
  refine ⟨((Below.refl _ _).alloc (Nat.le_refl _) _).alloc (by simp) _, by simp, ?_, ?_, ?_, ?_, ?_, ?_, ?_, ?_, ?_⟩ <;> simp
theorem toDate_back (era t y m d h n s : Int) (w : World) (t0 : 0 ≤ t) (t1 : t < 18446744073709551616) (hd : Cal.Day y m d) (ht : Cal.Time h n s) (hs : Cal.sec y m d h n s = ds era t) :
    Calls Try.prog 9 #[.agg #[.int .i64 y, .int .i64 m, .int .i64 d, .int .i64 h, .int .i64 n, .int .i64 s, .int .u32 (t % 4294967296)]] w fun e w' => e = .returned (.tuple #[.agg #[.int .i64 era, .int .u64 t], .int .i64 0]) ∧ Below w.heap.size w w' := by
  refine (toDate_yes y m d h n s (t % 4294967296) w hd ht (by omega) (by omega)).mono ?_
  rintro e w' ⟨rfl, hb⟩
  have e1 : (ds era t - 59926608000) / 4294967296 = era := by unfold ds; omega
  have e2 : (ds era t - 59926608000) % 4294967296 * 4294967296 + t % 4294967296 = t := by unfold ds; omega
  exact ⟨by unfold yesD; rw [hs, e1, e2], hb⟩
theorem ofDate_back (y m d h n s f : Int) (w : World) (hd : Cal.Day y m d) (ht : Cal.Time h n s) (f0 : 0 ≤ f) (f1 : f < 4294967296) :
    Calls Try.prog 8 #[.agg #[.int .i64 ((Cal.sec y m d h n s - 59926608000) / 4294967296), .int .u64 ((Cal.sec y m d h n s - 59926608000) % 4294967296 * 4294967296 + f)]] w fun e w' => e = .returned (.tuple #[.agg #[.int .i64 y, .int .i64 m, .int .i64 d, .int .i64 h, .int .i64 n, .int .i64 s, .int .u32 f], .int .i64 0]) ∧ Below w.heap.size w w' := by
  obtain ⟨b0, b1⟩ := Cal.sec_bd hd ht
  have e1 : ds ((Cal.sec y m d h n s - 59926608000) / 4294967296) ((Cal.sec y m d h n s - 59926608000) % 4294967296 * 4294967296 + f) = Cal.sec y m d h n s := by unfold ds; omega
  refine (ofDate_yes _ _ w (by omega) (by omega) (by rw [e1]; exact b0) (by rw [e1]; exact b1)).mono ?_
  rintro e w' ⟨y', m', d', h', n', s', rfl, hd', ht', hs', hb⟩
  obtain ⟨rfl, rfl, rfl, rfl, rfl, rfl⟩ := Cal.sec_one hd' ht' hd ht (hs'.trans e1)
  exact ⟨by unfold yesC; rw [show ((Cal.sec y' m' d' h' n' s' - 59926608000) % 4294967296 * 4294967296 + f) % 4294967296 = f from by omega], hb⟩
set_option maxHeartbeats 4000000 in
theorem back11 (e t y m d h n s f : Int) (w : World) (t0 : 0 ≤ t) (t1 : t < 18446744073709551616) (f0 : 0 ≤ f) (f1 : f < 4294967296) (g0 : Hid (0 ≤ ds e t)) (g1 : Hid (ds e t < 66269577600)) (hd : Hid (Cal.Day y m d)) (ht : Hid (Cal.Time h n s)) :
    Calls Try.prog 3 #[.agg #[.int .i64 e, .int .u64 t], .agg #[.int .i64 y, .int .i64 m, .int .i64 d, .int .i64 h, .int .i64 n, .int .i64 s, .int .u32 f]] w fun r w' => r = .returned (.bool true) ∧ Below w.heap.size w w' := by
  go_enter Try.func3, Try.ntmps3
  have X0 : Hid (Bx w _ e t y m d h n s f) := Bx.start w e t y m d h n s f 25 28
  go_wp2_with fail
  refine (shown_any _).mono ?_
  rintro r w1 ⟨rfl, hb⟩
  have X1 : Hid (Bx w w1 e t y m d h n s f) := X0.out.step hb
  clear hb X0
  have hz1 : w.heap.size + 1 < w1.heap.size := X1.out.top
  have hy1 : w.heap.size < w1.heap.size := by omega
  have d01 := X1.out.d0
  have d11 := X1.out.d1
  have c01 := X1.out.c0
  have c11 := X1.out.c1
  have c21 := X1.out.c2
  have c31 := X1.out.c3
  have c41 := X1.out.c4
  have c51 := X1.out.c5
  have c61 := X1.out.c6
  go_wp2_with fail
  refine (ofDate_yes e t _ t0 t1 g0.out g1.out).mono ?_
  rintro r w2 ⟨y2, m2, d2, h2, n2, s2, rfl, hd2, ht2, hs2, hb⟩
  have X2 : Hid (Bx w w2 e t y m d h n s f) := (X1.out).step hb
  clear hb
  have Q : Hid (Cal.Day y2 m2 d2 ∧ Cal.Time h2 n2 s2 ∧ Cal.sec y2 m2 d2 h2 n2 s2 = ds e t) := ⟨hd2, ht2, hs2⟩
  clear hd2 ht2 hs2
  unfold yesC
  have hz2 : w.heap.size + 1 < w2.heap.size := X2.out.top
  have hy2 : w.heap.size < w2.heap.size := by omega
  have d02 := X2.out.d0
  have d12 := X2.out.d1
  have c02 := X2.out.c0
  have c12 := X2.out.c1
  have c22 := X2.out.c2
  have c32 := X2.out.c3
  have c42 := X2.out.c4
  have c52 := X2.out.c5
  have c62 := X2.out.c6
  clear X1 hz1 hy1 d01 d11 c01 c11 c21 c31 c41 c51 c61
  go_wp2_with fail
  refine (toDate_back e t y2 m2 d2 h2 n2 s2 _ t0 t1 Q.out.1 Q.out.2.1 Q.out.2.2).mono ?_
  rintro r w3 ⟨rfl, hb⟩
  have X3 : Hid (Bx w w3 e t y m d h n s f) := (X2.out.alloc _).step hb
  clear hb
  have hz3 : w.heap.size + 1 < w3.heap.size := X3.out.top
  have hy3 : w.heap.size < w3.heap.size := by omega
  have d03 := X3.out.d0
  have d13 := X3.out.d1
  have c03 := X3.out.c0
  have c13 := X3.out.c1
  have c23 := X3.out.c2
  have c33 := X3.out.c3
  have c43 := X3.out.c4
  have c53 := X3.out.c5
  have c63 := X3.out.c6
  clear X2 hz2 hy2 d02 d12 c02 c12 c22 c32 c42 c52 c62
  go_wp2_with fail
  refine (toDate_yes y m d h n s f _ hd.out ht.out f0 f1).mono ?_
  rintro r w4 ⟨rfl, hb⟩
  have X4 : Hid (Bx w w4 e t y m d h n s f) := (X3.out.alloc _).step hb
  clear hb
  unfold yesD
  have hz4 : w.heap.size + 1 < w4.heap.size := X4.out.top
  have hy4 : w.heap.size < w4.heap.size := by omega
  have d04 := X4.out.d0
  have d14 := X4.out.d1
  have c04 := X4.out.c0
  have c14 := X4.out.c1
  have c24 := X4.out.c2
  have c34 := X4.out.c3
  have c44 := X4.out.c4
  have c54 := X4.out.c5
  have c64 := X4.out.c6
  clear X3 hz3 hy3 d03 d13 c03 c13 c23 c33 c43 c53 c63
  go_wp2_with fail
  refine (ofDate_back y m d h n s f _ hd.out ht.out f0 f1).mono ?_
  rintro r w5 ⟨rfl, hb⟩
  have X5 : Hid (Bx w w5 e t y m d h n s f) := (X4.out.alloc _).step hb
  clear hb
  have hz5 : w.heap.size + 1 < w5.heap.size := X5.out.top
  have hy5 : w.heap.size < w5.heap.size := by omega
  have d05 := X5.out.d0
  have d15 := X5.out.d1
  have c05 := X5.out.c0
  have c15 := X5.out.c1
  have c25 := X5.out.c2
  have c35 := X5.out.c3
  have c45 := X5.out.c4
  have c55 := X5.out.c5
  have c65 := X5.out.c6
  clear X4 hz4 hy4 d04 d14 c04 c14 c24 c34 c44 c54 c64
  go_wp2_with fail
  go_ret
  exact ⟨rfl, (X5.out.alloc _).bel⟩
set_option maxHeartbeats 4000000 in
theorem back10 (e t y m d h n s f : Int) (w : World) (t0 : 0 ≤ t) (t1 : t < 18446744073709551616) (g0 : Hid (0 ≤ ds e t)) (g1 : Hid (ds e t < 66269577600)) (hx : Hid (¬ (Cal.Day y m d ∧ Cal.Time h n s))) :
    Calls Try.prog 3 #[.agg #[.int .i64 e, .int .u64 t], .agg #[.int .i64 y, .int .i64 m, .int .i64 d, .int .i64 h, .int .i64 n, .int .i64 s, .int .u32 f]] w fun r w' => r = .returned (.bool true) ∧ Below w.heap.size w w' := by
  go_enter Try.func3, Try.ntmps3
  have X0 : Hid (Bx w _ e t y m d h n s f) := Bx.start w e t y m d h n s f 25 28
  go_wp2_with fail
  refine (shown_any _).mono ?_
  rintro r w1 ⟨rfl, hb⟩
  have X1 : Hid (Bx w w1 e t y m d h n s f) := X0.out.step hb
  clear hb X0
  have hz1 : w.heap.size + 1 < w1.heap.size := X1.out.top
  have hy1 : w.heap.size < w1.heap.size := by omega
  have d01 := X1.out.d0
  have d11 := X1.out.d1
  have c01 := X1.out.c0
  have c11 := X1.out.c1
  have c21 := X1.out.c2
  have c31 := X1.out.c3
  have c41 := X1.out.c4
  have c51 := X1.out.c5
  have c61 := X1.out.c6
  go_wp2_with fail
  refine (ofDate_yes e t _ t0 t1 g0.out g1.out).mono ?_
  rintro r w2 ⟨y2, m2, d2, h2, n2, s2, rfl, hd2, ht2, hs2, hb⟩
  have X2 : Hid (Bx w w2 e t y m d h n s f) := (X1.out).step hb
  clear hb
  have Q : Hid (Cal.Day y2 m2 d2 ∧ Cal.Time h2 n2 s2 ∧ Cal.sec y2 m2 d2 h2 n2 s2 = ds e t) := ⟨hd2, ht2, hs2⟩
  clear hd2 ht2 hs2
  unfold yesC
  have hz2 : w.heap.size + 1 < w2.heap.size := X2.out.top
  have hy2 : w.heap.size < w2.heap.size := by omega
  have d02 := X2.out.d0
  have d12 := X2.out.d1
  have c02 := X2.out.c0
  have c12 := X2.out.c1
  have c22 := X2.out.c2
  have c32 := X2.out.c3
  have c42 := X2.out.c4
  have c52 := X2.out.c5
  have c62 := X2.out.c6
  clear X1 hz1 hy1 d01 d11 c01 c11 c21 c31 c41 c51 c61
  go_wp2_with fail
  refine (toDate_back e t y2 m2 d2 h2 n2 s2 _ t0 t1 Q.out.1 Q.out.2.1 Q.out.2.2).mono ?_
  rintro r w3 ⟨rfl, hb⟩
  have X3 : Hid (Bx w w3 e t y m d h n s f) := (X2.out.alloc _).step hb
  clear hb
  have hz3 : w.heap.size + 1 < w3.heap.size := X3.out.top
  have hy3 : w.heap.size < w3.heap.size := by omega
  have d03 := X3.out.d0
  have d13 := X3.out.d1
  have c03 := X3.out.c0
  have c13 := X3.out.c1
  have c23 := X3.out.c2
  have c33 := X3.out.c3
  have c43 := X3.out.c4
  have c53 := X3.out.c5
  have c63 := X3.out.c6
  clear X2 hz2 hy2 d02 d12 c02 c12 c22 c32 c42 c52 c62
  go_wp2_with fail
  refine (toDate_no y m d h n s f _ hx.out).mono ?_
  rintro r w4 ⟨rfl, hb⟩
  have X4 : Hid (Bx w w4 e t y m d h n s f) := (X3.out.alloc _).step hb
  clear hb
  unfold noD
  have hz4 : w.heap.size + 1 < w4.heap.size := X4.out.top
  have hy4 : w.heap.size < w4.heap.size := by omega
  have d04 := X4.out.d0
  have d14 := X4.out.d1
  have c04 := X4.out.c0
  have c14 := X4.out.c1
  have c24 := X4.out.c2
  have c34 := X4.out.c3
  have c44 := X4.out.c4
  have c54 := X4.out.c5
  have c64 := X4.out.c6
  clear X3 hz3 hy3 d03 d13 c03 c13 c23 c33 c43 c53 c63
  go_wp2_with fail
  go_ret
  exact ⟨rfl, (X4.out.alloc _).bel⟩
set_option maxHeartbeats 4000000 in
theorem back01 (e t y m d h n s f : Int) (w : World) (t0 : 0 ≤ t) (t1 : t < 18446744073709551616) (f0 : 0 ≤ f) (f1 : f < 4294967296) (g : Hid (ds e t < 0 ∨ 66269577600 ≤ ds e t)) (hd : Hid (Cal.Day y m d)) (ht : Hid (Cal.Time h n s)) :
    Calls Try.prog 3 #[.agg #[.int .i64 e, .int .u64 t], .agg #[.int .i64 y, .int .i64 m, .int .i64 d, .int .i64 h, .int .i64 n, .int .i64 s, .int .u32 f]] w fun r w' => r = .returned (.bool true) ∧ Below w.heap.size w w' := by
  go_enter Try.func3, Try.ntmps3
  have X0 : Hid (Bx w _ e t y m d h n s f) := Bx.start w e t y m d h n s f 25 28
  go_wp2_with fail
  refine (shown_any _).mono ?_
  rintro r w1 ⟨rfl, hb⟩
  have X1 : Hid (Bx w w1 e t y m d h n s f) := X0.out.step hb
  clear hb X0
  have hz1 : w.heap.size + 1 < w1.heap.size := X1.out.top
  have hy1 : w.heap.size < w1.heap.size := by omega
  have d01 := X1.out.d0
  have d11 := X1.out.d1
  have c01 := X1.out.c0
  have c11 := X1.out.c1
  have c21 := X1.out.c2
  have c31 := X1.out.c3
  have c41 := X1.out.c4
  have c51 := X1.out.c5
  have c61 := X1.out.c6
  go_wp2_with fail
  refine (ofDate_no e t _ t0 t1 g.out).mono ?_
  rintro r w2 ⟨rfl, hb⟩
  have X2 : Hid (Bx w w2 e t y m d h n s f) := (X1.out).step hb
  clear hb
  unfold noC
  have hz2 : w.heap.size + 1 < w2.heap.size := X2.out.top
  have hy2 : w.heap.size < w2.heap.size := by omega
  have d02 := X2.out.d0
  have d12 := X2.out.d1
  have c02 := X2.out.c0
  have c12 := X2.out.c1
  have c22 := X2.out.c2
  have c32 := X2.out.c3
  have c42 := X2.out.c4
  have c52 := X2.out.c5
  have c62 := X2.out.c6
  clear X1 hz1 hy1 d01 d11 c01 c11 c21 c31 c41 c51 c61
  go_wp2_with fail
  refine (toDate_yes y m d h n s f _ hd.out ht.out f0 f1).mono ?_
  rintro r w3 ⟨rfl, hb⟩
  have X3 : Hid (Bx w w3 e t y m d h n s f) := (X2.out.alloc _).step hb
  clear hb
  unfold yesD
  have hz3 : w.heap.size + 1 < w3.heap.size := X3.out.top
  have hy3 : w.heap.size < w3.heap.size := by omega
  have d03 := X3.out.d0
  have d13 := X3.out.d1
  have c03 := X3.out.c0
  have c13 := X3.out.c1
  have c23 := X3.out.c2
  have c33 := X3.out.c3
  have c43 := X3.out.c4
  have c53 := X3.out.c5
  have c63 := X3.out.c6
  clear X2 hz2 hy2 d02 d12 c02 c12 c22 c32 c42 c52 c62
  go_wp2_with fail
  refine (ofDate_back y m d h n s f _ hd.out ht.out f0 f1).mono ?_
  rintro r w4 ⟨rfl, hb⟩
  have X4 : Hid (Bx w w4 e t y m d h n s f) := (X3.out.alloc _).step hb
  clear hb
  have hz4 : w.heap.size + 1 < w4.heap.size := X4.out.top
  have hy4 : w.heap.size < w4.heap.size := by omega
  have d04 := X4.out.d0
  have d14 := X4.out.d1
  have c04 := X4.out.c0
  have c14 := X4.out.c1
  have c24 := X4.out.c2
  have c34 := X4.out.c3
  have c44 := X4.out.c4
  have c54 := X4.out.c5
  have c64 := X4.out.c6
  clear X3 hz3 hy3 d03 d13 c03 c13 c23 c33 c43 c53 c63
  go_wp2_with fail
  go_ret
  exact ⟨rfl, (X4.out.alloc _).bel⟩
set_option maxHeartbeats 4000000 in
theorem back00 (e t y m d h n s f : Int) (w : World) (t0 : 0 ≤ t) (t1 : t < 18446744073709551616) (g : Hid (ds e t < 0 ∨ 66269577600 ≤ ds e t)) (hx : Hid (¬ (Cal.Day y m d ∧ Cal.Time h n s))) :
    Calls Try.prog 3 #[.agg #[.int .i64 e, .int .u64 t], .agg #[.int .i64 y, .int .i64 m, .int .i64 d, .int .i64 h, .int .i64 n, .int .i64 s, .int .u32 f]] w fun r w' => r = .returned (.bool true) ∧ Below w.heap.size w w' := by
  go_enter Try.func3, Try.ntmps3
  have X0 : Hid (Bx w _ e t y m d h n s f) := Bx.start w e t y m d h n s f 25 28
  go_wp2_with fail
  refine (shown_any _).mono ?_
  rintro r w1 ⟨rfl, hb⟩
  have X1 : Hid (Bx w w1 e t y m d h n s f) := X0.out.step hb
  clear hb X0
  have hz1 : w.heap.size + 1 < w1.heap.size := X1.out.top
  have hy1 : w.heap.size < w1.heap.size := by omega
  have d01 := X1.out.d0
  have d11 := X1.out.d1
  have c01 := X1.out.c0
  have c11 := X1.out.c1
  have c21 := X1.out.c2
  have c31 := X1.out.c3
  have c41 := X1.out.c4
  have c51 := X1.out.c5
  have c61 := X1.out.c6
  go_wp2_with fail
  refine (ofDate_no e t _ t0 t1 g.out).mono ?_
  rintro r w2 ⟨rfl, hb⟩
  have X2 : Hid (Bx w w2 e t y m d h n s f) := (X1.out).step hb
  clear hb
  unfold noC
  have hz2 : w.heap.size + 1 < w2.heap.size := X2.out.top
  have hy2 : w.heap.size < w2.heap.size := by omega
  have d02 := X2.out.d0
  have d12 := X2.out.d1
  have c02 := X2.out.c0
  have c12 := X2.out.c1
  have c22 := X2.out.c2
  have c32 := X2.out.c3
  have c42 := X2.out.c4
  have c52 := X2.out.c5
  have c62 := X2.out.c6
  clear X1 hz1 hy1 d01 d11 c01 c11 c21 c31 c41 c51 c61
  go_wp2_with fail
  refine (toDate_no y m d h n s f _ hx.out).mono ?_
  rintro r w3 ⟨rfl, hb⟩
  have X3 : Hid (Bx w w3 e t y m d h n s f) := (X2.out.alloc _).step hb
  clear hb
  unfold noD
  have hz3 : w.heap.size + 1 < w3.heap.size := X3.out.top
  have hy3 : w.heap.size < w3.heap.size := by omega
  have d03 := X3.out.d0
  have d13 := X3.out.d1
  have c03 := X3.out.c0
  have c13 := X3.out.c1
  have c23 := X3.out.c2
  have c33 := X3.out.c3
  have c43 := X3.out.c4
  have c53 := X3.out.c5
  have c63 := X3.out.c6
  clear X2 hz2 hy2 d02 d12 c02 c12 c22 c32 c42 c52 c62
  go_wp2_with fail
  go_ret
  exact ⟨rfl, (X3.out.alloc _).bel⟩
theorem StampBack_row (e t y m d h n s f : Int) (w : World) (_w0 : (Lit.int .i64 e).wf = true) (w1 : (Lit.int .u64 t).wf = true) (_w2 : (Lit.int .i64 y).wf = true) (_w3 : (Lit.int .i64 m).wf = true) (_w4 : (Lit.int .i64 d).wf = true) (_w5 : (Lit.int .i64 h).wf = true) (_w6 : (Lit.int .i64 n).wf = true) (_w7 : (Lit.int .i64 s).wf = true) (w8 : (Lit.int .u32 f).wf = true) :
    Calls Try.prog 3 #[.agg #[.int .i64 e, .int .u64 t], .agg #[.int .i64 y, .int .i64 m, .int .i64 d, .int .i64 h, .int .i64 n, .int .i64 s, .int .u32 f]] w fun r w' => r = .returned (.bool true) ∧ Below w.heap.size w w' := by
  obtain ⟨t0, t1⟩ := bounds_u64 w1
  obtain ⟨f0, f1⟩ := bounds_u32 w8
  by_cases hx : Cal.Day y m d ∧ Cal.Time h n s
  · by_cases g : ds e t < 0 ∨ 66269577600 ≤ ds e t
    · exact back01 e t y m d h n s f w t0 (by omega) f0 (by omega) g hx.1 hx.2
    · exact back11 e t y m d h n s f w t0 (by omega) f0 (by omega) (show _ ≤ _ by omega) (show _ < _ by omega) hx.1 hx.2
  · by_cases g : ds e t < 0 ∨ 66269577600 ≤ ds e t
    · exact back00 e t y m d h n s f w t0 (by omega) g hx
    · exact back10 e t y m d h n s f w t0 (by omega) (show _ ≤ _ by omega) (show _ < _ by omega) hx
end Go.Proofs.Ytifaneckfnjgiab
