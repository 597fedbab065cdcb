/- That the law StampNext returns true, where the stamp goes on and its era ends. -/
import Derived.Test.YtifaneckfnjgiabStY
import Derived.WalkKit
import Derived.WalkSpells
import Derived.WalkLawsBesides
import Derived.Handy
import Derived.Below
namespace Go.Proofs.Ytifaneckfnjgiab
open Go.RowKit
set_option maxRecDepth 100000 in
set_option maxHeartbeats 8000000 in
theorem next1 (e t q : Int) (w : World) (t0 : 0 ≤ t) (t1 : t < 18446744073709551616) (q0 : 0 ≤ q) (q1 : q < 18446744073709551616) (e0 : -9223372036854775808 ≤ e) (e1 : e < 9223372036854775807) (hq : IntKind.u64.wrap (t + 4294967296) = q) (hl : q < t) (HN : Hid (ds (e + 1) q = ds e t + 1 ∧ q % 4294967296 = t % 4294967296)) :
    Calls Try.prog 4 #[.agg #[.int .i64 e, .int .u64 t]] w fun r w' => r = .returned (.bool true) ∧ Below w.heap.size w w' := by
  go_enter Try.func4, Try.ntmps4
  go_wp2_with fail
  refine (shown_any _).mono ?_
  rintro r w1 ⟨rfl, hb⟩
  have hz1 : w.heap.size < w1.heap.size := by have := hb.size; simp at this; omega
  have X1 : Hid (Kd w w1 e t) := ⟨by refine Below.trans ?_ (hb.mono (by simp)); exact (by repeat' (first | with_reducible exact Below.refl _ _ | with_reducible refine Below.setCell ?_ (by first | (simp; done) | (simp; omega) | omega) _ | with_reducible refine below_drewN ?_ _ | with_reducible refine Below.drew ?_ | with_reducible refine Below.alloc ?_ (by first | (simp; done) | (simp; omega) | omega) _)), hz1, by rw [hb.cell (by simp)]; simp, by rw [hb.cell (by simp)]; simp⟩
  have a1 := X1.out.c0
  have b1 := X1.out.c1
  clear hb
  go_wp2_with fail
  refine (ofDate_any e t _ t0 t1).mono ?_
  rintro r w2 ⟨y, m, d, h, n, s, f, c, rfl, ho, hb⟩
  have X2 : Hid (Kd w w2 e t) := X1.out.step hb
  have O2 : Hid (OfIs e t y m d h n s f c) := ho
  clear hb ho X1 a1 b1 hz1
  have hz2 := X2.out.top
  have a2 := X2.out.c0
  have b2 := X2.out.c1
  go_wp2_with fail
  refine (ofDate_any _ _ _ q0 q1).mono ?_
  rintro r w3 ⟨y', m', d', h', n', s', f', c', rfl, ho, hb⟩
  have X3 : Hid (Kd w w3 e t) := ((X2.out.alloc _).alloc _).step hb
  have O3 : Hid (OfIs (e + 1) q y' m' d' h' n' s' f' c') := ho
  have hz3 := X3.out.top
  have hy3 : w2.heap.size < w3.heap.size := by have := hb.size; simp at this; omega
  have g0 : w3.cell? ⟨w2.heap.size, 0, none⟩ = some (.int .i64 y) := by rw [hb.cell (by simp; omega)]; simp
  have g1 : w3.cell? ⟨w2.heap.size, 1, none⟩ = some (.int .i64 m) := by rw [hb.cell (by simp; omega)]; simp
  have g2 : w3.cell? ⟨w2.heap.size, 2, none⟩ = some (.int .i64 d) := by rw [hb.cell (by simp; omega)]; simp
  have g3 : w3.cell? ⟨w2.heap.size, 3, none⟩ = some (.int .i64 h) := by rw [hb.cell (by simp; omega)]; simp
  have g4 : w3.cell? ⟨w2.heap.size, 4, none⟩ = some (.int .i64 n) := by rw [hb.cell (by simp; omega)]; simp
  have g5 : w3.cell? ⟨w2.heap.size, 5, none⟩ = some (.int .i64 s) := by rw [hb.cell (by simp; omega)]; simp
  have g6 : w3.cell? ⟨w2.heap.size, 6, none⟩ = some (.int .u32 f) := by rw [hb.cell (by simp; omega)]; simp
  clear hb ho X2 a2 b2 hz2
  rcases O2.out with ⟨rfl, _⟩ | ⟨rfl, hf, hd, ht, hs⟩
  · clear O2 O3 HN
    go_wp2
    go_ret
    exact ⟨rfl, (by repeat' (first | with_reducible exact Below.refl _ _ | with_reducible exact X3.out.bel | with_reducible refine Below.setCell ?_ (by first | (simp; done) | (simp; omega) | omega) _ | with_reducible refine below_drewN ?_ _ | with_reducible refine Below.drew ?_ | with_reducible refine Below.alloc ?_ (by first | (simp; done) | (simp; omega) | omega) _))⟩
  rcases O3.out with ⟨rfl, _⟩ | ⟨rfl, hf', hd', ht', hs'⟩
  · clear O2 O3 HN hf hd ht hs
    go_wp2
    go_ret
    exact ⟨rfl, (by repeat' (first | with_reducible exact Below.refl _ _ | with_reducible exact X3.out.bel | with_reducible refine Below.setCell ?_ (by first | (simp; done) | (simp; omega) | omega) _ | with_reducible refine below_drewN ?_ _ | with_reducible refine Below.drew ?_ | with_reducible refine Below.alloc ?_ (by first | (simp; done) | (simp; omega) | omega) _))⟩
  have N : Hid (_ ∨ _) := Cal.sec_next hd ht hd' ht' (by rw [hs, hs', HN.out.1])
  obtain rfl : f' = f := by rw [hf, hf', HN.out.2]
  obtain ⟨y0, y1, m0, m1, d0, d1⟩ := day_bd hd
  obtain ⟨h0, h1, n0, n1, s0, s1⟩ := ht
  obtain ⟨h2, h3, n2, n3, s2, s3⟩ := ht'
  clear O2 O3 HN hf hf' hd hd' hs hs'
  rcases N.out with ⟨rfl, rfl, rfl, rfl, rfl, rfl⟩ | ⟨rfl, rfl, rfl, rfl, rfl, rfl, rfl⟩ | ⟨rfl, rfl, rfl, rfl, rfl, rfl, rfl, rfl⟩ | ⟨rfl, rfl, rfl, rfl, rfl, rfl, hday⟩
  · have k1 : (s + 1 != 0) = true := by rw [bne_iff_ne]; omega
    clear N
    go_wp2
    go_ret
    exact ⟨by first | rfl | (simp; done), (by repeat' (first | with_reducible exact Below.refl _ _ | with_reducible exact X3.out.bel | with_reducible refine Below.setCell ?_ (by first | (simp; done) | (simp; omega) | omega) _ | with_reducible refine below_drewN ?_ _ | with_reducible refine Below.drew ?_ | with_reducible refine Below.alloc ?_ (by first | (simp; done) | (simp; omega) | omega) _))⟩
  · have k1 : (n + 1 != 0) = true := by rw [bne_iff_ne]; omega
    clear N
    go_wp2
    go_ret
    exact ⟨by first | rfl | (simp; done), (by repeat' (first | with_reducible exact Below.refl _ _ | with_reducible exact X3.out.bel | with_reducible refine Below.setCell ?_ (by first | (simp; done) | (simp; omega) | omega) _ | with_reducible refine below_drewN ?_ _ | with_reducible refine Below.drew ?_ | with_reducible refine Below.alloc ?_ (by first | (simp; done) | (simp; omega) | omega) _))⟩
  · have k1 : (h + 1 != 0) = true := by rw [bne_iff_ne]; omega
    clear N
    go_wp2
    go_ret
    exact ⟨by first | rfl | (simp; done), (by repeat' (first | with_reducible exact Below.refl _ _ | with_reducible exact X3.out.bel | with_reducible refine Below.setCell ?_ (by first | (simp; done) | (simp; omega) | omega) _ | with_reducible refine below_drewN ?_ _ | with_reducible refine Below.drew ?_ | with_reducible refine Below.alloc ?_ (by first | (simp; done) | (simp; omega) | omega) _))⟩
  · clear N
    rcases hday with ⟨rfl, rfl, rfl⟩ | ⟨hd, hm, rfl, rfl, rfl⟩ | ⟨hd, rfl, rfl, rfl, rfl⟩
    · have k1 : (d + 1 != 1) = true := by rw [bne_iff_ne]; omega
      go_wp2
      go_ret
      exact ⟨by first | rfl | (simp; done), (by repeat' (first | with_reducible exact Below.refl _ _ | with_reducible exact X3.out.bel | with_reducible refine Below.setCell ?_ (by first | (simp; done) | (simp; omega) | omega) _ | with_reducible refine below_drewN ?_ _ | with_reducible refine Below.drew ?_ | with_reducible refine Below.alloc ?_ (by first | (simp; done) | (simp; omega) | omega) _))⟩
    · have HD : Hid (d = Cal.dim y' m) := hd
      clear hd
      rcases Cal.month_cases m0 m1 with rfl | rfl | rfl | rfl | rfl | rfl | rfl | rfl | rfl | rfl | rfl | rfl
      · obtain rfl : d = 31 := HD.out
        clear HD
        go_wp2
        go_ret
        exact ⟨by first | rfl | (simp; done), (by repeat' (first | with_reducible exact Below.refl _ _ | with_reducible exact X3.out.bel | with_reducible refine Below.setCell ?_ (by first | (simp; done) | (simp; omega) | omega) _ | with_reducible refine below_drewN ?_ _ | with_reducible refine Below.drew ?_ | with_reducible refine Below.alloc ?_ (by first | (simp; done) | (simp; omega) | omega) _))⟩
      · by_cases c4 : y' % 4 = 0
        · by_cases c1 : y' % 100 ≠ 0
          · have k4 : ((y' % 4 : Int) == 0) = true := by rw [beq_iff_eq]; exact c4
            have k5 : ((y' % 100 : Int) != 0) = true := by rw [bne_iff_ne]; exact c1
            obtain rfl : d = 29 := by have := HD.out; unfold Cal.dim Cal.lp at this; omega
            clear HD c4 c1
            go_wp2
            go_ret
            exact ⟨by first | rfl | (simp; done), (by repeat' (first | with_reducible exact Below.refl _ _ | with_reducible exact X3.out.bel | with_reducible refine Below.setCell ?_ (by first | (simp; done) | (simp; omega) | omega) _ | with_reducible refine below_drewN ?_ _ | with_reducible refine Below.drew ?_ | with_reducible refine Below.alloc ?_ (by first | (simp; done) | (simp; omega) | omega) _))⟩
          · by_cases c2 : y' % 400 = 0
            · have k4 : ((y' % 4 : Int) == 0) = true := by rw [beq_iff_eq]; exact c4
              have k5 : ((y' % 100 : Int) != 0) = false := by rw [bne_eq_false_iff_eq]; omega
              have k6 : ((y' % 400 : Int) == 0) = true := by rw [beq_iff_eq]; exact c2
              obtain rfl : d = 29 := by have := HD.out; unfold Cal.dim Cal.lp at this; omega
              clear HD c4 c1 c2
              go_wp2
              go_ret
              exact ⟨by first | rfl | (simp; done), (by repeat' (first | with_reducible exact Below.refl _ _ | with_reducible exact X3.out.bel | with_reducible refine Below.setCell ?_ (by first | (simp; done) | (simp; omega) | omega) _ | with_reducible refine below_drewN ?_ _ | with_reducible refine Below.drew ?_ | with_reducible refine Below.alloc ?_ (by first | (simp; done) | (simp; omega) | omega) _))⟩
            · have k4 : ((y' % 4 : Int) == 0) = true := by rw [beq_iff_eq]; exact c4
              have k5 : ((y' % 100 : Int) != 0) = false := by rw [bne_eq_false_iff_eq]; omega
              have k6 : ((y' % 400 : Int) == 0) = false := by rw [beq_eq_false_iff_ne]; exact c2
              obtain rfl : d = 28 := by have := HD.out; unfold Cal.dim Cal.lp at this; omega
              clear HD c4 c1 c2
              go_wp2
              go_ret
              exact ⟨by first | rfl | (simp; done), (by repeat' (first | with_reducible exact Below.refl _ _ | with_reducible exact X3.out.bel | with_reducible refine Below.setCell ?_ (by first | (simp; done) | (simp; omega) | omega) _ | with_reducible refine below_drewN ?_ _ | with_reducible refine Below.drew ?_ | with_reducible refine Below.alloc ?_ (by first | (simp; done) | (simp; omega) | omega) _))⟩
        · have k4 : ((y' % 4 : Int) == 0) = false := by rw [beq_eq_false_iff_ne]; exact c4
          obtain rfl : d = 28 := by have := HD.out; unfold Cal.dim Cal.lp at this; omega
          clear HD c4
          go_wp2
          go_ret
          exact ⟨by first | rfl | (simp; done), (by repeat' (first | with_reducible exact Below.refl _ _ | with_reducible exact X3.out.bel | with_reducible refine Below.setCell ?_ (by first | (simp; done) | (simp; omega) | omega) _ | with_reducible refine below_drewN ?_ _ | with_reducible refine Below.drew ?_ | with_reducible refine Below.alloc ?_ (by first | (simp; done) | (simp; omega) | omega) _))⟩
      · obtain rfl : d = 31 := HD.out
        clear HD
        go_wp2
        go_ret
        exact ⟨by first | rfl | (simp; done), (by repeat' (first | with_reducible exact Below.refl _ _ | with_reducible exact X3.out.bel | with_reducible refine Below.setCell ?_ (by first | (simp; done) | (simp; omega) | omega) _ | with_reducible refine below_drewN ?_ _ | with_reducible refine Below.drew ?_ | with_reducible refine Below.alloc ?_ (by first | (simp; done) | (simp; omega) | omega) _))⟩
      · obtain rfl : d = 30 := HD.out
        clear HD
        go_wp2
        go_ret
        exact ⟨by first | rfl | (simp; done), (by repeat' (first | with_reducible exact Below.refl _ _ | with_reducible exact X3.out.bel | with_reducible refine Below.setCell ?_ (by first | (simp; done) | (simp; omega) | omega) _ | with_reducible refine below_drewN ?_ _ | with_reducible refine Below.drew ?_ | with_reducible refine Below.alloc ?_ (by first | (simp; done) | (simp; omega) | omega) _))⟩
      · obtain rfl : d = 31 := HD.out
        clear HD
        go_wp2
        go_ret
        exact ⟨by first | rfl | (simp; done), (by repeat' (first | with_reducible exact Below.refl _ _ | with_reducible exact X3.out.bel | with_reducible refine Below.setCell ?_ (by first | (simp; done) | (simp; omega) | omega) _ | with_reducible refine below_drewN ?_ _ | with_reducible refine Below.drew ?_ | with_reducible refine Below.alloc ?_ (by first | (simp; done) | (simp; omega) | omega) _))⟩
      · obtain rfl : d = 30 := HD.out
        clear HD
        go_wp2
        go_ret
        exact ⟨by first | rfl | (simp; done), (by repeat' (first | with_reducible exact Below.refl _ _ | with_reducible exact X3.out.bel | with_reducible refine Below.setCell ?_ (by first | (simp; done) | (simp; omega) | omega) _ | with_reducible refine below_drewN ?_ _ | with_reducible refine Below.drew ?_ | with_reducible refine Below.alloc ?_ (by first | (simp; done) | (simp; omega) | omega) _))⟩
      · obtain rfl : d = 31 := HD.out
        clear HD
        go_wp2
        go_ret
        exact ⟨by first | rfl | (simp; done), (by repeat' (first | with_reducible exact Below.refl _ _ | with_reducible exact X3.out.bel | with_reducible refine Below.setCell ?_ (by first | (simp; done) | (simp; omega) | omega) _ | with_reducible refine below_drewN ?_ _ | with_reducible refine Below.drew ?_ | with_reducible refine Below.alloc ?_ (by first | (simp; done) | (simp; omega) | omega) _))⟩
      · obtain rfl : d = 31 := HD.out
        clear HD
        go_wp2
        go_ret
        exact ⟨by first | rfl | (simp; done), (by repeat' (first | with_reducible exact Below.refl _ _ | with_reducible exact X3.out.bel | with_reducible refine Below.setCell ?_ (by first | (simp; done) | (simp; omega) | omega) _ | with_reducible refine below_drewN ?_ _ | with_reducible refine Below.drew ?_ | with_reducible refine Below.alloc ?_ (by first | (simp; done) | (simp; omega) | omega) _))⟩
      · obtain rfl : d = 30 := HD.out
        clear HD
        go_wp2
        go_ret
        exact ⟨by first | rfl | (simp; done), (by repeat' (first | with_reducible exact Below.refl _ _ | with_reducible exact X3.out.bel | with_reducible refine Below.setCell ?_ (by first | (simp; done) | (simp; omega) | omega) _ | with_reducible refine below_drewN ?_ _ | with_reducible refine Below.drew ?_ | with_reducible refine Below.alloc ?_ (by first | (simp; done) | (simp; omega) | omega) _))⟩
      · obtain rfl : d = 31 := HD.out
        clear HD
        go_wp2
        go_ret
        exact ⟨by first | rfl | (simp; done), (by repeat' (first | with_reducible exact Below.refl _ _ | with_reducible exact X3.out.bel | with_reducible refine Below.setCell ?_ (by first | (simp; done) | (simp; omega) | omega) _ | with_reducible refine below_drewN ?_ _ | with_reducible refine Below.drew ?_ | with_reducible refine Below.alloc ?_ (by first | (simp; done) | (simp; omega) | omega) _))⟩
      · obtain rfl : d = 30 := HD.out
        clear HD
        go_wp2
        go_ret
        exact ⟨by first | rfl | (simp; done), (by repeat' (first | with_reducible exact Below.refl _ _ | with_reducible exact X3.out.bel | with_reducible refine Below.setCell ?_ (by first | (simp; done) | (simp; omega) | omega) _ | with_reducible refine below_drewN ?_ _ | with_reducible refine Below.drew ?_ | with_reducible refine Below.alloc ?_ (by first | (simp; done) | (simp; omega) | omega) _))⟩
      · omega
    · obtain rfl : d = 31 := by rw [hd]; rfl
      clear hd
      go_wp2
      go_ret
      exact ⟨by first | rfl | (simp; done), (by repeat' (first | with_reducible exact Below.refl _ _ | with_reducible exact X3.out.bel | with_reducible refine Below.setCell ?_ (by first | (simp; done) | (simp; omega) | omega) _ | with_reducible refine below_drewN ?_ _ | with_reducible refine Below.drew ?_ | with_reducible refine Below.alloc ?_ (by first | (simp; done) | (simp; omega) | omega) _))⟩
end Go.Proofs.Ytifaneckfnjgiab
