/- That the law StampPrints returns true. -/
import Derived.Test.YtifaneckfnjgiabStP
import Derived.WalkKit
import Derived.WalkSpells
import Derived.WalkLawsBesides
import Derived.Handy
import Derived.Below
namespace Go.Proofs.Ytifaneckfnjgiab
open Go.RowKit
theorem pa_no {s : ByteArray} {E T c : Int} (h : OkS s) (hd : okD (Tx.nv (Tx.bt s) 26 0) (Tx.nv (Tx.bt s) 26 1) (Tx.nv (Tx.bt s) 26 2) (Tx.nv (Tx.bt s) 26 3) (Tx.nv (Tx.bt s) 26 4) (Tx.nv (Tx.bt s) 26 5) = false) (hp : PaIs s E T c) : E = 0 ∧ T = 0 ∧ c = 20 := by
  rcases hp with ⟨_, x, _⟩ | ⟨hc, _, _, he, ht⟩ | ⟨_, _, x, _⟩
  · exact absurd h x
  · exact ⟨he, ht, hc⟩
  · rw [hd] at x; cases x
theorem pa_yes {s : ByteArray} {E T c : Int} (h : OkS s) (hd : okD (Tx.nv (Tx.bt s) 26 0) (Tx.nv (Tx.bt s) 26 1) (Tx.nv (Tx.bt s) 26 2) (Tx.nv (Tx.bt s) 26 3) (Tx.nv (Tx.bt s) 26 4) (Tx.nv (Tx.bt s) 26 5) = true) (hp : PaIs s E T c) : E = pE (Tx.bt s) ∧ T = pT (Tx.bt s) ∧ c = 0 := by
  rcases hp with ⟨_, x, _⟩ | ⟨_, _, x, _⟩ | ⟨hc, _, _, he, ht⟩
  · exact absurd h x
  · rw [hd] at x; cases x
  · exact ⟨he, ht, hc⟩
set_option maxHeartbeats 4000000 in
theorem prints_bad_no (s : ByteArray) (e t : Int) (w : World) (t0 : 0 ≤ t) (t1 : t < 18446744073709551616) (HP : Hid (¬ OkS s)) (HG : Hid (ds e t < 0 ∨ 66269577600 ≤ ds e t)) :
    Calls Try.prog 6 #[.string s, .agg #[.int .i64 e, .int .u64 t]] w fun r w' => r = .returned (.bool true) ∧ Below w.heap.size w w' := by
  go_enter Try.func6, Try.ntmps6
  go_wp2_with fail
  refine (shown_any _).mono ?_
  rintro r w1 ⟨rfl, hb⟩
  have hz1 : w.heap.size < w1.heap.size := by have := hb.size; simp at this; omega
  have X1 : Hid (Kd w w1 e t) := ⟨by refine Below.trans ?_ (hb.mono (by simp)); exact (by repeat' (first | with_reducible exact Below.refl _ _ | with_reducible refine Below.setCell ?_ (by first | (simp; done) | (simp; omega) | omega) _ | with_reducible refine below_drewN ?_ _ | with_reducible refine Below.drew ?_ | with_reducible refine Below.alloc ?_ (by first | (simp; done) | (simp; omega) | omega) _)), hz1, by rw [hb.cell (by simp)]; simp, by rw [hb.cell (by simp)]; simp⟩
  clear hb
  go_wp2_with fail
  refine (parse_bad s _ HP.out).mono ?_
  rintro r w2 ⟨rfl, hb⟩
  have X2 : Hid (Kd w w2 e t) := (X1.out).step hb
  unfold noD
  clear hb X1 hz1
  have hz2 := X2.out.top
  have a2 := X2.out.c0
  have b2 := X2.out.c1
  go_wp2_with fail
  refine (print_no e t _ t0 t1 HG.out).mono ?_
  rintro r w3 ⟨rfl, hb⟩
  have X3 : Hid (Kd w w3 e t) := (X2.out.alloc _).step hb
  unfold noP
  clear hb X2 hz2
  have hz3 := X3.out.top
  have a3 := X3.out.c0
  have b3 := X3.out.c1
  go_wp2_with fail
  go_ret
  exact ⟨rfl, X3.out.bel⟩
set_option maxHeartbeats 4000000 in
theorem prints_bad_yes (s : ByteArray) (e t : Int) (w : World) (t0 : 0 ≤ t) (t1 : t < 18446744073709551616) (HP : Hid (¬ OkS s)) (G0 : Hid (0 ≤ ds e t)) (G1 : Hid (ds e t < 66269577600)) :
    Calls Try.prog 6 #[.string s, .agg #[.int .i64 e, .int .u64 t]] w fun r w' => r = .returned (.bool true) ∧ Below w.heap.size w w' := by
  go_enter Try.func6, Try.ntmps6
  go_wp2_with fail
  refine (shown_any _).mono ?_
  rintro r w1 ⟨rfl, hb⟩
  have hz1 : w.heap.size < w1.heap.size := by have := hb.size; simp at this; omega
  have X1 : Hid (Kd w w1 e t) := ⟨by refine Below.trans ?_ (hb.mono (by simp)); exact (by repeat' (first | with_reducible exact Below.refl _ _ | with_reducible refine Below.setCell ?_ (by first | (simp; done) | (simp; omega) | omega) _ | with_reducible refine below_drewN ?_ _ | with_reducible refine Below.drew ?_ | with_reducible refine Below.alloc ?_ (by first | (simp; done) | (simp; omega) | omega) _)), hz1, by rw [hb.cell (by simp)]; simp, by rw [hb.cell (by simp)]; simp⟩
  clear hb
  go_wp2_with fail
  refine (parse_bad s _ HP.out).mono ?_
  rintro r w2 ⟨rfl, hb⟩
  have X2 : Hid (Kd w w2 e t) := (X1.out).step hb
  unfold noD
  clear hb X1 hz1
  have hz2 := X2.out.top
  have a2 := X2.out.c0
  have b2 := X2.out.c1
  go_wp2_with fail
  refine (print_yes e t _ t0 t1 G0.out G1.out).mono ?_
  rintro r w3 ⟨y, m, d, h, n, u, rfl, hd, ht, hs, hb⟩
  have X3 : Hid (Kd w w3 e t) := (X2.out.alloc _).step hb
  have Q : Hid (Cal.Day y m d ∧ Cal.Time h n u ∧ Cal.sec y m d h n u = ds e t) := ⟨hd, ht, hs⟩
  clear hd ht hs
  unfold yesP
  clear hb X2 hz2
  have hz3 := X3.out.top
  have a3 := X3.out.c0
  have b3 := X3.out.c1
  go_wp2_with fail
  obtain ⟨v0, v1, v2⟩ := tb_bd t t0
  refine (parse_back e t y m d h n u _ t0 t1 Q.out.1 Q.out.2.1 Q.out.2.2).mono ?_
  rintro r w4 ⟨rfl, hb⟩
  have X4 : Hid (Kd w w4 e t) := (X3.out).step hb
  clear hb X3 hz3
  have hz4 := X4.out.top
  have a4 := X4.out.c0
  have b4 := X4.out.c1
  go_wp2_with fail
  go_ret
  exact ⟨rfl, (by repeat' (first | with_reducible exact Below.refl _ _ | with_reducible exact X4.out.bel | with_reducible refine Below.setCell ?_ (by first | (simp; done) | (simp; omega) | omega) _ | with_reducible refine below_drewN ?_ _ | with_reducible refine Below.drew ?_ | with_reducible refine Below.alloc ?_ (by first | (simp; done) | (simp; omega) | omega) _))⟩
set_option maxHeartbeats 4000000 in
theorem prints_no_no (s : ByteArray) (e t : Int) (w : World) (t0 : 0 ≤ t) (t1 : t < 18446744073709551616) (HP : Hid (OkS s)) (HD : Hid (okD (Tx.nv (Tx.bt s) 26 0) (Tx.nv (Tx.bt s) 26 1) (Tx.nv (Tx.bt s) 26 2) (Tx.nv (Tx.bt s) 26 3) (Tx.nv (Tx.bt s) 26 4) (Tx.nv (Tx.bt s) 26 5) = false)) (HG : Hid (ds e t < 0 ∨ 66269577600 ≤ ds e t)) :
    Calls Try.prog 6 #[.string s, .agg #[.int .i64 e, .int .u64 t]] w fun r w' => r = .returned (.bool true) ∧ Below w.heap.size w w' := by
  go_enter Try.func6, Try.ntmps6
  go_wp2_with fail
  refine (shown_any _).mono ?_
  rintro r w1 ⟨rfl, hb⟩
  have hz1 : w.heap.size < w1.heap.size := by have := hb.size; simp at this; omega
  have X1 : Hid (Kd w w1 e t) := ⟨by refine Below.trans ?_ (hb.mono (by simp)); exact (by repeat' (first | with_reducible exact Below.refl _ _ | with_reducible refine Below.setCell ?_ (by first | (simp; done) | (simp; omega) | omega) _ | with_reducible refine below_drewN ?_ _ | with_reducible refine Below.drew ?_ | with_reducible refine Below.alloc ?_ (by first | (simp; done) | (simp; omega) | omega) _)), hz1, by rw [hb.cell (by simp)]; simp, by rw [hb.cell (by simp)]; simp⟩
  clear hb
  go_wp2_with fail
  refine (parse_any s _).mono ?_
  rintro r w2 ⟨E, T, c, rfl, hp, hb⟩
  have X2 : Hid (Kd w w2 e t) := (X1.out).step hb
  obtain ⟨rfl, rfl, rfl⟩ := pa_no HP.out HD.out hp
  clear hp
  clear hb X1 hz1
  have hz2 := X2.out.top
  have a2 := X2.out.c0
  have b2 := X2.out.c1
  go_wp2_with fail
  refine (print_no e t _ t0 t1 HG.out).mono ?_
  rintro r w3 ⟨rfl, hb⟩
  have X3 : Hid (Kd w w3 e t) := (X2.out.alloc _).step hb
  unfold noP
  clear hb X2 hz2
  have hz3 := X3.out.top
  have a3 := X3.out.c0
  have b3 := X3.out.c1
  go_wp2_with fail
  go_ret
  exact ⟨rfl, X3.out.bel⟩
set_option maxHeartbeats 4000000 in
theorem prints_no_yes (s : ByteArray) (e t : Int) (w : World) (t0 : 0 ≤ t) (t1 : t < 18446744073709551616) (HP : Hid (OkS s)) (HD : Hid (okD (Tx.nv (Tx.bt s) 26 0) (Tx.nv (Tx.bt s) 26 1) (Tx.nv (Tx.bt s) 26 2) (Tx.nv (Tx.bt s) 26 3) (Tx.nv (Tx.bt s) 26 4) (Tx.nv (Tx.bt s) 26 5) = false)) (G0 : Hid (0 ≤ ds e t)) (G1 : Hid (ds e t < 66269577600)) :
    Calls Try.prog 6 #[.string s, .agg #[.int .i64 e, .int .u64 t]] w fun r w' => r = .returned (.bool true) ∧ Below w.heap.size w w' := by
  go_enter Try.func6, Try.ntmps6
  go_wp2_with fail
  refine (shown_any _).mono ?_
  rintro r w1 ⟨rfl, hb⟩
  have hz1 : w.heap.size < w1.heap.size := by have := hb.size; simp at this; omega
  have X1 : Hid (Kd w w1 e t) := ⟨by refine Below.trans ?_ (hb.mono (by simp)); exact (by repeat' (first | with_reducible exact Below.refl _ _ | with_reducible refine Below.setCell ?_ (by first | (simp; done) | (simp; omega) | omega) _ | with_reducible refine below_drewN ?_ _ | with_reducible refine Below.drew ?_ | with_reducible refine Below.alloc ?_ (by first | (simp; done) | (simp; omega) | omega) _)), hz1, by rw [hb.cell (by simp)]; simp, by rw [hb.cell (by simp)]; simp⟩
  clear hb
  go_wp2_with fail
  refine (parse_any s _).mono ?_
  rintro r w2 ⟨E, T, c, rfl, hp, hb⟩
  have X2 : Hid (Kd w w2 e t) := (X1.out).step hb
  obtain ⟨rfl, rfl, rfl⟩ := pa_no HP.out HD.out hp
  clear hp
  clear hb X1 hz1
  have hz2 := X2.out.top
  have a2 := X2.out.c0
  have b2 := X2.out.c1
  go_wp2_with fail
  refine (print_yes e t _ t0 t1 G0.out G1.out).mono ?_
  rintro r w3 ⟨y, m, d, h, n, u, rfl, hd, ht, hs, hb⟩
  have X3 : Hid (Kd w w3 e t) := (X2.out.alloc _).step hb
  have Q : Hid (Cal.Day y m d ∧ Cal.Time h n u ∧ Cal.sec y m d h n u = ds e t) := ⟨hd, ht, hs⟩
  clear hd ht hs
  unfold yesP
  clear hb X2 hz2
  have hz3 := X3.out.top
  have a3 := X3.out.c0
  have b3 := X3.out.c1
  go_wp2_with fail
  obtain ⟨v0, v1, v2⟩ := tb_bd t t0
  refine (parse_back e t y m d h n u _ t0 t1 Q.out.1 Q.out.2.1 Q.out.2.2).mono ?_
  rintro r w4 ⟨rfl, hb⟩
  have X4 : Hid (Kd w w4 e t) := (X3.out).step hb
  clear hb X3 hz3
  have hz4 := X4.out.top
  have a4 := X4.out.c0
  have b4 := X4.out.c1
  go_wp2_with fail
  go_ret
  exact ⟨rfl, (by repeat' (first | with_reducible exact Below.refl _ _ | with_reducible exact X4.out.bel | with_reducible refine Below.setCell ?_ (by first | (simp; done) | (simp; omega) | omega) _ | with_reducible refine below_drewN ?_ _ | with_reducible refine Below.drew ?_ | with_reducible refine Below.alloc ?_ (by first | (simp; done) | (simp; omega) | omega) _))⟩
set_option maxHeartbeats 4000000 in
theorem prints_yes_no (s : ByteArray) (e t : Int) (w : World) (t0 : 0 ≤ t) (t1 : t < 18446744073709551616) (HP : Hid (OkS s)) (HD : Hid (okD (Tx.nv (Tx.bt s) 26 0) (Tx.nv (Tx.bt s) 26 1) (Tx.nv (Tx.bt s) 26 2) (Tx.nv (Tx.bt s) 26 3) (Tx.nv (Tx.bt s) 26 4) (Tx.nv (Tx.bt s) 26 5) = true)) (HG : Hid (ds e t < 0 ∨ 66269577600 ≤ ds e t)) :
    Calls Try.prog 6 #[.string s, .agg #[.int .i64 e, .int .u64 t]] w fun r w' => r = .returned (.bool true) ∧ Below w.heap.size w w' := by
  go_enter Try.func6, Try.ntmps6
  go_wp2_with fail
  refine (shown_any _).mono ?_
  rintro r w1 ⟨rfl, hb⟩
  have hz1 : w.heap.size < w1.heap.size := by have := hb.size; simp at this; omega
  have X1 : Hid (Kd w w1 e t) := ⟨by refine Below.trans ?_ (hb.mono (by simp)); exact (by repeat' (first | with_reducible exact Below.refl _ _ | with_reducible refine Below.setCell ?_ (by first | (simp; done) | (simp; omega) | omega) _ | with_reducible refine below_drewN ?_ _ | with_reducible refine Below.drew ?_ | with_reducible refine Below.alloc ?_ (by first | (simp; done) | (simp; omega) | omega) _)), hz1, by rw [hb.cell (by simp)]; simp, by rw [hb.cell (by simp)]; simp⟩
  clear hb
  go_wp2_with fail
  refine (parse_any s _).mono ?_
  rintro r w2 ⟨E, T, c, rfl, hp, hb⟩
  have X2 : Hid (Kd w w2 e t) := (X1.out).step hb
  obtain ⟨rfl, rfl, rfl⟩ := pa_yes HP.out HD.out hp
  clear hp
  clear hb X1 hz1
  have hz2 := X2.out.top
  have a2 := X2.out.c0
  have b2 := X2.out.c1
  go_wp2_with fail
  refine (print_back s _ HP.out HD.out).mono ?_
  rintro r w3 ⟨rfl, hb⟩
  have X3 : Hid (Kd w w3 e t) := (X2.out.alloc _).step hb
  clear hb X2 hz2
  have hz3 := X3.out.top
  have a3 := X3.out.c0
  have b3 := X3.out.c1
  go_wp2_with fail
  refine (print_no e t _ t0 t1 HG.out).mono ?_
  rintro r w4 ⟨rfl, hb⟩
  have X4 : Hid (Kd w w4 e t) := (X3.out).step hb
  unfold noP
  clear hb X3 hz3
  have hz4 := X4.out.top
  have a4 := X4.out.c0
  have b4 := X4.out.c1
  go_wp2_with fail
  go_ret
  exact ⟨rfl, X4.out.bel⟩
set_option maxHeartbeats 4000000 in
theorem prints_yes_yes (s : ByteArray) (e t : Int) (w : World) (t0 : 0 ≤ t) (t1 : t < 18446744073709551616) (HP : Hid (OkS s)) (HD : Hid (okD (Tx.nv (Tx.bt s) 26 0) (Tx.nv (Tx.bt s) 26 1) (Tx.nv (Tx.bt s) 26 2) (Tx.nv (Tx.bt s) 26 3) (Tx.nv (Tx.bt s) 26 4) (Tx.nv (Tx.bt s) 26 5) = true)) (G0 : Hid (0 ≤ ds e t)) (G1 : Hid (ds e t < 66269577600)) :
    Calls Try.prog 6 #[.string s, .agg #[.int .i64 e, .int .u64 t]] w fun r w' => r = .returned (.bool true) ∧ Below w.heap.size w w' := by
  go_enter Try.func6, Try.ntmps6
  go_wp2_with fail
  refine (shown_any _).mono ?_
  rintro r w1 ⟨rfl, hb⟩
  have hz1 : w.heap.size < w1.heap.size := by have := hb.size; simp at this; omega
  have X1 : Hid (Kd w w1 e t) := ⟨by refine Below.trans ?_ (hb.mono (by simp)); exact (by repeat' (first | with_reducible exact Below.refl _ _ | with_reducible refine Below.setCell ?_ (by first | (simp; done) | (simp; omega) | omega) _ | with_reducible refine below_drewN ?_ _ | with_reducible refine Below.drew ?_ | with_reducible refine Below.alloc ?_ (by first | (simp; done) | (simp; omega) | omega) _)), hz1, by rw [hb.cell (by simp)]; simp, by rw [hb.cell (by simp)]; simp⟩
  clear hb
  go_wp2_with fail
  refine (parse_any s _).mono ?_
  rintro r w2 ⟨E, T, c, rfl, hp, hb⟩
  have X2 : Hid (Kd w w2 e t) := (X1.out).step hb
  obtain ⟨rfl, rfl, rfl⟩ := pa_yes HP.out HD.out hp
  clear hp
  clear hb X1 hz1
  have hz2 := X2.out.top
  have a2 := X2.out.c0
  have b2 := X2.out.c1
  go_wp2_with fail
  refine (print_back s _ HP.out HD.out).mono ?_
  rintro r w3 ⟨rfl, hb⟩
  have X3 : Hid (Kd w w3 e t) := (X2.out.alloc _).step hb
  clear hb X2 hz2
  have hz3 := X3.out.top
  have a3 := X3.out.c0
  have b3 := X3.out.c1
  go_wp2_with fail
  refine (print_yes e t _ t0 t1 G0.out G1.out).mono ?_
  rintro r w4 ⟨y, m, d, h, n, u, rfl, hd, ht, hs, hb⟩
  have X4 : Hid (Kd w w4 e t) := (X3.out).step hb
  have Q : Hid (Cal.Day y m d ∧ Cal.Time h n u ∧ Cal.sec y m d h n u = ds e t) := ⟨hd, ht, hs⟩
  clear hd ht hs
  unfold yesP
  clear hb X3 hz3
  have hz4 := X4.out.top
  have a4 := X4.out.c0
  have b4 := X4.out.c1
  go_wp2_with fail
  obtain ⟨v0, v1, v2⟩ := tb_bd t t0
  refine (parse_back e t y m d h n u _ t0 t1 Q.out.1 Q.out.2.1 Q.out.2.2).mono ?_
  rintro r w5 ⟨rfl, hb⟩
  have X5 : Hid (Kd w w5 e t) := (X4.out).step hb
  clear hb X4 hz4
  have hz5 := X5.out.top
  have a5 := X5.out.c0
  have b5 := X5.out.c1
  go_wp2_with fail
  go_ret
  exact ⟨rfl, (by repeat' (first | with_reducible exact Below.refl _ _ | with_reducible exact X5.out.bel | with_reducible refine Below.setCell ?_ (by first | (simp; done) | (simp; omega) | omega) _ | with_reducible refine below_drewN ?_ _ | with_reducible refine Below.drew ?_ | with_reducible refine Below.alloc ?_ (by first | (simp; done) | (simp; omega) | omega) _))⟩
theorem StampPrints_row (s : ByteArray) (e t : Int) (w : World) (_w0 : s.size ≤ maxLen) (_w1 : (Lit.int .i64 e).wf = true) (w2 : (Lit.int .u64 t).wf = true) :
    Calls Try.prog 6 #[.string s, .agg #[.int .i64 e, .int .u64 t]] w fun r w' => r = .returned (.bool true) ∧ Below w.heap.size w w' := by
  obtain ⟨t0, t1⟩ := bounds_u64 w2
  by_cases g : ds e t < 0 ∨ 66269577600 ≤ ds e t
  · by_cases h : OkS s
    · cases hd : okD (Tx.nv (Tx.bt s) 26 0) (Tx.nv (Tx.bt s) 26 1) (Tx.nv (Tx.bt s) 26 2) (Tx.nv (Tx.bt s) 26 3) (Tx.nv (Tx.bt s) 26 4) (Tx.nv (Tx.bt s) 26 5)
      · exact prints_no_no s e t w t0 (by omega) h hd g
      · exact prints_yes_no s e t w t0 (by omega) h hd g
    · exact prints_bad_no s e t w t0 (by omega) h g
  · by_cases h : OkS s
    · cases hd : okD (Tx.nv (Tx.bt s) 26 0) (Tx.nv (Tx.bt s) 26 1) (Tx.nv (Tx.bt s) 26 2) (Tx.nv (Tx.bt s) 26 3) (Tx.nv (Tx.bt s) 26 4) (Tx.nv (Tx.bt s) 26 5)
      · exact prints_no_yes s e t w t0 (by omega) h hd (show _ ≤ _ by omega) (show _ < _ by omega)
      · exact prints_yes_yes s e t w t0 (by omega) h hd (show _ ≤ _ by omega) (show _ < _ by omega)
    · exact prints_bad_yes s e t w t0 (by omega) h (show _ ≤ _ by omega) (show _ < _ by omega)
end Go.Proofs.Ytifaneckfnjgiab
