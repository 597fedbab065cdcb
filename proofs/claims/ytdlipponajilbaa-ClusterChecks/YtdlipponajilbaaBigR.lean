/- What root of the reference's whole numbers returns: the greatest whole number whose square is at most the number. -/
import Derived.Test.YtdlipponajilbaaBigT
import Derived.WalkKit
import Derived.WalkSpells
import Derived.WalkLawsBesides
import Derived.Handy
namespace Bg
theorem pow16 (k : Nat) : (65536 : Nat) ^ k = 2 ^ (16 * k) := by rw [show (65536 : Nat) = 2 ^ 16 from by decide, ← Nat.pow_mul]
theorem le_sq (F : Nat) : F ≤ F * F := Nat.le_mul_self F
/-- a guess and a digit of the root are no longer than the number -/
theorem root_len (F N k p : Nat) (h : F * F ≤ N) (hN : N < 65536 ^ k) (hp : p ≤ 16 * k) : F + 2 ^ p < 65536 ^ (k + 1) := by
  have h1 := le_sq F
  have h2 : 2 ^ p ≤ 65536 ^ k := by rw [pow16]; exact Nat.pow_le_pow_right (by decide) hp
  rw [Nat.pow_succ]
  omega
theorem root_start (N k : Nat) (hN : N < 65536 ^ k) : N < (0 + 2 ^ (16 * k + 1)) * (0 + 2 ^ (16 * k + 1)) := by
  rw [Nat.zero_add, ← Nat.pow_add]
  rw [pow16] at hN
  exact Nat.lt_of_lt_of_le hN (Nat.pow_le_pow_right (by decide) (by omega))
end Bg
namespace Go.Proofs.Ytdlipponajilbaa
open Go.RowKit
/-- ahead of each digit of a root -/
structure Rw (w wr : World) (N p : Nat) (ro : Option Addr) (rc : Nat) (R : List Nat) : Prop where
  rd : Rd wr ro R
  can : Bg.can R
  cap : R.length ≤ rc
  new : New (w.heap.size + 1) ro rc
  le : Bg.val R * Bg.val R ≤ N
  lt : N < (Bg.val R + 2 ^ p) * (Bg.val R + 2 ^ p)
  below : Below (w.heap.size + 1) (w.alloc (.cells #[.slice none 0 0, .bool false] 69)) wr
  size : w.heap.size + 1 ≤ wr.heap.size
theorem Rw.under {w wr : World} {N p : Nat} {ro : Option Addr} {rc : Nat} {R : List Nat} (h : Rw w wr N p ro rc R) : Below w.heap.size w wr := ((Below.refl _ _).alloc (Nat.le_refl _) _).trans (h.below.mono (by omega))
set_option maxHeartbeats 2000000 in
theorem rroot_any (ao : Option Addr) (A : List Nat) (ca : Nat) (w : World) (hA : (A.length : Int) ≤ 300) (ra : Rd w ao A) (da : Bg.can A) :
    Calls Try.prog 77 #[.slice ao A.length ca] w fun e w' => ∃ (v : Value) (F : Nat), e = .returned v ∧ IsBig w.heap.size w' v (F : Int) ∧ F * F ≤ Bg.val A ∧ Bg.val A < (F + 1) * (F + 1) ∧ Below w.heap.size w w' := by
  have ra' : Hid (Rd w ao A) := ra
  have da' : Hid (Bg.can A) := da
  have hfd := field_run
  obtain ⟨N, hN⟩ : ∃ N, N = Bg.val A := ⟨_, rfl⟩
  have hN' : Hid (N = Bg.val A ∧ N < 65536 ^ A.length) := ⟨hN, by rw [hN]; exact Bg.val_lt A da.1⟩
  rw [← hN]
  clear ra da hN
  go_enter Try.func77, Try.ntmps77
  go_wp2
  go_loopw [3, 4] (fun v i wr => ∃ (j : Int) (ro : Option Addr) (rc : Nat) (R : List Nat), v = .slice ro R.length rc ∧ i = .int .i64 j ∧ -1 ≤ j ∧ j ≤ 16 * (A.length : Int) ∧ Hid (Rw w wr N (j + 1).toNat ro rc R)) (fun _ i _ => (intOf i + 1).toNat)
  case atStart =>
    refine ⟨16 * (A.length : Int), some ⟨w.heap.size + 1, 0, none⟩, 0, [], rfl, rfl, by omega, by omega, fun k hk => absurd hk (by simp), Bg.can_nil, by simp, ⟨fun h => by simp at h, fun ad h => by simp at h; subst h; simp⟩, by simp [Bg.val], ?_, (Below.refl _ _).alloc (by simp) _, by simp⟩
    have := Bg.root_start N A.length hN'.out.2
    rw [show (16 * (A.length : Int) + 1).toNat = 16 * A.length + 1 from by omega]
    exact this
  case round =>
    obtain ⟨j, ro, rc, R, rfl, rfl, hj0, hj1, hH⟩ := hrel
    by_cases hj : j < 0
    · have hp0 : (j + 1).toNat = 0 := by omega
      have r0 : wr.heap[w.heap.size]? = some (.cells #[.slice none 0 0, .bool false] 69 (0, 0)) := (hH.out.below.block _ (by omega)).trans (heap_alloc_new _ _)
      obtain ⟨r1, r2, r3, r4⟩ := two_cells r0
      have HP : Hid ((j + 1).toNat = 0) := hp0
      clear r0 hp0 hfd
      go_wp2
      have hne : ∀ ad, ro = some ad → ad.block ≠ w.heap.size := fun ad e => by have := hH.out.new.2 ad e; omega
      have hlt := hH.out.lt
      rw [HP.out, Nat.pow_zero] at hlt
      exact bodyPost_ret (v := .agg #[.slice ro R.length rc, .bool false]) (by simp [results, Try.results77, go_sem, r1, r2]) rfl ⟨_, Bg.val R, rfl, IsBig.mk hH.out.cap ((hH.out.rd.store hne _).store hne _) hH.out.can rfl (hH.out.new.mono (by omega)), hH.out.le, hlt, (hH.out.under.setCell (Nat.le_refl _) _).setCell (Nat.le_refl _) _⟩
    · obtain ⟨p, hp⟩ := Int.eq_ofNat_of_zero_le (show 0 ≤ j by omega)
      have hp' : Hid (j = (p : Int)) := hp
      clear hp
      go_wp2_with fail
      refine (two_any j _ (by omega) (by omega)).mono ?_
      rintro e w1 ⟨v1, rfl, ⟨o, ds, c, ma, rfl, t1, t2, t3, t4, t5⟩, k1⟩
      have e1 : Bg.val ds = 2 ^ p := by
        have e2 : ((2 ^ p : Nat) : Int) = sgn ma (Bg.val ds) := by rw [← t4, hp'.out, Int.toNat_natCast, Int.natCast_pow]; rfl
        have e3 := natAbs_sgn ma (Bg.val ds)
        rw [← e2] at e3
        simpa using e3.symm
      have hl1 : ds.length ≤ 10000 := by
        have := Bg.can_len t3 (A.length + 1) (by rw [e1, Bg.pow16]; have := hp'.out; exact Nat.pow_lt_pow_right (by decide) (by omega)); omega
      have hl1' : (ds.length : Int) ≤ 10000 := by omega
      have hRl : R.length ≤ A.length + 1 := Bg.can_len hH.out.can _ (Nat.lt_of_le_of_lt (Nat.le_add_right _ (2 ^ p)) (Bg.root_len _ N A.length p hH.out.le hN'.out.2 (by have := hp'.out; omega)))
      have hRl' : (R.length : Int) ≤ 301 := by omega
      have F1 : Hid (Rd w1 o ds ∧ Bg.dok ds ∧ Bg.val ds = 2 ^ p ∧ Rd w1 ro R ∧ Below wr.heap.size wr w1) := ⟨t2, t3.1, e1, hH.out.rd.below k1 (Nat.le_refl _), k1⟩
      clear t1 t2 t3 t4 t5 k1 e1 hl1 hRl
      go_wp2_with fail
      refine (plus_any ro o R ds rc c w1 (by omega) (by omega) F1.out.2.2.2.1 F1.out.1 hH.out.can.1 F1.out.2.1).mono ?_
      rintro e w2 ⟨xo, X, xc, rfl, t1, t2, t3, t4, t5, t6⟩
      have hXv : Bg.val X = Bg.val R + 2 ^ p := by rw [t4, F1.out.2.2.1]
      have hXl : X.length ≤ A.length + 1 := Bg.can_len t3 _ (by rw [hXv]; exact Bg.root_len _ N A.length p hH.out.le hN'.out.2 (by have := hp'.out; omega))
      have hXl' : (X.length : Int) ≤ 301 := by omega
      have B2 : Below wr.heap.size wr w2 := Below.then F1.out.2.2.2.2 t6
      have F2 : Hid (Rd w2 xo X ∧ Bg.can X ∧ Bg.val X = Bg.val R + 2 ^ p ∧ X.length ≤ xc ∧ New wr.heap.size xo xc ∧ Below wr.heap.size wr w2) := ⟨t2, t3, hXv, t1, t5.mono F1.out.2.2.2.2.size, B2⟩
      clear t1 t2 t3 t4 t5 t6 hXv hXl B2
      go_wp2_with fail
      refine (times_any xo xo X X xc xc w2 (by omega) (by omega) F2.out.1 F2.out.1 F2.out.2.1.1 F2.out.2.1.1).mono ?_
      rintro e w3 ⟨tq, T, tc, rfl, t1, t2, t3, t4, t5, t6⟩
      have hTl : T.length ≤ 2000 := by
        have h1 := Bg.val_lt X F2.out.2.1.1
        have := Bg.can_len t3 (X.length + X.length) (by rw [t4, Nat.pow_add]; exact Nat.mul_lt_mul'' h1 h1)
        omega
      have hTl' : (T.length : Int) ≤ 2000 := by omega
      have B3 : Below wr.heap.size wr w3 := Below.then F2.out.2.2.2.2.2 t6
      have F3 : Hid (Rd w3 tq T ∧ Bg.can T ∧ Bg.val T = Bg.val X * Bg.val X ∧ Below wr.heap.size wr w3 ∧ Rd w3 xo X ∧ Rd w3 ao A ∧ Below w.heap.size w w3) := ⟨t2, t3, t4, B3, F2.out.1.below t6 (Nat.le_refl _), ra'.out.below (hH.out.under.trans (B3.mono hH.out.under.size)) (Nat.le_refl _), hH.out.under.trans (B3.mono hH.out.under.size)⟩
      clear t1 t2 t3 t4 t5 t6 hTl B3
      go_wp2_with fail
      refine (compare_any tq ao T A tc ca w3 (by omega) (by omega) F3.out.1 F3.out.2.2.2.2.2.1 F3.out.2.1 da'.out).mono ?_
      rintro e w4 ⟨r, rfl, hr, n, rfl⟩
      have CM : Hid ((r ≤ 0 → Bg.val X * Bg.val X ≤ N) ∧ (¬ r ≤ 0 → N < Bg.val X * Bg.val X)) := by
        have e1 := F3.out.2.2.1
        have e2 := hN'.out.1
        rw [← e1, e2]
        exact ⟨fun _ => by omega, fun _ => by omega⟩
      clear hr
      have hp1 : (j + 1).toNat = p + 1 := by have := hp'.out; omega
      have hp0 : (j - 1 + 1).toNat = p := by have := hp'.out; omega
      have BW : Hid (Below (w.heap.size + 1) (w.alloc (.cells #[.slice none 0 0, .bool false] 69)) (w3.drewN n) ∧ w.heap.size + 1 ≤ (w3.drewN n).heap.size) := ⟨below_drewN (hH.out.below.trans (F3.out.2.2.2.1.mono hH.out.size)) n, Nat.le_trans hH.out.size F3.out.2.2.2.1.size⟩
      have HP : Hid ((j + 1).toNat = p + 1 ∧ (j - 1 + 1).toNat = p) := ⟨hp1, hp0⟩
      clear hp1 hp0 hfd
      by_cases hr0 : r ≤ 0
      · have NX : Hid (Rw w (w3.drewN n) N (j - 1 + 1).toNat xo xc X) := by
          refine ⟨F3.out.2.2.2.2.1.drew n, F2.out.2.1, F2.out.2.2.2.1, F2.out.2.2.2.2.1.mono hH.out.size, CM.out.1 hr0, ?_, BW.out.1, BW.out.2⟩
          have h1 := hH.out.lt
          rw [HP.out.1, Nat.pow_succ] at h1
          rw [HP.out.2, F2.out.2.2.1, Nat.add_assoc, show 2 ^ p + 2 ^ p = 2 ^ p * 2 from by omega]
          exact h1
        go_wp2
        go_roundw
        case rel => exact ⟨j - 1, xo, xc, X, rfl, by go_num, by omega, by omega, NX.out⟩
        case measure => simp [intOf]; omega
      · have NX : Hid (Rw w (w3.drewN n) N (j - 1 + 1).toNat ro rc R) := by
          refine ⟨(hH.out.rd.below F3.out.2.2.2.1 (Nat.le_refl _)).drew n, hH.out.can, hH.out.cap, hH.out.new, hH.out.le, ?_, BW.out.1, BW.out.2⟩
          rw [HP.out.2, ← F2.out.2.2.1]
          exact CM.out.2 hr0
        go_wp2
        go_roundw
        case rel => exact ⟨j - 1, ro, rc, R, rfl, by go_num, by omega, by omega, NX.out⟩
        case measure => simp [intOf]; omega
end Go.Proofs.Ytdlipponajilbaa
