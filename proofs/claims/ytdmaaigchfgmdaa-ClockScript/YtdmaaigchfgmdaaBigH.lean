/- What s, negative, cut and span of the reference's whole numbers return. -/
import Derived.Test.YtdmaaigchfgmdaaBigG
import Derived.Test.YtdmaaigchfgmdaaBits
import Derived.Test.YtdmaaigchfgmdaaNum
import Derived.WalkKit
import Derived.WalkSpells
import Derived.WalkLawsBesides
import Derived.Handy
import Derived.Deep.RegionHeld3
namespace Bg
theorem drop_le (a : List Nat) (k : Nat) (h : k ≤ a.length) : val (a.drop k) ≤ val a := by
  have h1 := val_split a k h
  have h2 : 1 ≤ 65536 ^ k := Nat.pos_of_ne_zero (by simp)
  have h3 := Nat.mul_le_mul_right (val (a.drop k)) h2
  omega
end Bg
namespace Go.Proofs.Ytdmaaigchfgmdaa
open Go.RowKit
theorem neg_sgn (m : Bool) (n : Nat) : -sgn m n = sgn (!m) n := by cases m <;> simp [sgn]
/-- a new block of two cells and what lies behind it -/
theorem new_one (w : World) (x0 x1 : Value) (t : TypeId) (y : Obj) : ((w.alloc (.cells #[x0, x1] t)).alloc y).heap[w.heap.size]? = some (.cells #[x0, x1] t (0, 0)) := by
  rw [Below.heap_alloc _ _ _ (by simp), heap_alloc_new]
set_option maxRecDepth 20000 in
set_option maxHeartbeats 400000 in
theorem negative_any (B : Nat) (ao : Option Addr) (A : List Nat) (ca : Nat) (ma : Bool) (w : World) (hc : A.length ≤ ca) (ra : Rd w ao A) (da : Bg.can A) (na : New B ao ca) :
    Calls Try.prog 63 #[.agg #[.slice ao A.length ca, .bool ma]] w fun e w' => ∃ v, e = .returned v ∧ IsBig B w' v (-sgn ma (Bg.val A)) ∧ Below w.heap.size w w' := by
  have F : Hid (A.length ≤ ca ∧ Rd w ao A ∧ Bg.can A ∧ New B ao ca) := ⟨hc, ra, da, na⟩
  clear hc ra da na
  go_enter Try.func63, Try.ntmps63
  go_wp2
  have HB : Below w.heap.size w ((w.alloc (.cells #[.slice ao A.length ca, .bool ma] 80)).alloc (.cells #[.slice ao A.length ca, .bool !ma] 80)) := ((Below.refl _ _).alloc (Nat.le_refl _) _).alloc (by simp) _
  exact bodyPost_ret (v := .agg #[.slice ao A.length ca, .bool !ma]) (by simp [results, Try.results63, go_sem]) rfl ⟨_, rfl, IsBig.mk F.out.1 (F.out.2.1.below HB (Nat.le_refl _)) F.out.2.2.1 (neg_sgn _ _) F.out.2.2.2, HB⟩
set_option maxRecDepth 20000 in
set_option maxHeartbeats 400000 in
theorem s_any (n : Int) (w : World) (hn0 : -9223372036854775808 ≤ n) (hn1 : n ≤ 9223372036854775807) :
    Calls Try.prog 51 #[.int .i64 n] w fun e w' => ∃ v, e = .returned v ∧ IsBig w.heap.size w' v n ∧ Below w.heap.size w w' := by
  go_enter Try.func51, Try.ntmps51
  go_wp2_with fail
  refine (of_any n _ hn0 hn1).mono ?_
  rintro e w1 ⟨v, rfl, ⟨o, ds, c, m, rfl, h1, h2, h3, h4, h5⟩, hb⟩
  have r0 : w1.heap[w.heap.size]? = some (.cells #[.slice none 0 0, .bool false] 80 (0, 0)) := (hb.block _ (by simp)).trans (heap_alloc_new _ _)
  obtain ⟨r1, r2, r3, r4⟩ := two_cells r0
  have F : Hid (ds.length ≤ c ∧ Rd w1 o ds ∧ Bg.can ds ∧ n = sgn m (Bg.val ds) ∧ New (w.heap.size + 1) o c) := ⟨h1, h2, h3, h4, by simpa using h5⟩
  have HB : Hid (Below w.heap.size w w1) := ((Below.refl _ _).alloc (Nat.le_refl _) _).trans (hb.mono (by simp))
  clear h1 h2 h3 h4 h5 hb r0
  go_wp2
  have hne : ∀ ad, o = some ad → ad.block ≠ w.heap.size := fun ad e => by have := F.out.2.2.2.2.2 ad e; omega
  exact bodyPost_ret (v := .agg #[.slice o ds.length c, .bool m]) (by simp [results, Try.results51, go_sem, r1, r2]) rfl ⟨_, rfl, IsBig.mk F.out.1 ((F.out.2.1.store hne _).store hne _) F.out.2.2.1 F.out.2.2.2.1 (F.out.2.2.2.2.mono (by omega)), (HB.out.setCell (Nat.le_refl _) _).setCell (Nat.le_refl _) _⟩
theorem cl_sgn_far (ma : Bool) (N : Nat) (most : Int) (h0 : 0 ≤ most) (h : most ≤ (N : Int)) : Fx.cl most (sgn ma N) = if ma then -most else most := by
  cases ma
  · simp [sgn]; exact Fx.cl_up h0 h
  · simp [sgn]; exact Fx.cl_dn h0 (by omega)
theorem cl_sgn_in (ma : Bool) (N : Nat) (most : Int) (h : (N : Int) < most) : Fx.cl most (sgn ma N) = sgn ma N := by
  cases ma <;> simp [sgn] <;> exact Fx.cl_in (by omega) (by omega)
theorem sgn_len {m : Bool} {ds : List Nat} {most : Int} (h3 : Bg.can ds) (h4 : most = sgn m (Bg.val ds)) (h0 : 0 ≤ most) (h1 : most ≤ 9223372036854775807) : (ds.length : Int) ≤ 1000 := by
  have hv : Bg.val ds < 65536 ^ 4 := by cases m <;> simp [sgn] at h4 <;> omega
  have := Bg.can_len h3 4 hv
  omega
theorem field_run (x y : Value) (w : World) : Sem.run Try.prog (Instr.field 80 (.agg #[x, y]) 0) w = .ok x w := by kernel_rfl
theorem one_block {w w1 : World} {x0 x1 : Value} {t : TypeId} {n : Nat} (h : Below (w.alloc (.cells #[x0, x1] t)).heap.size ((w.alloc (.cells #[x0, x1] t)).drewN n) w1) :
    w1.cell? ⟨w.heap.size, 0, none⟩ = some x0 ∧ w1.cell? ⟨w.heap.size, 1, none⟩ = some x1 := by
  have b0 : w1.heap[w.heap.size]? = some (.cells #[x0, x1] t (0, 0)) := (h.block _ (by simp)).trans (heap_alloc_new w (.cells #[x0, x1] t))
  exact ⟨(two_cells b0).1, (two_cells b0).2.1⟩
theorem one_below {w w1 : World} {x : Obj} {n : Nat} (h : Below (w.alloc x).heap.size ((w.alloc x).drewN n) w1) : Below w.heap.size w w1 :=
  (below_drewN ((Below.refl _ _).alloc (Nat.le_refl _) _) n).trans (h.mono (by simp))
set_option maxRecDepth 20000 in
set_option maxHeartbeats 2000000 in
theorem rcut_any (ao : Option Addr) (A : List Nat) (ca : Nat) (ma : Bool) (most : Int) (w : World) (hA : (A.length : Int) ≤ 1000) (ra : Rd w ao A) (da : Bg.can A) (h0 : 0 ≤ most) (h1 : most ≤ 9223372036854775807) :
    Calls Try.prog 54 #[.agg #[.slice ao A.length ca, .bool ma], .int .i64 most] w fun e w' => e = .returned (.int .i64 (Fx.cl most (sgn ma (Bg.val A)))) ∧ Below w.heap.size w w' := by
  have ra' : Hid (Rd w ao A) := ra
  have da' : Hid (Bg.can A) := da
  clear ra da
  have hfd := field_run
  go_enter Try.func54, Try.ntmps54
  go_wp2
  go_region_held3 (fun w' => w'.cell? ⟨w.heap.size, 0, none⟩ = some (.slice ao A.length ca) ∧ w'.cell? ⟨w.heap.size, 1, none⟩ = some (.bool ma)) (first | exact ⟨e0, e1⟩ | go_keep)
    (first | (go_at_call 55; refine (of_any most _ (by omega) h1).mono ?_; rintro e w1 ⟨v, rfl, ⟨o, ds, c, m, rfl, t1, t2, t3, t4, t5⟩, t6⟩; obtain ⟨e0, e1⟩ := one_block (n := 1) t6; have FF : Hid (ds.length ≤ c ∧ Rd w1 o ds ∧ Bg.can ds ∧ most = sgn m (Bg.val ds) ∧ Below w.heap.size w w1) := ⟨t1, t2, t3, t4, one_below (n := 1) t6⟩; have hl : (ds.length : Int) ≤ 1000 := sgn_len t3 t4 h0 h1; clear t1 t2 t3 t4 t5 t6) | (go_at_call 52; refine (compare_any ao o A ds ca c w1 (by omega) (by omega) (ra'.out.below FF.out.2.2.2.2 (Nat.le_refl _)) FF.out.2.1 da'.out FF.out.2.2.1).mono ?_; rintro e w2 ⟨r, rfl, hr, n, rfl⟩))
  have hmost : most = ((Bg.val ds : Nat) : Int) := by
    have h4 := FF.out.2.2.2.1
    cases m <;> simp [sgn] at h4 <;> omega
  have HM : Hid (most = ((Bg.val ds : Nat) : Int)) := hmost
  have CM : Hid ((0 ≤ r → Bg.val ds ≤ Bg.val A) ∧ (¬ 0 ≤ r → Bg.val A < Bg.val ds)) := ⟨fun _ => by omega, fun _ => by omega⟩
  clear hr hmost hfd
  by_cases hr0 : 0 ≤ r
  · have hle := CM.out.1 hr0
    have hfar : Hid (Fx.cl most (sgn ma (Bg.val A)) = if ma then -most else most) := cl_sgn_far ma (Bg.val A) most h0 (by have := HM.out; omega)
    clear hle
    cases ma
    · go_wp2
      go_ret
      exact ⟨ret_i64 (by rw [hfar.out]; rfl), below_drewN FF.out.2.2.2.2 n⟩
    · go_wp2
      go_ret
      exact ⟨ret_i64 (by rw [hfar.out]; rfl), below_drewN FF.out.2.2.2.2 n⟩
  · have hlt := CM.out.2 hr0
    have hin : Hid (Fx.cl most (sgn ma (Bg.val A)) = sgn ma (Bg.val A) ∧ ((Bg.val A : Nat) : Int) < most) := ⟨cl_sgn_in ma (Bg.val A) most (by have := HM.out; omega), by have := HM.out; omega⟩
    clear hlt
    go_wp2
    go_loop [5, 6] (fun x i => ∃ (nn j : Int), x = .int .i64 nn ∧ i = .int .i64 j ∧ -1 ≤ j ∧ j < A.length ∧ 0 ≤ nn ∧ nn ≤ 9223372036854775807 ∧ Hid (nn = ((Bg.val (A.drop (j + 1).toNat) : Nat) : Int))) (fun _ i => (intOf i + 1).toNat)
    case atStart =>
      refine ⟨0, (A.length : Int) - 1, rfl, rfl, by omega, by omega, by omega, by omega, ?_⟩
      show _ = _
      rw [show ((A.length : Int) - 1 + 1).toNat = A.length from by omega, Bg.val_cmp_zero]; rfl
    case round =>
      obtain ⟨nn, j, rfl, rfl, hj0, hj1, hn0, hn1, hz⟩ := hrel
      by_cases hj : j < 0
      · have hz2 : Hid (nn = ((Bg.val A : Nat) : Int)) := by
          have := hz.out
          rw [show (j + 1).toNat = 0 from by omega, List.drop_zero] at this
          exact this
        cases ma
        · go_wp2
          go_ret
          exact ⟨ret_i64 (by rw [hin.out.1, hz2.out]; rfl), below_drewN FF.out.2.2.2.2 n⟩
        · go_wp2
          go_ret
          exact ⟨ret_i64 (by rw [hin.out.1, hz2.out]; rfl), below_drewN FF.out.2.2.2.2 n⟩
      · obtain ⟨b, x, g1, g2, g3, hx, x0, x1⟩ := ((ra'.out.below FF.out.2.2.2.2 (Nat.le_refl _)).drew n).at da'.out.1 j.toNat (by omega)
        have hix : ∀ w, Sem.run Try.prog (Instr.indexAt 50 (.slice ao A.length ca) (.int .i64 j)) w = .ok (.pointer (some ⟨b, j.toNat, none⟩)) w := idx_run A.length ca j.toNat j g1.out (by omega) (by omega)
        have hnx : Hid (nn * 65536 + x = ((Bg.val (A.drop j.toNat) : Nat) : Int)) := by
          have h1 := hz.out
          have h2 := hx.out
          rw [show (j + 1).toNat = j.toNat + 1 from by omega] at h1
          show _ = _
          rw [Bg.drop_at A j.toNat (by omega), Bg.val]
          omega
        have hbd : nn * 65536 + x ≤ 9223372036854775807 := by
          have h1 := Bg.drop_le A j.toNat (by omega)
          have h2 := hnx.out
          have h3 := hin.out.2
          omega
        go_wp2
        go_round
        case rel =>
          refine ⟨_, j - 1, rfl, by go_num, by omega, by omega, by omega, by omega, ?_⟩
          show _ = _
          rw [show (j - 1 + 1).toNat = j.toNat from by omega]
          exact hnx.out
        case measure => simp [intOf]; omega
set_option maxRecDepth 20000 in
set_option maxHeartbeats 400000 in
theorem rspan_any (ao : Option Addr) (A : List Nat) (ca : Nat) (ma : Bool) (w : World) (hA : (A.length : Int) ≤ 1000) (ra : Rd w ao A) (da : Bg.can A) :
    Calls Try.prog 53 #[.agg #[.slice ao A.length ca, .bool ma]] w fun e w' => e = .returned (.int .i64 (Fx.cl 4611686018427387904 (sgn ma (Bg.val A)))) ∧ Below w.heap.size w w' := by
  have F : Hid (Rd w ao A ∧ Bg.can A) := ⟨ra, da⟩
  clear ra da
  go_enter Try.func53, Try.ntmps53
  go_wp2_with fail
  have HB : Below w.heap.size w (w.alloc (.cells #[.slice ao A.length ca, .bool ma] 80)) := (Below.refl _ _).alloc (Nat.le_refl _) _
  refine (rcut_any ao A ca ma 4611686018427387904 _ hA (F.out.1.below HB (Nat.le_refl _)) F.out.2 (by decide) (by decide)).mono ?_
  rintro e w1 ⟨rfl, hb⟩
  have HB2 : Hid (Below w.heap.size w w1) := HB.trans (hb.mono (by simp))
  clear HB hb
  go_wp2
  go_ret
  exact ⟨rfl, HB2.out⟩
end Go.Proofs.Ytdmaaigchfgmdaa
