/- choose: who counts, an end's place and kind, one ahead of another, of the program and of the reference. -/
import Derived.Test.YtepbbaeamlimaabUM
import Derived.Test.YtepbbaeamlimaabShift
namespace Go.Proofs.Ytepbbaeamlimaab
open Go Go.RowKit Go.Sort Ch
set_option linter.unusedVariables false
theorem foi (n : Int) : floatOfInt .f64 n = Fl.fl n := rfl
theorem ret_cx {a b c d : Nat} (h : a = c) (h' : b = d) : Ending.returned (.complex .f64 a b) = .returned (.complex .f64 c d) := by rw [h, h']
set_option maxHeartbeats 400000 in
theorem endAt_any (p k : Int) (w : World) : Calls Try.prog 25 #[.int .i64 p, .int .i64 k] w fun e w' => e = .returned (.complex .f64 (Fl.fl p) (Fl.fl k)) ∧ w' = w := by
  go_enter Try.func25, Try.ntmps25
  go_wp2
  go_ret
  exact ⟨ret_cx (foi p) (foi k), rfl⟩
theorem conv_fi (t : TypeId) (k : Int) (hk : k.natAbs < 2 ^ 53) (ht : Try.prog.underlying t = some (.int .i64)) (u : World) : (convert 49 t (.float .f64 (Fl.fl k))).run Try.prog u = .ok (.int .i64 k) u := by
  refine run_convert_float_int u _ _ _ _ _ _ (by rw [Try.underlying49]; rfl) ht ?_
  unfold floatToIntVal
  rw [Fl.toInt_fl k hk]
  have e1 : IntKind.i64.min = -9223372036854775808 := by decide
  have e2 : IntKind.i64.max = 9223372036854775807 := by decide
  simp only [e1, e2]
  rw [if_pos (by omega)]
theorem kd_abs (z : Int) : (kd z).natAbs < 2 ^ 53 := by have := kd_bd z; omega
theorem okZ_abs {z : Int} (h : okZ z) : (plc z).natAbs < 2 ^ 53 := by have := okZ_plc h; omega
set_option maxHeartbeats 400000 in
theorem kindOf_any (z : Int) (w : World) : Calls Try.prog 19 #[enV z] w fun e w' => e = .returned (.int .i64 (kd z)) ∧ w' = w := by
  have h1 := conv_fi 3 (kd z) (kd_abs z) Try.underlying3
  unfold enV
  go_enter Try.func19, Try.ntmps19
  go_wp2
  go_ret
  exact ⟨rfl, rfl⟩
theorem sh16 {p : Int} (h0 : -17660905521152 ≤ p) (h1 : p ≤ 17660905521152) : Fx.sh p 16 = p * 65536 := by
  unfold Fx.sh
  rw [if_neg (by omega)]
  have e : p * 2 ^ (16 : Int).toNat = p * 65536 := rfl
  rw [e, Fx.cl_in (by omega) (by omega)]
theorem shm16 (p : Int) : Fx.sh p (-16) = p / 65536 := by
  unfold Fx.sh
  rw [if_pos (by omega)]
  rfl
set_option maxHeartbeats 400000 in
theorem spanOf_any (z : Int) (hz : okZ z) (w : World) : Calls Try.prog 14 #[enV z] w fun e w' => e = .returned (.int .i64 (plc z * 65536)) ∧ w' = w := by
  have h1 := conv_fi 23 (plc z) (okZ_abs hz) (by rw [Try.underlying23])
  have HB : Hid (-17660905521152 ≤ plc z ∧ plc z ≤ 17660905521152) := okZ_plc hz
  have HS : Hid (∀ u, Calls Try.prog 24 #[.int .i64 (plc z), .int .i64 16] u fun e w' => e = .returned (.int .i64 (plc z * 65536)) ∧ w' = u) := fun u => by
    have := shift_any (plc z) 16 u (by omega) (by omega)
    rw [sh16 HB.out.1 HB.out.2] at this
    exact this
  unfold enV
  go_enter Try.func14, Try.ntmps14
  go_wp2_with (go_at_call 24; refine (HS.out _).mono ?_; rintro e w' ⟨rfl, rfl⟩)
  go_ret
  exact ⟨rfl, rfl⟩
set_option maxHeartbeats 400000 in
theorem isAhead_raw (A B K L : Nat) (x y z : Bool) (h1 : (FloatKind.f64.format.order A B != some .eq) = x) (h2 : (FloatKind.f64.format.order A B == some .lt) = y) (h3 : (FloatKind.f64.format.order K L == some .lt) = z) (w : World) :
    Calls Try.prog 29 #[.complex .f64 A K, .complex .f64 B L] w fun e w' => e = .returned (.bool (if x = true then y else z)) ∧ w' = w := by
  cases x
  · go_enter Try.func29, Try.ntmps29
    go_wp2_with fail
    go_ret
    exact ⟨ret_bool' (by first | rfl | simp [h3]), rfl⟩
  · go_enter Try.func29, Try.ntmps29
    go_wp2_with fail
    go_ret
    exact ⟨ret_bool' (by first | rfl | simp [h2]), rfl⟩
theorem isAhead_any (a b : Int) (ha : okZ a) (hb : okZ b) (w : World) : Calls Try.prog 29 #[enV a, enV b] w fun e w' => e = .returned (.bool (decide (a < b))) ∧ w' = w := by
  have HN : (FloatKind.f64.format.order (Fl.fl (plc a)) (Fl.fl (plc b)) != some .eq) = decide (plc a ≠ plc b) := by
    unfold bne
    rw [Fl.eq_fl _ _ (okZ_abs ha) (okZ_abs hb)]
    by_cases h : plc a = plc b <;> simp [h]
  refine (isAhead_raw _ _ _ _ _ _ _ HN (Fl.lt_fl _ _ (okZ_abs ha) (okZ_abs hb)) (Fl.lt_fl _ _ (kd_abs a) (kd_abs b)) w).mono ?_
  rintro e w' ⟨rfl, rfl⟩
  refine ⟨ret_bool' ?_, rfl⟩
  have hz := z_lt a b
  by_cases hp : plc a = plc b
  · rw [if_neg (by simpa using hp), decide_eq_decide]
    omega
  · rw [if_pos (by simpa using hp), decide_eq_decide]
    omega
end Go.Proofs.Ytepbbaeamlimaab
