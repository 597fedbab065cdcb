/- That the law StampNext returns true. -/
import Derived.Test.YtifaneckfnjgiabStYa
import Derived.Test.YtifaneckfnjgiabStYb
import Derived.WalkKit
import Derived.WalkSpells
import Derived.WalkLawsBesides
import Derived.Handy
import Derived.Below
namespace Go.Proofs.Ytifaneckfnjgiab
open Go.RowKit
set_option maxRecDepth 100000 in
set_option maxHeartbeats 2000000 in
theorem next2 (t q : Int) (w : World) (t0 : 0 ≤ t) (t1 : t < 18446744073709551616) (q0 : 0 ≤ q) (q1 : q < 18446744073709551616) (hq : IntKind.u64.wrap (t + 4294967296) = q) (hl : q < t) :
    Calls Try.prog 4 #[.agg #[.int .i64 9223372036854775807, .int .u64 t]] w fun r w' => r = .returned (.bool true) ∧ Below w.heap.size w w' := by
  have HF : Hid (ds 9223372036854775807 t < 0 ∨ 66269577600 ≤ ds 9223372036854775807 t) := Or.inr (by unfold ds; omega)
  go_enter Try.func4, Try.ntmps4
  go_wp2_with fail
  refine (shown_any _).mono ?_
  rintro r w1 ⟨rfl, hb⟩
  have hz1 : w.heap.size < w1.heap.size := by have := hb.size; simp at this; omega
  have X1 : Hid (Kd w w1 9223372036854775807 t) := ⟨by refine Below.trans ?_ (hb.mono (by simp)); exact (by repeat' (first | with_reducible exact Below.refl _ _ | with_reducible refine Below.setCell ?_ (by first | (simp; done) | (simp; omega) | omega) _ | with_reducible refine below_drewN ?_ _ | with_reducible refine Below.drew ?_ | with_reducible refine Below.alloc ?_ (by first | (simp; done) | (simp; omega) | omega) _)), hz1, by rw [hb.cell (by simp)]; simp, by rw [hb.cell (by simp)]; simp⟩
  have a1 := X1.out.c0
  have b1 := X1.out.c1
  clear hb
  go_wp2_with fail
  refine (ofDate_no 9223372036854775807 t _ t0 t1 HF.out).mono ?_
  rintro r w2 ⟨rfl, hb⟩
  unfold noC
  have X2 : Hid (Kd w w2 9223372036854775807 t) := X1.out.step hb
  clear hb X1 a1 b1 hz1
  have hz2 := X2.out.top
  have a2 := X2.out.c0
  have b2 := X2.out.c1
  go_wp2_with fail
  refine (ofDate_any _ _ _ q0 q1).mono ?_
  rintro r w3 ⟨y', m', d', h', n', s', f', c', rfl, _, hb⟩
  have X3 : Hid (Kd w w3 9223372036854775807 t) := ((X2.out.alloc _).alloc _).step hb
  have hz3 := X3.out.top
  clear hb X2 a2 b2 hz2
  go_wp2
  go_ret
  exact ⟨rfl, (by repeat' (first | with_reducible exact Below.refl _ _ | with_reducible exact X3.out.bel | with_reducible refine Below.setCell ?_ (by first | (simp; done) | (simp; omega) | omega) _ | with_reducible refine below_drewN ?_ _ | with_reducible refine Below.drew ?_ | with_reducible refine Below.alloc ?_ (by first | (simp; done) | (simp; omega) | omega) _))⟩
theorem StampNext_row (e t : Int) (w : World) (w0 : (Lit.int .i64 e).wf = true) (w1 : (Lit.int .u64 t).wf = true) :
    Calls Try.prog 4 #[.agg #[.int .i64 e, .int .u64 t]] w fun r w' => r = .returned (.bool true) ∧ Below w.heap.size w w' := by
  obtain ⟨e0, e1⟩ := bounds_i64 w0
  obtain ⟨t0, t1⟩ := bounds_u64 w1
  have hq : IntKind.u64.wrap (t + 4294967296) = (t + 4294967296) % 18446744073709551616 := by simp only [IntKind.wrap_u64]
  by_cases hl : (t + 4294967296) % 18446744073709551616 < t
  · by_cases he : e < 9223372036854775807
    · exact next1 e t _ w t0 (by omega) (by omega) (by omega) e0 he hq hl (show _ ∧ _ from ⟨by unfold ds; omega, by omega⟩)
    · obtain rfl : e = 9223372036854775807 := by omega
      exact next2 t _ w t0 (by omega) (by omega) (by omega) hq hl
  · exact next0 e t _ w t0 (by omega) (by omega) (by omega) hq (by omega) (show _ ∧ _ from ⟨by unfold ds; omega, by omega⟩)
end Go.Proofs.Ytifaneckfnjgiab
