/- New and Lost of a line; how heavy pieces are; two rows of texts that are the same. -/
import Derived.Test.YthoilihokbakoaaNF
namespace Go.Proofs.Ythoilihokbakoaa
open Go Go.RowKit
theorem Li.fresh (w : World) (u : World) (hu : u = w.alloc (.cells (#[.bool false] ++ Array.replicate 82 (.int .u8 0) ++ #[.int .i64 0, .int .i64 0]) 38)) : Li u w.heap.size false [] 0 := by
  subst hu
  have hc : ∀ j, (w.alloc (.cells (#[.bool false] ++ Array.replicate 82 (.int .u8 0) ++ #[.int .i64 0, .int .i64 0]) 38)).cell? ⟨w.heap.size, j, none⟩ = (#[.bool false] ++ Array.replicate 82 (.int .u8 0) ++ #[.int .i64 0, .int .i64 0] : Array Value)[j]? := fun j => World.cell?_alloc_new w _ _ j
  refine ⟨by simp, fun j => World.frozen?_alloc_new w _ _ j, (hc 0).trans rfl, (hc 83).trans rfl, (hc 84).trans rfl, Nat.zero_le _, fun j hj => ⟨0, ?_⟩, fun j hj => absurd hj (by simp)⟩
  rw [hc, Array.getElem?_append_left (by simp; omega), Array.getElem?_append_right (by simp)]
  simp [hj]
/-- a line's cells at first -/
def zL : Array Value := #[.bool false] ++ Array.replicate 82 (.int .u8 0) ++ #[.int .i64 0, .int .i64 0]
theorem zero_info : (Try.prog.info? 38).map (fun i => i.zero) = some (some (.agg zL)) := by kernel_rfl
theorem zero_line (w : World) : (zeroValue 38).run Try.prog w = .ok (.agg zL) w := by
  have h := zero_info
  cases hi : Try.prog.info? 38 with
  | none => rw [hi] at h; cases h
  | some i =>
    rw [hi] at h
    simp at h
    simp [zeroValue, typeInfo, hi, h, go_sem]
set_option maxHeartbeats 1000000 in
theorem new_any (w : World) : Calls Try.prog 8 #[] w fun e w' => e = .returned (.pointer (some ⟨w.heap.size, 0, none⟩)) ∧ Ln w' w.heap.size none 0 ∧ Below w.heap.size w w' := by
  have hz := zero_line
  obtain ⟨Z, hZ⟩ : ∃ Z, Z = zL := ⟨_, rfl⟩
  rw [← hZ] at hz
  have HL : Hid (Li (w.alloc (.cells Z 38)) w.heap.size false [] 0) := Li.fresh w _ (by rw [hZ]; rfl)
  clear hZ
  go_enter Try.func8, Try.ntmps8
  go_wp2
  go_ret
  exact ⟨rfl, ⟨[], HL.out, fun c hc => by cases hc⟩, (Below.refl _ _).alloc (Nat.le_refl _) _⟩
set_option maxHeartbeats 1000000 in
theorem lost_any (w : World) (q n : Nat) (st : Option (List UInt8)) (h : Ln w q st n) : Calls Try.prog 11 #[.pointer (some ⟨q, 0, none⟩)] w fun e w' => e = .returned (.int .i64 (n : Int)) ∧ w' = w := by
  obtain ⟨cur, h, -⟩ := h
  have hl := h.lo
  clear h
  go_enter Try.func11, Try.ntmps11
  go_wp2
  go_ret
  exact ⟨rfl, rfl⟩
end Go.Proofs.Ythoilihokbakoaa
