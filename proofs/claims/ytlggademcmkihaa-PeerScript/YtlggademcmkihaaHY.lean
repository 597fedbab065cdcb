/- Clear and New of the program. -/
import Derived.Test.YtlggademcmkihaaHV
namespace Go.Proofs.Ytlggademcmkihaa
open Go Go.RowKit
/-- an association that is configured -/
structure As where
  kind : Int
  addr : Int
  key : Int
  minp : Int
  maxp : Int
  burst : Bool
  ib : Bool
  pref : Bool
  ttl : Int
  pulse : Bool
  fudge : Int
  str : Int
def asL (a : As) : List Value := [.int .i64 a.kind, .int .u32 a.addr, .int .i64 a.key, .int .i64 a.minp, .int .i64 a.maxp, .bool a.burst, .bool a.ib, .bool a.pref, .int .i64 a.ttl, .bool a.pulse, .int .i64 a.fudge, .int .i64 a.str]
set_option maxRecDepth 20000 in
set_option maxHeartbeats 1000000 in
theorem new_any (a : As) (own : Int) (w : World) : Calls Try.prog 11 #[.agg (asL a).toArray, .int .u32 own] w fun e w' => ∃ p, e = .returned (.pointer (some ⟨p, 0, none⟩)) ∧ Pm w' p (ps0 a.kind a.key own) ∧ w.heap.size ≤ p ∧ Below w.heap.size w w' := by
  go_enter Try.func11, Try.ntmps11
  refine post_hid fun Q hQ => ?_
  refine seq_hid fun R hR => ?_
  go_wp2
  refine world_hid fun W hW => ?_
  have hB : Below w.heap.size w W := by rw [hW.out]; exact (Below.refl _ _).alloc (Nat.le_refl _) _
  have hK : Bk w.heap.size W (asL a).toArray 31 := by rw [hW.out]; exact Bk.new _ _ _
  have k0 : W.cell? ⟨w.heap.size, 0, none⟩ = some (.int .i64 a.kind) := hK.cell 0
  have k2 : W.cell? ⟨w.heap.size, 2, none⟩ = some (.int .i64 a.key) := hK.cell 2
  have HB : Hid (Below w.heap.size w W ∧ w.heap.size < W.heap.size) := ⟨hB, hK.lt⟩
  clear hW hB hK
  rw [hR.out]
  clear hR
  go_wp2
  rw [hQ.out]
  go_ret
  exact ⟨_, rfl, Bk.new W _ _, Nat.le_of_lt HB.out.2, HB.out.1.trans (((Below.refl _ _).alloc (Nat.le_refl _) _).mono HB.out.1.size)⟩
set_option maxRecDepth 20000 in
set_option maxHeartbeats 1000000 in
theorem clear_any (p : Nat) (s : Ps) (w : World) (h : Pm w p s) : Calls Try.prog 34 #[.pointer (some ⟨p, 0, none⟩)] w fun e w' => e = .returned (.tuple #[]) ∧ Pm w' p (clr s) ∧ w.grownBy w' (some p) := by
  have HP : Hid (Pm w p s) := h
  clear h
  go_enter Try.func34, Try.ntmps34
  go_wp2_with (refine step_pm rfl 88 _ _ rfl 5 [.int .u64 0, .bool false, .int .u64 0, .int .u64 0, .int .i64 0, .int .i64 0, .int .i64 0, .int .i64 0, .int .i64 0, .int .i64 0, .int .u32 0, .int .u64 0] (clr s) (by rfl) (by rfl) (by kernel_rfl) (by simp) (by simp [Value.oneCell']) HP.out rfl ?_; intro w8 hp8 hg8 hz8)
  go_end0
  exact ⟨rfl, hp8, hg8⟩
end Go.Proofs.Ytlggademcmkihaa
