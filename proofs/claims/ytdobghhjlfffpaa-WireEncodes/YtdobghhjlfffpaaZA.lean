/- What lent of the laws' package of layer 3 returns. -/
import Derived.Test.YtdobghhjlfffpaaWG
namespace Go.Proofs.Ytdobghhjlfffpaa
open Go.RowKit
theorem Sv.two (v : World) (q : Nat) (x y : Int) (hq : q = v.heap.size) (x0 : 0 ≤ x) (x1 : x < 256) (y0 : 0 ≤ y) (y1 : y < 256) : Sv (q + 1) (v.alloc (.cells #[.int .u8 x, .int .u8 y] 5)) (.slice (some ⟨q, 0, none⟩) 2 2) [x, y] := by
  refine ⟨_, _, rfl, Nat.le_refl _, fun e => (by cases e), fun k hk => ⟨_, rfl, Nat.lt_succ_self _, ?_⟩, fun b hb => ?_⟩
  · have hk0 : k = 0 ∨ k = 1 := by simp at hk; omega
    rcases hk0 with rfl | rfl
    · rw [add_own, hq]
      exact (World.cell?_alloc_new _ _ _ _).trans rfl
    · rw [add_own, hq]
      exact (World.cell?_alloc_new _ _ _ _).trans rfl
  · simp at hb; omega
set_option maxHeartbeats 1000000 in
theorem lent_any (N : Nat) (v : Value) (bs : List Int) (w : World) (hl : bs.length ≤ 2000000) (h : Sv N w v bs) (hN : N ≤ w.heap.size) :
    Calls Try.prog 16 #[v] w fun e w' => ∃ v', e = .returned v' ∧ Below w.heap.size w w' ∧ Own w' w.heap.size v' (bs ++ [115, 116]) := by
  have H : Hid (Sv N w v bs) := h
  have HL : Hid (bs.length ≤ 2000000) := hl
  clear h hl
  go_enter Try.func16, Try.ntmps16
  go_wp2_with (at_builtin; refine wpList_app8 (by rfl) _ _ 27 (by rfl) Try.underlying27 w.heap.size N (.slice (some ⟨w.heap.size, 0, none⟩) 0 0) v [] bs (by rfl) (by rfl) ?_ ?_ ?_ ?_ ?_; exact Own.fresh w w.heap.size (Nat.le_refl _); exact H.out.below ((Below.refl w.heap.size w).alloc (Nat.le_refl _) _) hN; (have := HL.out; simp; omega); (simp))
  intro v1 w1 ho hg hat
  have HO : Hid (Own w1 w.heap.size v1 bs ∧ Below w.heap.size w w1) := ⟨by simpa using ho, ((Below.refl _ _).alloc (Nat.le_refl _) _).grown hg (by simp) (fun k e => by simp [Value.ownBlock] at e; omega)⟩
  have hs1 : w.heap.size ≤ w1.heap.size := HO.out.2.size
  clear ho hg hat
  go_wp2_with (at_builtin; refine wpList_app8 (by rfl) _ _ 27 (by rfl) Try.underlying27 w.heap.size (w1.heap.size + 1) v1 (.slice (some ⟨w1.heap.size, 0, none⟩) 2 2) bs [115, 116] (by rfl) (by rfl) ?_ ?_ ?_ ?_ ?_; exact World.ownsRow.alloc HO.out.1 _; exact Sv.two w1 w1.heap.size 115 116 rfl (by decide) (by decide) (by decide) (by decide); (have := HL.out; simp; omega); (simp; omega))
  intro v2 w2 ho hg hat
  have HO2 : Hid (Own w2 w.heap.size v2 (bs ++ [115, 116]) ∧ Below w.heap.size w w2) := ⟨ho, (HO.out.2.alloc hs1 _).grown hg (by simp; omega) (fun k e => (HO.out.1.lt k e).1)⟩
  clear ho hg hat
  go_wp2
  go_ret
  exact ⟨v2, rfl, HO2.out.2, HO2.out.1⟩
end Go.Proofs.Ytdobghhjlfffpaa
