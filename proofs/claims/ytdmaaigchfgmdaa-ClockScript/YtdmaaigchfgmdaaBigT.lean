/- What two of the reference's whole numbers returns: a power of two. -/
import Derived.Test.YtdmaaigchfgmdaaBigJ
import Derived.WalkKit
import Derived.WalkSpells
import Derived.WalkLawsBesides
import Derived.Handy
import Derived.Deep.RegionHeld3
import Derived.BigRegion
import Derived.RegionTactic
namespace Bg
def pw (k d : Nat) : List Nat := (List.replicate (k + 1) 0).set k d
theorem pw_len (k d : Nat) : (pw k d).length = k + 1 := by simp [pw]
theorem pw_set (k d e : Nat) : (pw k d).set k e = pw k e := by simp [pw]
theorem pw_zero (k : Nat) : pw k 0 = List.replicate (k + 1) 0 := by simp [pw]
theorem pw_dok (k d : Nat) (h : d < 65536) : dok (pw k d) := dok_set (dok_zeros _) k h
theorem pw_at (k d : Nat) : (pw k d).getD k 0 = d := by
  rw [getD_at _ _ (by rw [pw_len]; omega)]
  simp [pw]
theorem pw_val (k d : Nat) : val (pw k d) = 65536 ^ k * d := by
  have h := val_set (List.replicate (k + 1) 0) k d (by simp)
  rw [val_zeros, getD_at _ _ (by simp)] at h
  simp at h
  exact h
theorem pw_can (k d : Nat) (h : d < 65536) (h0 : 0 < d) : can (pw k d) := by
  refine ⟨pw_dok k d h, Or.inr ?_⟩
  rw [pw_len, Nat.add_sub_cancel, pw_at]
  omega
theorem pw_two (n : Nat) : val (pw (n / 16) (2 ^ (n % 16))) = 2 ^ n := by
  rw [pw_val, show (65536 : Nat) = 2 ^ 16 from by decide, ← Nat.pow_mul, ← Nat.pow_add, Nat.div_add_mod]
theorem pow_lt16 (i : Nat) (h : i ≤ 15) : 2 ^ i ≤ 32768 := by
  have := Nat.pow_le_pow_right (show 0 < 2 by decide) h
  omega
end Bg
namespace Go.Proofs.Ytdmaaigchfgmdaa
open Go.RowKit
/-- ahead of each doubling -/
structure Tw (w wr : World) (vb k d : Nat) : Prop where
  res : wr.heap[w.heap.size]? = some (.cells #[.slice none 0 0, .bool false] 80 (0, 0))
  var : wr.heap[vb]? = some (.cells #[.slice (some ⟨w.heap.size + 1, 0, none⟩) (k + 1) (k + 1), .bool false] 80 (0, 0))
  own : wr.ownsRow (w.heap.size + 1) 3 1 (.slice (some ⟨w.heap.size + 1, 0, none⟩) (k + 1) (k + 1)) (k + 1) (vals (Bg.pw k d))
  below : Below w.heap.size w wr
  far : w.heap.size + 2 ≤ vb
theorem Tw.drew {w wr : World} {vb k d : Nat} (h : Tw w wr vb k d) : Tw w wr.drew vb k d := ⟨h.res, h.var, h.own, h.below.drew, h.far⟩
theorem tw_store {w wr : World} {vb k d : Nat} (h : Tw w wr vb k d) (e : Nat) : Tw w (wr.setCell ⟨w.heap.size + 1, k, none⟩ (.int .i64 (e : Int))) vb k e := by
  have hf := h.far
  refine ⟨?_, ?_, ?_, h.below.setCell (by simp) _, h.far⟩
  · rw [Below.heap_setCell _ _ _ _ (by simp)]; exact h.res
  · rw [Below.heap_setCell _ _ _ _ (by simp; omega)]; exact h.var
  · have := (h.own.stored k (.int .i64 (e : Int))).1
    rw [vals_set, Bg.pw_set] at this
    exact this
set_option maxRecDepth 20000 in
set_option maxHeartbeats 2000000 in
theorem two_any (n : Int) (w : World) (h0 : 0 ≤ n) (h1 : n ≤ 100000) :
    Calls Try.prog 66 #[.int .i64 n] w fun e w' => ∃ v, e = .returned v ∧ IsBig w.heap.size w' v (2 ^ n.toNat) ∧ Below w.heap.size w w' := by
  obtain ⟨i0, hi, hz0, hz1, hz2⟩ := info_parts info_int
  obtain ⟨N, rfl⟩ := Int.eq_ofNat_of_zero_le h0
  obtain ⟨k, hk⟩ : ∃ k : Nat, k = N / 16 := ⟨_, rfl⟩
  obtain ⟨r, hr⟩ : ∃ r : Nat, r = N % 16 := ⟨_, rfl⟩
  obtain ⟨nn, hnn⟩ : ∃ nn : Int, nn = (N : Int) := ⟨_, rfl⟩
  rw [← hnn] at h0 h1 ⊢
  have HK : Hid (nn / 16 = (k : Int) ∧ nn % 16 = (r : Int) ∧ k = N / 16 ∧ r = N % 16 ∧ nn = (N : Int)) := ⟨by omega, by omega, hk, hr, hnn⟩
  clear hk hr hnn
  go_enter Try.func66, Try.ntmps66
  go_wp2_with (at_make; refine wpList_make_full _ rfl _ _ 50 rfl (w.heap.size + 1) 3 i0 (.int .i64 0) 1 Try.underlying50 hi hz0 hz1 .i64 .i64 _ _ (k + 1) rfl rfl (by have := HK.out; omega) (by have := HK.out; omega) (by rw [hz2]; have := HK.out; omega) (by unfold maxLen; have := HK.out; omega) (by simp) ?_)
  intro w1 hown hgrow
  have OW : w1.ownsRow (w.heap.size + 1) 3 1 (.slice (some ⟨w.heap.size + 1, 0, none⟩) (k + 1) (k + 1)) (k + 1) (vals (List.replicate (k + 1) 0)) := by rw [← vals_zeros]; exact hown
  obtain ⟨z, z1, z2, hzz, z3, z4⟩ := own_at OW (by simp) (Bg.dok_zeros _) k (by omega)
  have hsz := (OW.lt (w.heap.size + 1) rfl).2
  have hsz' : Hid (w.heap.size + 1 < w1.heap.size) := hsz
  have START : Hid (Tw w ((w1.alloc (.cells #[.slice (some ⟨w.heap.size + 1, 0, none⟩) (k + 1) (k + 1), .bool false] 80)).setCell ⟨w.heap.size + 1, k, none⟩ (.int .i64 1)) w1.heap.size k 1) := by
    have b1 : Below w.heap.size w w1 := ((Below.refl _ _).alloc (Nat.le_refl _) _).grown hgrow (by simp) (by simp)
    refine tw_store (d := 0) ⟨?_, heap_alloc_new _ _, ?_, b1.alloc (by omega) _, by omega⟩ 1
    · rw [Below.heap_alloc _ _ _ (by omega), hgrow.block _ (by simp) (by simp), heap_alloc_new]
    · refine World.ownsRow.alloc ?_ _
      rw [Bg.pw_zero]
      exact OW
  have hik : ∀ v, Sem.run Try.prog (Instr.indexAt 50 (.slice (some ⟨w.heap.size + 1, 0, none⟩) (k + 1) (k + 1)) (.int .i64 (nn / 16))) v = .ok (.pointer (some ⟨w.heap.size + 1, k, none⟩)) v := idx_run (k + 1) (k + 1) k (nn / 16) rfl HK.out.1 (by omega)
  have BA : Below w1.heap.size w1 (w1.alloc (.cells #[.slice (some ⟨w.heap.size + 1, 0, none⟩) (k + 1) (k + 1), .bool false] 80)) := (Below.refl _ _).alloc (Nat.le_refl _) _
  have z1' := cells_kept BA hsz z1
  have z2' := free_kept BA hsz z2
  clear BA
  clear OW hown hgrow hsz
  go_wp2
  clear z1 z2 z1' z2' hzz z3 z4
  go_loopw [4] (fun i wr => ∃ (ji : Int) (j : Nat), i = .int .i64 ji ∧ 0 ≤ ji ∧ ji ≤ nn % 16 ∧ Hid (ji = (j : Int) ∧ Tw w wr w1.heap.size k (2 ^ j))) (fun i _ => (nn % 16 - intOf i).toNat)
  case atStart => exact ⟨0, 0, rfl, by omega, by omega, rfl, START.out⟩
  case round =>
    obtain ⟨ji, j, rfl, j0, j1, hH⟩ := hrel
    clear START
    obtain ⟨k1, k2, k3, k4⟩ := two_cells hH.out.2.var
    obtain ⟨r1, r2, r3, r4⟩ := two_cells hH.out.2.res
    have hp16 := Bg.pow_lt16 j (by have := hH.out.1; omega)
    obtain ⟨z, z1, z2, hzz, z3, z4⟩ := own_at hH.out.2.own (Bg.pw_len _ _) (Bg.pw_dok _ _ (by omega)) k (by omega)
    have hz : Hid (z = ((2 ^ j : Nat) : Int)) := by
      have := hzz.out
      rw [Bg.pw_at] at this
      exact this
    have z5 : z ≤ 32768 := by have := hz.out; omega
    clear hzz hp16 z4
    by_cases hj : ji < nn % 16
    · go_wp2
      go_region
      have NX := tw_store hH.out.2 (2 ^ (j + 1))
      have e2 : ((2 ^ (j + 1) : Nat) : Int) = z * 2 := by rw [hz.out, Nat.pow_succ, Int.natCast_mul]; rfl
      rw [e2] at NX
      have NX' : Hid _ := NX
      clear NX e2 k1 k2 k3 k4 r1 r2 r3 r4 z1 z2
      go_wp2
      go_roundw
      case rel => exact ⟨ji + 1, j + 1, rfl, by omega, by omega, by have := hH.out.1; omega, NX'.out.drew⟩
      case measure => simp [intOf]; omega
    · go_wp2
      obtain ⟨p, q, hpq, q1, q2, q3⟩ := own_rd (by rw [Bg.pw_len]; exact hH.out.2.own : wr.ownsRow (w.heap.size + 1) 3 1 (.slice (some ⟨w.heap.size + 1, 0, none⟩) (k + 1) (k + 1)) (Bg.pw k (2 ^ j)).length (vals (Bg.pw k (2 ^ j))))
      have hjr : j = N % 16 := by have := HK.out; have := hH.out.1; omega
      have hkN : k = N / 16 := HK.out.2.2.1
      have hNn : nn.toNat = N := by have := HK.out.2.2.2.2; omega
      have hval : Bg.val (Bg.pw k (2 ^ j)) = 2 ^ N := by rw [hjr, hkN]; exact Bg.pw_two N
      have hcan := Bg.pw_can k (2 ^ j) (by have := Bg.pow_lt16 j (by omega); omega) (Nat.two_pow_pos j)
      simp at hpq
      obtain ⟨rfl, hlen, rfl⟩ := hpq
      have hne : ∀ ad : Addr, some (⟨w.heap.size + 1, 0, none⟩ : Addr) = some ad → ad.block ≠ w.heap.size := fun ad e => by simp at e; subst e; simp
      refine bodyPost_ret (v := .agg #[.slice (some ⟨w.heap.size + 1, 0, none⟩) (k + 1) (k + 1), .bool false]) (by simp [results, Try.results66, go_sem, r1, r2]) rfl ⟨_, rfl, ?_, ?_⟩
      · rw [show Value.slice (some ⟨w.heap.size + 1, 0, none⟩) (k + 1) (k + 1) = .slice (some ⟨w.heap.size + 1, 0, none⟩) (Bg.pw k (2 ^ j)).length (k + 1) from by rw [Bg.pw_len]]
        refine IsBig.mk q1 ((q2.store hne _).store hne _) hcan ?_ (q3.mono (by omega))
        rw [hval, hNn]
        simp [sgn]
      · exact (hH.out.2.below.setCell (Nat.le_refl _) _).setCell (Nat.le_refl _) _
end Go.Proofs.Ytdmaaigchfgmdaa
