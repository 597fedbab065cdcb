/- What Samples returns. -/
import Derived.Test.YtmjkdfjfjidekaaFT
import Derived.Test.YtmjkdfjfjidekaaFJ
namespace Go.Proofs.Ytmjkdfjfjidekaa
open Go Go.RowKit Fi
theorem made_z : ∀ n, n ≤ 8 → (madeCells #[.int .i64 0, .int .i64 0, .int .i64 0, .int .u64 0] (n * 4)).toList = smF (List.replicate n z0)
  | 0, _ => by kernel_rfl
  | 1, _ => by kernel_rfl
  | 2, _ => by kernel_rfl
  | 3, _ => by kernel_rfl
  | 4, _ => by kernel_rfl
  | 5, _ => by kernel_rfl
  | 6, _ => by kernel_rfl
  | 7, _ => by kernel_rfl
  | 8, _ => by kernel_rfl
  | n + 9, h => by omega
/-- make -/
theorem run_mk4 (w : World) (n : Nat) (hn : n ≤ 8) : ∃ w', (Instr.makeSlice 22 (.int .i64 (n : Int)) (.int .i64 (n : Int))).run Try.prog w = .ok (.slice (some ⟨w.heap.size, 0, none⟩) n n) w' ∧ O4 w' w.heap.size (.slice (some ⟨w.heap.size, 0, none⟩) n n) (List.replicate n z0) ∧ Below w.heap.size w w' := by
  obtain ⟨i, z, h1, h2, h3, h4, h5⟩ := ti4.info
  have hz : z = .agg #[.int .i64 0, .int .i64 0, .int .i64 0, .int .u64 0] := by
    have h : (Try.prog.info? 27).map (fun i => i.zero) = some (some (.agg #[.int .i64 0, .int .i64 0, .int .i64 0, .int .u64 0])) := by kernel_rfl
    rw [h1] at h
    simp [h2] at h
    exact h
  have hm := run_make (P := Try.prog) w 22 27 i z Try.underlying22 h1 h2 .i64 .i64 (n : Int) (n : Int) (by omega) (by omega) (by rw [h4]; omega) (by omega)
  rw [h3, hz] at hm
  refine ⟨_, hm, ?_, (Below.refl _ _).alloc (Nat.le_refl _) _⟩
  have hc := made_z n hn
  have e : (Value.agg #[.int .i64 0, .int .i64 0, .int .i64 0, .int .u64 0]).cells = #[.int .i64 0, .int .i64 0, .int .i64 0, .int .u64 0] := rfl
  rw [e]
  have hl : ((List.replicate n z0).map smL).length = n := by simp
  refine ⟨⟨?_, .inr ⟨w.heap.size, n, madeCells #[.int .i64 0, .int .i64 0, .int .i64 0, .int .u64 0] ((n : Int).toNat * 4), by rw [hl], Nat.le_refl _, alloc_at _ _, by rw [hl]; exact Nat.le_refl _, by unfold maxLen; omega, by rw [size_madeCells]; simp, ?_⟩⟩, smL_len _⟩
  · rw [flat_len (smL_len _)]
  · rw [hl]
    simp only [Int.toNat_natCast]
    rw [hc]
    unfold smF
    exact List.take_of_length_le (by rw [flat_len (smL_len _), hl]; exact Nat.le_refl _)
set_option maxRecDepth 20000 in
set_option maxHeartbeats 1000000 in
theorem fsamples_any {w : World} {p : Nat} {xs : List Smp} {t : Bool} {la : Int} (h : Fl w p xs t la) :
    Calls Try.prog 15 #[.pointer (some ⟨p, 0, none⟩)] w fun e w' => ∃ v, e = .returned v ∧ O4 w' w.heap.size v xs ∧ Below w.heap.size w w' := by
  have hc := h.c
  obtain ⟨n, hn⟩ : ∃ n, n = xs.length := ⟨_, rfl⟩
  rw [← hn] at hc
  have HN : Hid (n = xs.length) := hn
  have hn8 : (n : Int) ≤ 8 := by have := h.len; omega
  have H : Hid (Fl w p xs t la) := h
  clear h hn
  go_enter Try.func15, Try.ntmps15
  refine post_hid fun Q hQ => ?_
  obtain ⟨W1, hmk, ho1, hb1⟩ := run_mk4 w n (by omega)
  obtain ⟨mb, hmb⟩ : ∃ mb, mb = w.heap.size := ⟨_, rfl⟩
  have H1 : Hid (O4 W1 w.heap.size (.slice (some ⟨mb, 0, none⟩) n n) (List.replicate n z0) ∧ Below w.heap.size w W1) := ⟨by rw [hmb]; exact ho1, hb1⟩
  rw [← hmb] at hmk
  have Hmb : Hid (mb = w.heap.size) := hmb
  clear ho1 hb1 hmb
  go_wp2
  go_loopw [12] (fun i wr => ∃ (k : Nat), i = .int .i64 k ∧ (k : Int) ≤ n ∧ Hid ((∃ zs : List Smp, zs.length = n ∧ zs.take k = xs.take k ∧ O4 wr w.heap.size (.slice (some ⟨mb, 0, none⟩) n n) zs) ∧ Below w.heap.size w wr)) (fun i _ => n - (intOf i).toNat)
  case atStart => exact ⟨0, rfl, by omega, ⟨⟨List.replicate n z0, by simp, rfl, H1.out.1⟩, H1.out.2⟩⟩
  case round =>
    clear H1 hmk
    obtain ⟨k, rfl, hk, HK⟩ := hrel
    by_cases hlt : (k : Int) < n
    · obtain ⟨zs, hz1, hz2, hz3⟩ := HK.out.1
      have hkx : k < xs.length := by have := HN.out; omega
      have HSm : Hid _ := sample_any p xs t la k wr (H.out.below HK.out.2 H.out.lt) hkx
      obtain ⟨y, hy⟩ : ∃ y, y = xs.getD k z0 := ⟨_, rfl⟩
      rw [← hy] at HSm
      have HZ : Hid (zs.length = n ∧ zs.take k = xs.take k ∧ O4 wr w.heap.size (.slice (some ⟨mb, 0, none⟩) n n) zs ∧ y = xs.getD k z0) := ⟨hz1, hz2, hz3, hy⟩
      have hix := ix_sl mb n n k hlt
      have HKX : Hid (k < xs.length) := hkx
      clear hz1 hz2 hz3 hy hkx
      go_wp2_with fail
      refine Calls.mono HSm.out ?_
      rintro e w3 ⟨rfl, hb3⟩
      have hl3 : (zs.map smL).length = n := by rw [List.length_map]; exact HZ.out.1
      have ho3 : OR w3 w.heap.size 27 4 (.slice (some ⟨mb, 0, none⟩) (zs.map smL).length n) (zs.map smL) := by rw [hl3]; exact OR.below HZ.out.2.2.1 hb3 (Nat.le_refl _)
      have HO3 : Hid _ := ho3
      have H3 : Hid (Below w.heap.size w w3 ∧ k < (zs.map smL).length) := ⟨HK.out.2.trans (hb3.mono HK.out.2.size), by omega⟩
      clear hb3 ho3 HSm
      go_wp2_with (refine wpList_stk rfl 27 _ _ rfl k (smL y) HO3.out (by kernel_rfl) (by rfl) (by rfl) H3.out.2 rfl (smL_one _) ?_; intro w4 ho4 hg4 hz4)
      have H4 : Hid ((∃ zs : List Smp, zs.length = n ∧ zs.take (k + 1) = xs.take (k + 1) ∧ O4 w4 w.heap.size (.slice (some ⟨mb, 0, none⟩) n n) zs) ∧ Below w.heap.size w w4) := by
        refine ⟨⟨zs.set k y, by rw [List.length_set]; exact HZ.out.1, ?_, ?_⟩, below_grown H3.out.1 hg4 (Nat.le_of_eq Hmb.out.symm)⟩
        · have hkz : k < zs.length := by rw [HZ.out.1]; omega
          have hkx := HKX.out
          rw [List.take_succ_eq_append_getElem (by rw [List.length_set]; exact hkz), List.take_succ_eq_append_getElem hkx, List.take_set_of_le (Nat.le_refl _), HZ.out.2.1, List.getElem_set_self, HZ.out.2.2.2, getD_lt xs k hkx]
        · unfold O4
          rw [hl3] at ho4
          rw [List.map_set]
          exact ho4
      clear ho4 hg4 hz4 HO3 H3 HZ
      go_wp2_with fail
      go_roundw
      case rel => exact ⟨k + 1, by go_num, by omega, H4⟩
      case measure => simp [intOf]; omega
    · have hkn : k = n := by omega
      subst hkn
      obtain ⟨zs, hz1, hz2, hz3⟩ := HK.out.1
      have e : zs = xs := by rw [← List.take_of_length_le (Nat.le_of_eq hz1), hz2, HN.out, List.take_length]
      rw [e] at hz3
      have HE : Hid (O4 wr w.heap.size (.slice (some ⟨mb, 0, none⟩) k k) xs ∧ Below w.heap.size w wr) := ⟨hz3, HK.out.2⟩
      clear hz1 hz2 hz3 e HK
      go_wp2_with fail
      rw [hQ.out]
      go_ret
      exact ⟨_, rfl, HE.out⟩
end Go.Proofs.Ytmjkdfjfjidekaa
