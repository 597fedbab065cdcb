/- What the reference's put returns. -/
import Derived.Test.YtdobghhjlfffpaaWL
namespace Go.Proofs.Ytdobghhjlfffpaa
open Go.RowKit
theorem Sv.lit1 (w : World) (b : Int) (h0 : 0 ≤ b) (h1 : b < 256) : Sv (w.heap.size + 1) (w.alloc (.cells #[.int .u8 b] 5)) (.slice (some ⟨w.heap.size, 0, none⟩) 1 1) [b] := by
  refine ⟨_, 1, rfl, Nat.le_refl _, by simp, fun k hk => ?_, fun x hx => by simp at hx; omega⟩
  have : k = 0 := by simpa using hk
  subst this
  exact ⟨_, rfl, by simp, by rw [add_own]; simp⟩
set_option maxHeartbeats 2000000 in
theorem put_any (B : Nat) (v : Value) (bs : List Int) (n : Int) (k : Nat) (w : World) (hk : (k : Int) ≤ 8) (hl : bs.length ≤ 100000) (h : Own w B v bs) (hB : B ≤ w.heap.size) :
    Calls Try.prog 26 #[v, .int .u64 n, .int .i64 k] w fun e w' => ∃ v', e = .returned v' ∧ Below B w w' ∧ Own w' B v' (bs ++ be k n) := by
  have H : Hid (Own w B v bs) := h
  clear h
  obtain ⟨K1, hK1⟩ : ∃ K1 : Int, K1 = (k : Int) - 1 := ⟨_, rfl⟩
  have e0 : IntKind.i64.wrap ((k : Int) - 1) = K1 := by rw [← hK1]; simp only [IntKind.wrap_i64]; omega
  have HK1 : Hid (K1 = (k : Int) - 1) := hK1
  have k1 : K1 ≤ 7 := by omega
  have k2 : -1 ≤ K1 := by omega
  clear hK1
  go_enter Try.func26, Try.ntmps26
  go_wp2
  go_loopw [0, 7] (fun bv i wr => ∃ (D : Int) (u : Value), bv = u ∧ i = .int .i64 D ∧ -1 ≤ D ∧ D ≤ K1 ∧ Hid (Own wr B u (bs ++ (be k n).take (K1 - D).toNat) ∧ Below B w wr)) (fun _ i _ => (intOf i + 1).toNat)
  case atStart => exact ⟨K1, v, rfl, rfl, k2, by omega, by simpa using H.out, Below.refl _ _⟩
  case round =>
    obtain ⟨D, u, rfl, rfl, hD0, hD1, hN⟩ := hrel
    by_cases hlt : 0 ≤ D
    · obtain ⟨S, hS⟩ : ∃ S : Int, S = 8 * D := ⟨_, rfl⟩
      have s0 : 0 ≤ S := by omega
      have s1 : S < 64 := by omega
      have HX := shr_by8 n k (K1 - D).toNat S (by have := HK1.out; omega) (by have := HK1.out; omega)
      obtain ⟨X, hX⟩ : ∃ X : Int, X = n / 2 ^ S.toNat := ⟨_, rfl⟩
      obtain ⟨b, hb⟩ : ∃ b : Int, b = by8 n (k - 1 - (K1 - D).toNat) := ⟨_, rfl⟩
      rw [← hX, ← hb] at HX
      have HB : Hid (b = by8 n (k - 1 - (K1 - D).toNat)) := hb
      have e3 : IntKind.i64.wrap (8 * D) = S := by rw [← hS]; simp only [IntKind.wrap_i64]; omega
      have e4 : n / 2 ^ S.toNat = X := hX.symm
      have e5 : IntKind.u8.wrap X = b := by simp only [IntKind.wrap_u8]; exact HX
      have b0 := (by8_bd n (k - 1 - (K1 - D).toNat)).1
      have b1 := (by8_bd n (k - 1 - (K1 - D).toNat)).2
      rw [← hb] at b0 b1
      have e6 : 8 * D = S := hS.symm
      clear hX hb HX hS
      have hBw : B ≤ wr.heap.size := Nat.le_trans hB hN.out.2.size
      have hlen : (bs ++ (be k n).take (K1 - D).toNat).length ≤ 100008 := by rw [List.length_append, List.length_take, be_len]; omega
      go_wp2_with (at_builtin; refine wpList_app8 (by rfl) _ _ 27 (by rfl) Try.underlying27 B (wr.heap.size + 1) _ _ (bs ++ (be k n).take (K1 - D).toNat) [b] (by rfl) (by rfl) (hN.out.1.below ((Below.refl wr.heap.size wr).alloc (Nat.le_refl _) _) (Nat.le_refl _)) (Sv.lit1 wr b b0 b1) (by simp only [List.length_cons, List.length_nil]; omega) (by simp; omega) ?_)
      intro v2 w2 ho hg hat
      have HO : Hid (Own w2 B v2 (bs ++ (be k n).take (K1 - (D - 1)).toNat) ∧ Below B w w2) := by
        refine ⟨?_, ((hN.out.2.alloc hBw _).grown hg (by simp; omega) (fun j e => (hN.out.1.lt j e).1))⟩
        have e : (K1 - (D - 1)).toNat = (K1 - D).toNat + 1 := by omega
        rw [e, be_take k n _ (by have := HK1.out; omega), ← HB.out]
        exact ho
      clear ho hg hat
      go_wp2
      exact ⟨⟨D - 1, v2, rfl, rfl, by omega, by omega, HO⟩, by simp [intOf]; omega⟩
    · have hDm : D = -1 := by omega
      subst hDm
      go_wp2
      go_ret
      refine ⟨_, rfl, hN.out.2, ?_⟩
      have := hN.out.1
      have e : (be k n).take (K1 - (-1)).toNat = be k n := by rw [List.take_of_length_le]; rw [be_len]; have := HK1.out; omega
      rw [e] at this
      exact this
end Go.Proofs.Ytdobghhjlfffpaa
