/- A range rotated: slices.rotateCmpFunc. -/
import Derived.Test.YtdlipponajilbaaClR
namespace Go.Proofs.Ytdlipponajilbaa
open Go Go.RowKit Go.Sort Go.Shelf Go.Lib Go.Proofs
set_option linter.unusedVariables false
variable {α : Type} [Inhabited α] {enc : α → List Value} {w0 : World} {blk off : Nat} {d0 : Array α}
set_option maxHeartbeats 1000000 in
set_option maxRecDepth 20000 in
theorem rotate_any (R : RowK enc 8 w0 blk off d0) (P U V Z : List α) (N a m b cap : Nat) (cv : Value) (ha : a = P.length) (hm : m = P.length + U.length) (hb : b = m + V.length) (hU : 0 < U.length) (hV : 0 < V.length) (hN : N = d0.size) (hL : N = b + Z.length) (hsz : N ≤ 1000000)
    (W : World) (h : SWK enc 8 w0 blk off (P ++ (U ++ (V ++ Z))).toArray W) :
    Calls Try.prog 86 #[.slice (some ⟨blk, off, none⟩) N cap, .int .i64 (a : Int), .int .i64 (m : Int), .int .i64 (b : Int), cv] W fun e w' => e = .returned (.tuple #[]) ∧ Hid (SWK enc 8 w0 blk off (P ++ (V ++ (U ++ Z))).toArray w') := by
  obtain ⟨T, hT⟩ : ∃ T, P ++ (V ++ (U ++ Z)) = T := ⟨_, rfl⟩
  obtain ⟨i0, hi0⟩ : ∃ i0 : Nat, U.length = i0 := ⟨_, rfl⟩
  obtain ⟨j0, hj0⟩ : ∃ j0 : Nat, V.length = j0 := ⟨_, rfl⟩
  have HC : Hid (∀ (P A Y B Z : List α) (n b : Nat) (x y : Int) (wr : World), A.length = n → B.length = n → x = (P.length : Int) → y = (b : Int) → b = P.length + n + Y.length → N = P.length + n + Y.length + n + Z.length → SWK enc 8 w0 blk off (P ++ (A ++ (Y ++ (B ++ Z)))).toArray wr → Calls Try.prog 89 #[.slice (some ⟨blk, off, none⟩) N cap, .int .i64 x, .int .i64 y, .int .i64 (n : Int), cv] wr fun e w' => e = .returned (.tuple #[]) ∧ Hid (SWK enc 8 w0 blk off (P ++ (B ++ (Y ++ (A ++ Z)))).toArray w')) := fun P A Y B Z n b x y wr h1 h2 h3 h4 h5 h6 h7 => by
    subst h3 h4
    exact swapRange_any R P A Y B Z n N P.length b cap cv h1 h2 rfl h5 hN h6 hsz wr h7
  have H0 : Hid (P.length + i0 = m ∧ U.length = i0 ∧ V.length = j0 ∧ P ++ (V ++ (U ++ Z)) = T ∧ N = m + j0 + Z.length ∧ SWK enc 8 w0 blk off (P ++ (U ++ (V ++ Z))).toArray W) := ⟨by omega, hi0, hj0, hT, by omega, h⟩
  rw [hT]
  have z1 : (a : Int) + i0 = m := by omega
  have z2 : (m : Int) + j0 = b := by omega
  have z3 : (b : Int) ≤ 1000000 := by omega
  have z4 : (1 : Int) ≤ i0 := by omega
  have z5 : (1 : Int) ≤ j0 := by omega
  clear hT hi0 hj0 ha hm hb hU hV hN hL hsz h R
  go_enter Try.func86, Try.ntmps86
  have e1 : (m : Int) - a = i0 := by omega
  have e2 : (b : Int) - m = j0 := by omega
  go_wp2_with fail
  go_loopw [10, 11] (fun v u wr => ∃ (i j : Nat) (P' U' V' S' : List α), v = .int .i64 i ∧ u = .int .i64 j ∧ (1 : Int) ≤ i ∧ (1 : Int) ≤ j ∧ (i : Int) ≤ m ∧ (m : Int) + j ≤ b ∧ Hid (P'.length + i = m ∧ U'.length = i ∧ V'.length = j ∧ P' ++ (V' ++ (U' ++ S')) = T ∧ N = m + j + S'.length ∧ SWK enc 8 w0 blk off (P' ++ (U' ++ (V' ++ S'))).toArray wr)) (fun v u _ => (intOf v).toNat + (intOf u).toNat)
  case atStart => exact ⟨i0, j0, P, U, V, Z, by go_num, by go_num, by omega, by omega, by omega, by omega, H0.out⟩
  case round =>
    obtain ⟨i, j, P', U', V', S', rfl, rfl, hi, hj, him, hjb, HB⟩ := hrel
    clear e1 e2 z1 z2 z4 z5
    rcases Int.lt_trichotomy (i : Int) (j : Int) with hlt | heq | hgt
    · have hne : ¬ (i : Int) = j := by omega
      have hng : ¬ (j : Int) < i := by omega
      have HS : Hid (∃ Y B, V' = Y ++ B ∧ B.length = i ∧ Y.length = j - i) := ⟨V'.take (j - i), V'.drop (j - i), (List.take_append_drop _ _).symm, by rw [List.length_drop, HB.out.2.2.1]; omega, by rw [List.length_take, HB.out.2.2.1]; omega⟩
      obtain ⟨Y, B, hY⟩ := HS.out
      have HY : Hid (V' = Y ++ B ∧ B.length = i ∧ Y.length = j - i) := hY
      clear hY HS
      have CC : Hid (Calls Try.prog 89 #[.slice (some ⟨blk, off, none⟩) N cap, .int .i64 ((m : Int) - i), .int .i64 ((m : Int) + j - i), .int .i64 (i : Int), cv] wr fun e w' => e = .returned (.tuple #[]) ∧ Hid (SWK enc 8 w0 blk off (P' ++ (B ++ (Y ++ (U' ++ S')))).toArray w')) := by
        have h1 := HB.out
        have h2 := HY.out
        refine HC.out P' U' Y B S' i (m + j - i) _ _ wr h1.2.1 h2.2.1 (by omega) (by omega) (by omega) (by omega) ?_
        have e : P' ++ (U' ++ (Y ++ (B ++ S'))) = P' ++ (U' ++ (V' ++ S')) := by rw [h2.1]; simp
        rw [e]; exact h1.2.2.2.2.2
      go_wp2_with (go_at_call 89; refine CC.out.mono ?_; rintro e w2 ⟨rfl, H2⟩)
      go_roundw
      case rel =>
        have h1 := HB.out
        have h2 := HY.out
        refine ⟨i, j - i, P', B, Y, U' ++ S', rfl, by go_num, by omega, by omega, by omega, by omega, ⟨h1.1, h2.2.1, h2.2.2, ?_, ?_, ?_⟩⟩
        · rw [← h1.2.2.2.1, h2.1]; simp
        · rw [List.length_append, h1.2.1]; have := h1.2.2.2.2.1; omega
        · exact H2.out
      case measure => simp [intOf]; omega
    · have heq' : i = j := by omega
      subst heq'
      have CC : Hid (Calls Try.prog 89 #[.slice (some ⟨blk, off, none⟩) N cap, .int .i64 ((m : Int) - i), .int .i64 (m : Int), .int .i64 (i : Int), cv] wr fun e w' => e = .returned (.tuple #[]) ∧ Hid (SWK enc 8 w0 blk off T.toArray w')) := by
        have h1 := HB.out
        have := HC.out P' U' [] V' S' i m ((m : Int) - i) m wr h1.2.1 h1.2.2.1 (by omega) rfl (by simp; omega) (by have := h1.2.2.2.2.1; simp; omega) (by simpa using h1.2.2.2.2.2)
        rw [List.nil_append, h1.2.2.2.1] at this
        exact this
      go_wp2_with (go_at_call 89; refine CC.out.mono ?_; rintro e w2 ⟨rfl, H2⟩)
      go_end0
      exact ⟨rfl, H2.out⟩
    · have hne : ¬ (i : Int) = j := by omega
      have HS : Hid (∃ A Y, U' = A ++ Y ∧ A.length = j ∧ Y.length = i - j) := ⟨U'.take j, U'.drop j, (List.take_append_drop _ _).symm, by rw [List.length_take, HB.out.2.1]; omega, by rw [List.length_drop, HB.out.2.1]⟩
      obtain ⟨A, Y, hY⟩ := HS.out
      have HY : Hid (U' = A ++ Y ∧ A.length = j ∧ Y.length = i - j) := hY
      clear hY HS
      have CC : Hid (Calls Try.prog 89 #[.slice (some ⟨blk, off, none⟩) N cap, .int .i64 ((m : Int) - i), .int .i64 (m : Int), .int .i64 (j : Int), cv] wr fun e w' => e = .returned (.tuple #[]) ∧ Hid (SWK enc 8 w0 blk off (P' ++ (V' ++ (Y ++ (A ++ S')))).toArray w')) := by
        have h1 := HB.out
        have h2 := HY.out
        refine HC.out P' A Y V' S' j m _ _ wr h2.2.1 h1.2.2.1 (by omega) rfl (by omega) (by have := h1.2.2.2.2.1; omega) ?_
        have e : P' ++ (A ++ (Y ++ (V' ++ S'))) = P' ++ (U' ++ (V' ++ S')) := by rw [h2.1]; simp
        rw [e]; exact h1.2.2.2.2.2
      go_wp2_with (go_at_call 89; refine CC.out.mono ?_; rintro e w2 ⟨rfl, H2⟩)
      go_roundw
      case rel =>
        have h1 := HB.out
        have h2 := HY.out
        refine ⟨i - j, j, P' ++ V', Y, A, S', by go_num, rfl, by omega, by omega, by omega, by omega, ⟨by rw [List.length_append, h1.2.2.1]; omega, h2.2.2, h2.2.1, ?_, h1.2.2.2.2.1, ?_⟩⟩
        · rw [← h1.2.2.2.1, h2.1]; simp
        · have := H2.out
          have e : P' ++ (V' ++ (Y ++ (A ++ S'))) = (P' ++ V') ++ (Y ++ (A ++ S')) := by simp
          rw [e] at this
          exact this
      case measure => simp [intOf]; omega
end Go.Proofs.Ytdlipponajilbaa
