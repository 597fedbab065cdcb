/- slices.symMergeCmpFunc what is left behind the search. -/
import Derived.Test.YtdlipponajilbaaClV
import Derived.Test.YtdlipponajilbaaClSb
namespace Go.Proofs.Ytdlipponajilbaa
open Go Go.RowKit Go.Sort Go.Shelf Go.Lib Go.Proofs
set_option linter.unusedVariables false
variable {α : Type} [Inhabited α] {enc : α → List Value} {w0 : World} {blk off : Nat} {d0 : Array α}
set_option maxHeartbeats 1000000 in
theorem sym_tail {P U V Z : List α} {D : Array α} {N a m b cap s e mid : Nat} {wr : World} (HR : Hid (RowK enc 8 w0 blk off d0)) (cf : α → α → Int) (HPP : D = (P ++ (U ++ (V ++ Z))).toArray ∧ a = P.length ∧ m = a + U.length ∧ b = m + V.length ∧ N = b + Z.length ∧ N = d0.size) (HS : St.So (ltOf cf) U ∧ St.So (ltOf cf) V ∧ SWO (ltOf cf))
    (HI : Hid (∀ (P' U' V' Z' : List α) (a' m' b' : Nat) (x y z : Int) (W' : World), U'.length + V'.length < U.length + V.length → x = a' → y = m' → z = b' → a' = P'.length → m' = a' + U'.length → b' = m' + V'.length → 0 < U'.length → 0 < V'.length → St.So (ltOf cf) U' → St.So (ltOf cf) V' → N = b' + Z'.length → SWK enc 8 w0 blk off (P' ++ (U' ++ (V' ++ Z'))).toArray W' → Calls Try.prog 81 #[.slice (some ⟨blk, off, none⟩) N cap, .int .i64 x, .int .i64 y, .int .i64 z, .func (.func 40) #[] #[]] W' fun e w' => e = .returned (.tuple #[]) ∧ Hid (SWK enc 8 w0 blk off (P' ++ (St.mg (ltOf cf) U' V' ++ Z')).toArray w')))
    (HT : St.mg (ltOf cf) U V = St.mg (ltOf cf) (U.take (s - a)) (V.take (e - m)) ++ St.mg (ltOf cf) (U.drop (s - a)) (V.drop (e - m))) (hD : SWK enc 8 w0 blk off D wr) (y4 : e + s = mid + m) (f2 : m ≤ e) (f3 : e ≤ b) (f4 : a ≤ s) (f5 : s ≤ m) (z1 : a + 2 ≤ m) (z2 : m + 2 ≤ b) (z4 : N ≤ 1000000) (y2 : 2 * mid ≤ a + b) (y3 : a + b ≤ 2 * mid + 1) :
    ∃ L1 L2, Hid (s < m → m < e → Calls Try.prog 86 #[.slice (some ⟨blk, off, none⟩) N cap, .int .i64 (s : Int), .int .i64 (m : Int), .int .i64 (e : Int), .func (.func 40) #[] #[]] wr fun e w' => e = .returned (.tuple #[]) ∧ Hid (SWK enc 8 w0 blk off L1.toArray w')) ∧ Hid (¬ (s < m ∧ m < e) → SWK enc 8 w0 blk off L1.toArray wr) ∧ Hid (∀ w, SWK enc 8 w0 blk off L1.toArray w → a < s → m < e → Calls Try.prog 81 #[.slice (some ⟨blk, off, none⟩) N cap, .int .i64 (a : Int), .int .i64 (s : Int), .int .i64 (mid : Int), .func (.func 40) #[] #[]] w fun e w' => e = .returned (.tuple #[]) ∧ Hid (SWK enc 8 w0 blk off L2.toArray w')) ∧ Hid (¬ (a < s ∧ m < e) → L1 = L2) ∧ Hid (∀ w, SWK enc 8 w0 blk off L2.toArray w → s < m → e < b → Calls Try.prog 81 #[.slice (some ⟨blk, off, none⟩) N cap, .int .i64 (mid : Int), .int .i64 (e : Int), .int .i64 (b : Int), .func (.func 40) #[] #[]] w fun e w' => e = .returned (.tuple #[]) ∧ Hid (SWK enc 8 w0 blk off (P ++ (St.mg (ltOf cf) U V ++ Z)).toArray w')) ∧ Hid (¬ (s < m ∧ e < b) → L2 = P ++ (St.mg (ltOf cf) U V ++ Z)) := by
  obtain ⟨U1, hU1⟩ : ∃ U1, U.take (s - a) = U1 := ⟨_, rfl⟩
  obtain ⟨U2, hU2⟩ : ∃ U2, U.drop (s - a) = U2 := ⟨_, rfl⟩
  obtain ⟨V1, hV1⟩ : ∃ V1, V.take (e - m) = V1 := ⟨_, rfl⟩
  obtain ⟨V2, hV2⟩ : ∃ V2, V.drop (e - m) = V2 := ⟨_, rfl⟩
  have HSo : Hid (St.So (ltOf cf) U1 ∧ St.So (ltOf cf) U2 ∧ St.So (ltOf cf) V1 ∧ St.So (ltOf cf) V2) := by
    rw [← hU1, ← hU2, ← hV1, ← hV2]
    exact ⟨St.so_take HS.1 _, St.so_drop HS.1 _, St.so_take HS.2.1 _, St.so_drop HS.2.1 _⟩
  have HLn : Hid (U1.length = s - a ∧ U2.length = m - s ∧ V1.length = e - m ∧ V2.length = b - e ∧ U = U1 ++ U2 ∧ V = V1 ++ V2) := by
    refine ⟨by rw [← hU1, List.length_take]; omega, by rw [← hU2, List.length_drop]; omega, by rw [← hV1, List.length_take]; omega, by rw [← hV2, List.length_drop]; omega, ?_, ?_⟩
    · rw [← hU1, ← hU2, List.take_append_drop]
    · rw [← hV1, ← hV2, List.take_append_drop]
  rw [hU1, hU2, hV1, hV2] at HT
  obtain ⟨L1, hL1⟩ : ∃ L1, L1 = (P ++ U1) ++ (V1 ++ (U2 ++ (V2 ++ Z))) := ⟨_, rfl⟩
  obtain ⟨L2, hL2⟩ : ∃ L2, L2 = P ++ (St.mg (ltOf cf) U1 V1 ++ (U2 ++ (V2 ++ Z))) := ⟨_, rfl⟩
  obtain ⟨L3, hL3⟩ : ∃ L3, L3 = P ++ (St.mg (ltOf cf) U V ++ Z) := ⟨_, rfl⟩
  have M1 := St.mg_len (ltOf cf) U1 V1
  have HLL := HLn.out
  have HC1 : Hid (s < m → m < e → Calls Try.prog 86 #[.slice (some ⟨blk, off, none⟩) N cap, .int .i64 (s : Int), .int .i64 (m : Int), .int .i64 (e : Int), .func (.func 40) #[] #[]] wr fun e w' => e = .returned (.tuple #[]) ∧ Hid (SWK enc 8 w0 blk off L1.toArray w')) := fun h1 h2 => by
    have h := hD
    rw [HPP.1, HLL.2.2.2.2.1, HLL.2.2.2.2.2] at h
    have := rotate_any HR.out (P ++ U1) U2 V1 (V2 ++ Z) N s m e cap (.func (.func 40) #[] #[]) (by rw [List.length_append]; omega) (by rw [List.length_append]; omega) (by omega) (by omega) (by omega) HPP.2.2.2.2.2 (by rw [List.length_append]; omega) (by omega) wr (by
      have e : (P ++ U1) ++ (U2 ++ (V1 ++ (V2 ++ Z))) = P ++ ((U1 ++ U2) ++ ((V1 ++ V2) ++ Z)) := by simp
      rw [e]; exact h)
    rw [hL1]; exact this
  have HN1 : Hid (¬ (s < m ∧ m < e) → SWK enc 8 w0 blk off L1.toArray wr) := fun hn => by
    have h := hD
    rw [HPP.1, HLL.2.2.2.2.1, HLL.2.2.2.2.2] at h
    have e : L1 = P ++ ((U1 ++ U2) ++ ((V1 ++ V2) ++ Z)) := by
      rw [hL1]
      by_cases h1 : s < m
      · have : V1 = [] := List.length_eq_zero_iff.1 (by omega)
        rw [this]; simp
      · have : U2 = [] := List.length_eq_zero_iff.1 (by omega)
        rw [this]; simp
    rw [e]; exact h
  have HC2 : Hid (∀ w, SWK enc 8 w0 blk off L1.toArray w → a < s → m < e → Calls Try.prog 81 #[.slice (some ⟨blk, off, none⟩) N cap, .int .i64 (a : Int), .int .i64 (s : Int), .int .i64 (mid : Int), .func (.func 40) #[] #[]] w fun e w' => e = .returned (.tuple #[]) ∧ Hid (SWK enc 8 w0 blk off L2.toArray w')) := fun w hw h1 h2 => by
    rw [hL2]
    exact HI.out P U1 V1 (U2 ++ (V2 ++ Z)) a s mid _ _ _ w (by omega) rfl rfl rfl HPP.2.1 (by omega) (by omega) (by omega) (by omega) HSo.out.1 HSo.out.2.2.1 (by simp only [List.length_append]; omega) (by
      have e : P ++ (U1 ++ (V1 ++ (U2 ++ (V2 ++ Z)))) = L1 := by rw [hL1]; simp
      rw [e]; exact hw)
  have HN2 : Hid (¬ (a < s ∧ m < e) → L1 = L2) := fun hn => by
    rw [hL1, hL2]
    by_cases h1 : a < s
    · have : V1 = [] := List.length_eq_zero_iff.1 (by omega)
      rw [this, St.mg_nilR]; simp
    · have : U1 = [] := List.length_eq_zero_iff.1 (by omega)
      rw [this, St.mg_nilL]; simp
  have HC3 : Hid (∀ w, SWK enc 8 w0 blk off L2.toArray w → s < m → e < b → Calls Try.prog 81 #[.slice (some ⟨blk, off, none⟩) N cap, .int .i64 (mid : Int), .int .i64 (e : Int), .int .i64 (b : Int), .func (.func 40) #[] #[]] w fun e w' => e = .returned (.tuple #[]) ∧ Hid (SWK enc 8 w0 blk off L3.toArray w')) := fun w hw h1 h2 => by
    have := HI.out (P ++ St.mg (ltOf cf) U1 V1) U2 V2 Z mid e b _ _ _ w (by omega) rfl rfl rfl (by rw [List.length_append]; omega) (by omega) (by omega) (by omega) (by omega) HSo.out.2.1 HSo.out.2.2.2 (by omega) (by
      have e : (P ++ St.mg (ltOf cf) U1 V1) ++ (U2 ++ (V2 ++ Z)) = L2 := by rw [hL2]; simp
      rw [e]; exact hw)
    have e : (P ++ St.mg (ltOf cf) U1 V1) ++ (St.mg (ltOf cf) U2 V2 ++ Z) = L3 := by rw [hL3, HT]; simp
    rw [e] at this
    exact this
  have HN3 : Hid (¬ (s < m ∧ e < b) → L2 = L3) := fun hn => by
    rw [hL2, hL3, HT]
    by_cases h1 : s < m
    · have : V2 = [] := List.length_eq_zero_iff.1 (by omega)
      rw [this, St.mg_nilR]; simp
    · have : U2 = [] := List.length_eq_zero_iff.1 (by omega)
      rw [this, St.mg_nilL]; simp
  rw [hL3] at HC3 HN3
  exact ⟨L1, L2, HC1, HN1, HC2, HN2, HC3, HN3⟩
end Go.Proofs.Ytdlipponajilbaa
