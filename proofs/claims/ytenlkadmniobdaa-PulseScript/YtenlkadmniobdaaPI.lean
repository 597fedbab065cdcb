/- The examples of the document: every statement begins with them. -/
import Derived.Test.YtenlkadmniobdaaPH
namespace Go.Proofs.Ytenlkadmniobdaa
open Go.RowKit
theorem mid3 : Pu.mid [-10, -20, -30] = [-30, -20, -10] := by
  unfold Pu.mid
  rw [show Pu.srt (Pu.cls [-10, -20, -30]) = [-30, -20, -10] from Pu.srt_eq (by decide +kernel) (by decide)]
  rfl
theorem mid4 : Pu.mid [1, 2, 3, 100] = [2, 3] := by
  unfold Pu.mid
  rw [show Pu.srt (Pu.cls [1, 2, 3, 100]) = [1, 2, 3, 100] from Pu.srt_eq (by decide +kernel) (by decide)]
  rfl
theorem m3 : Pu.mdM [-10, -20, -30] = -20 := by unfold Pu.mdM; rw [mid3]; rfl
theorem wid3 : Pu.mdW [-10, -20, -30] = 20 := by unfold Pu.mdW; rw [mid3]; rfl
theorem m4 : Pu.mdM [1, 2, 3, 100] = 2 := by unfold Pu.mdM; rw [mid4]; rfl
theorem wid4 : Pu.mdW [1, 2, 3, 100] = 1 := by unfold Pu.mdW; rw [mid4]; rfl
theorem t5 : tkB [-10, -20, -30] true 30064771072 34376515584 = false := by
  have : farB [-10, -20, -30] (ofs 34376515584) = true := by unfold farB; rw [m3]; decide +kernel
  unfold tkB; rw [this]; decide +kernel
theorem ed_at (p : Nat) (es : List Int) (tk : Bool) (la t : Int) (re im : Nat) (w : World) (h : Ln w p es tk la re im) (b tk' : Bool) (es' : List Int) (la' : Int) (re' im' : Nat)
    (hb : tkB es tk la t = b) (h1 : egE es tk la t = es') (h2 : (tk || b) = tk') (h3 : egL es tk la t = la') (h4 : (if b then tnR re im 1 else re) = re') (h5 : (if b then tnI re im 1 else im) = im') :
    Calls Try.prog 19 #[.pointer (some ⟨p, 0, none⟩), .int .u64 t] w fun e w' => e = .returned (.bool b) ∧ Ln w' p es' tk' la' re' im' ∧ w.grownBy w' (some p) := by
  have q := edge_any p es tk la t re im w h
  rw [hb, h1, h2, h3, h4, h5] at q
  exact q
theorem x1 (p : Nat) (w : World) (h : Ln w p [] false 0 4607182418800017408 0) : Calls Try.prog 19 #[.pointer (some ⟨p, 0, none⟩), .int .u64 21474836490] w fun e w' => e = .returned (.bool true) ∧ Ln w' p [-10] true 21474836480 9223372036854775808 4607182418800017408 ∧ w.grownBy w' (some p) :=
  ed_at p _ _ _ _ _ _ w h true true _ _ _ _ (by decide +kernel) (by decide +kernel) rfl (by decide +kernel) (by decide +kernel) (by decide +kernel)
theorem x2 (p : Nat) (w : World) (h : Ln w p [-10] true 21474836480 9223372036854775808 4607182418800017408) : Calls Try.prog 19 #[.pointer (some ⟨p, 0, none⟩), .int .u64 25769803796] w fun e w' => e = .returned (.bool true) ∧ Ln w' p [-10, -20] true 25769803776 13830554455654793216 9223372036854775808 ∧ w.grownBy w' (some p) :=
  ed_at p _ _ _ _ _ _ w h true true _ _ _ _ (by decide +kernel) (by decide +kernel) rfl (by decide +kernel) (by decide +kernel) (by decide +kernel)
theorem x3 (p : Nat) (w : World) (h : Ln w p [-10, -20] true 25769803776 13830554455654793216 9223372036854775808) : Calls Try.prog 19 #[.pointer (some ⟨p, 0, none⟩), .int .u64 25769803806] w fun e w' => e = .returned (.bool false) ∧ Ln w' p [-10, -20] true 25769803776 13830554455654793216 9223372036854775808 ∧ w.grownBy w' (some p) :=
  ed_at p _ _ _ _ _ _ w h false true _ _ _ _ (by decide +kernel) (by decide +kernel) rfl (by decide +kernel) (by decide +kernel) (by decide +kernel)
theorem x4 (p : Nat) (w : World) (h : Ln w p [-10, -20] true 25769803776 13830554455654793216 9223372036854775808) : Calls Try.prog 19 #[.pointer (some ⟨p, 0, none⟩), .int .u64 30064771102] w fun e w' => e = .returned (.bool true) ∧ Ln w' p [-10, -20, -30] true 30064771072 0 13830554455654793216 ∧ w.grownBy w' (some p) :=
  ed_at p _ _ _ _ _ _ w h true true _ _ _ _ (by decide +kernel) (by decide +kernel) rfl (by decide +kernel) (by decide +kernel) (by decide +kernel)
theorem x5 (p : Nat) (w : World) (h : Ln w p [-10, -20, -30] true 30064771072 0 13830554455654793216) : Calls Try.prog 19 #[.pointer (some ⟨p, 0, none⟩), .int .u64 34376515584] w fun e w' => e = .returned (.bool false) ∧ Ln w' p [-10, -20, -30] true 30064771072 0 13830554455654793216 ∧ w.grownBy w' (some p) :=
  ed_at p _ _ _ _ _ _ w h false true _ _ _ _ t5 (by unfold egE; rw [t5]; rfl) rfl (by unfold egL; rw [t5]; rfl) (by decide +kernel) (by decide +kernel)
theorem x6 (p : Nat) (w : World) (h : Ln w p [-10, -20, -30] true 30064771072 0 13830554455654793216) : Calls Try.prog 21 #[.pointer (some ⟨p, 0, none⟩), .int .u64 38654705664, .int .i64 100] w fun e w' => e = .returned (.tuple #[.agg #[.int .i64 80, .int .i64 0, .int .i64 4106, .int .u64 38654705664], .bool true]) ∧ Ln w' p [] true 30064771072 0 13830554455654793216 ∧ w.grownBy w' (some p) := by
  have q := sample_many p _ _ _ _ _ 38654705664 100 w h (by decide) (by decide) (by decide)
  rw [m3, wid3] at q
  exact q
end Go.Proofs.Ytenlkadmniobdaa
