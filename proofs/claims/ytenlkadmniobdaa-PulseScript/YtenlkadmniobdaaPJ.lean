/- The examples of the document, walked. -/
import Derived.Test.YtenlkadmniobdaaPI
namespace Go.Proofs.Ytenlkadmniobdaa
open Go.RowKit
theorem below_edge {w a b : World} {p : Nat} (h : Below w.heap.size w a) (hg : a.grownBy b (some p)) (hp : w.heap.size ≤ p) : Below w.heap.size w b := h.grown hg h.size (fun k hk => by injection hk with hk; omega)
theorem phase_ln {p : Nat} {es : List Int} {tk : Bool} {la : Int} {re im : Nat} {w : World} (h : Ln w p es tk la re im) :
    Calls Try.prog 26 #[.pointer (some ⟨p, 0, none⟩)] w fun e w' => e = .returned (.complex .f64 re im) ∧ w' = w := by
  obtain ⟨_, os, _, h⟩ := h
  exact phase_any p os _ tk la re im w h
theorem len_ln {p : Nat} {es : List Int} {tk : Bool} {la : Int} {re im : Nat} {w : World} (h : Ln w p es tk la re im) :
    Calls Try.prog 24 #[.pointer (some ⟨p, 0, none⟩)] w fun e w' => e = .returned (.int .i64 es.length) ∧ w' = w := by
  obtain ⟨_, os, _, h⟩ := h
  exact len_any p os _ tk la re im w h
theorem offset_last (w : World) : Calls Try.prog 10 #[.int .u64 4294967295] w fun e w' => e = .returned (.int .i64 1) ∧ w' = w := offset_any 4294967295 w
set_option maxHeartbeats 4000000 in
theorem shown_any (w : World) : Calls Try.prog 9 #[] w fun e w' => e = .returned (.bool true) ∧ Below w.heap.size w w' := by
  obtain ⟨p, hp⟩ : ∃ p, p = w.heap.size := ⟨_, rfl⟩
  have HN := new_any w
  rw [← hp] at HN
  have HP : Hid (p = w.heap.size) := hp
  have HN' : Hid _ := HN
  clear HN hp
  go_enter Try.func9, Try.ntmps9
  go_wp2_with fail
  refine Calls.mono HN'.out ?_
  rintro e w1 ⟨rfl, hL, hB, hz⟩
  have H1 : Hid (Ln w1 p [] false 0 4607182418800017408 0 ∧ Below w.heap.size w w1) := ⟨hL, by rw [← HP.out]; exact hB⟩
  clear hL hB hz HN'
  go_wp2_with fail
  refine (x1 p _ H1.out.1).mono ?_
  rintro e w2 ⟨rfl, hL, hg⟩
  have H2 : Hid (Ln w2 p [-10] true 21474836480 9223372036854775808 4607182418800017408 ∧ Below w.heap.size w w2) := ⟨hL, below_edge H1.out.2 hg (by rw [← HP.out]; omega)⟩
  clear hL hg H1
  go_wp2_with fail
  refine (x2 p _ H2.out.1).mono ?_
  rintro e w3 ⟨rfl, hL, hg⟩
  have H3 : Hid (Ln w3 p [-10, -20] true 25769803776 13830554455654793216 9223372036854775808 ∧ Below w.heap.size w w3) := ⟨hL, below_edge H2.out.2 hg (by rw [← HP.out]; omega)⟩
  clear hL hg H2
  go_wp2_with fail
  refine (x3 p _ H3.out.1).mono ?_
  rintro e w4 ⟨rfl, hL, hg⟩
  have H4 : Hid (Ln w4 p [-10, -20] true 25769803776 13830554455654793216 9223372036854775808 ∧ Below w.heap.size w w4) := ⟨hL, below_edge H3.out.2 hg (by rw [← HP.out]; omega)⟩
  clear hL hg H3
  go_wp2_with fail
  refine (x4 p _ H4.out.1).mono ?_
  rintro e w5 ⟨rfl, hL, hg⟩
  have H5 : Hid (Ln w5 p [-10, -20, -30] true 30064771072 0 13830554455654793216 ∧ Below w.heap.size w w5) := ⟨hL, below_edge H4.out.2 hg (by rw [← HP.out]; omega)⟩
  clear hL hg H4
  go_wp2_with fail
  refine (x5 p _ H5.out.1).mono ?_
  rintro e w6 ⟨rfl, hL, hg⟩
  have H6 : Hid (Ln w6 p [-10, -20, -30] true 30064771072 0 13830554455654793216 ∧ Below w.heap.size w w6) := ⟨hL, below_edge H5.out.2 hg (by rw [← HP.out]; omega)⟩
  clear hL hg H5
  go_wp2_with fail
  refine (x6 p _ H6.out.1).mono ?_
  rintro e w7 ⟨rfl, hL, hg⟩
  have H7 : Hid (Ln w7 p [] true 30064771072 0 13830554455654793216 ∧ Below w.heap.size w w7) := ⟨hL, below_edge H6.out.2 hg (by rw [← HP.out]; omega)⟩
  clear hL hg H6
  go_wp2_with fail
  refine (median_at ⟨w7.heap.size + 1, 0, none⟩ [1, 2, 3, 100] 4 4 _ rfl (by decide) (by decide) (fun k hk => by
    have h4 : k < 4 := hk
    rw [add_own, Nat.zero_add]
    rcases k with _ | _ | _ | _ | k
    all_goals first | (simp; done) | omega) (by simp)).mono ?_
  rw [m4, wid4]
  rintro e w8 ⟨rfl, hB⟩
  obtain ⟨hcl, hfr⟩ := bcell hB
  have r0 : w8.cell? ⟨w7.heap.size, 0, none⟩ = some (.int .i64 80) := by rw [hcl _ _ (by simp; omega)]; simp
  have r1 : w8.cell? ⟨w7.heap.size, 1, none⟩ = some (.int .i64 0) := by rw [hcl _ _ (by simp; omega)]; simp
  have r2 : w8.cell? ⟨w7.heap.size, 2, none⟩ = some (.int .i64 4106) := by rw [hcl _ _ (by simp; omega)]; simp
  have r3 : w8.cell? ⟨w7.heap.size, 3, none⟩ = some (.int .u64 38654705664) := by rw [hcl _ _ (by simp; omega)]; simp
  have hB7 : Below w7.heap.size w7 w8 := (((Below.refl _ w7).alloc (Nat.le_refl _) _).alloc (by simp) _).trans (hB.mono (by simp; omega))
  have H8 : Hid (Ln w8 p [] true 30064771072 0 13830554455654793216 ∧ Below w.heap.size w w8) := ⟨H7.out.1.below hB7 H7.out.1.lt, H7.out.2.trans (hB7.mono H7.out.2.size)⟩
  clear hcl hfr hB hB7 H7
  have o1 : FloatKind.f64.format.order 0 0 = some .eq := by decide +kernel
  have o2 : FloatKind.f64.format.order 13830554455654793216 13830554455654793216 = some .eq := by decide +kernel
  go_wp2_with fail
  refine (phase_ln H8.out.1).mono ?_
  rintro e w9 ⟨rfl, hw⟩
  rw [hw]
  clear hw
  go_wp2_with fail
  refine (len_ln H8.out.1).mono ?_
  rintro e w9 ⟨rfl, hw⟩
  rw [hw]
  clear hw
  go_wp2_with fail
  refine (offset_last _).mono ?_
  rintro e w9 ⟨rfl, hw⟩
  rw [hw]
  clear hw
  go_wp2_with fail
  go_ret
  exact ⟨rfl, H8.out.2⟩
end Go.Proofs.Ytenlkadmniobdaa
