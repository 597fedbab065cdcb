/- assoc: Mobilise. -/
import Derived.Test.YtnjdmkgkpdebdaaKJ
namespace Go.Proofs.Ytnjdmkgkpdebdaa
open Go Go.RowKit Go.Sort
set_option linter.unusedVariables false
/-- whom a packet mobilises, and by whom; none: why not -/
def moA (ms : List (Option Mb)) (act par poll key frm : Int) : Option (As × Int) :=
  if act = 3 then some (tdA poll key frm 7, 0) else if act = 4 then some (tdA poll key frm 8, 0) else if act = 5 then match atM ms par with
    | none => none
    | some m => if srB m.ac = true then some (fdA m.ac frm, par) else none
  else none
def moN (ms : List (Option Mb)) (act par poll key frm : Int) : Int := match moA ms act par poll key frm with
  | none => 0
  | some (a, p) => adN ms a p
def moE (ms : List (Option Mb)) (act par poll key frm : Int) : Int := match moA ms act par poll key frm with
  | none => if act = 5 then 121 else 1
  | some (a, p) => adE ms a p
def moT (ms : List (Option Mb)) (act par poll key frm now : Int) (b : Nat) : List (Option Mb) := match moA ms act par poll key frm with
  | none => ms
  | some (a, p) => adT ms a p now b
set_option maxRecDepth 20000 in
set_option maxHeartbeats 2000000 in
theorem mobilise_any (q : Nat) (ms : List (Option Mb)) (pk : List Value) (act par mode poll key frm now : Int) (w : World) (h : Tb w q ms) (hp : Pf pk mode poll key) (hn : -9223372036854775808 ≤ now) : Calls Try.prog 17 #[.pointer (some ⟨q, 0, none⟩), .int .i64 act, .int .i64 par, .agg pk.toArray, .int .u32 frm, .int .i64 now] w fun e w' => ∃ b, e = .returned (.tuple #[.int .i64 (moN ms act par poll key frm), .int .i64 (moE ms act par poll key frm)]) ∧ Tb w' q (moT ms act par poll key frm now b) ∧ w.grownBy w' (some q) ∧ w.heap.size ≤ b := by
  have HT : Hid (Tb w q ms ∧ Pf pk mode poll key) := ⟨h, hp⟩
  clear h hp
  unfold moN moE moT
  go_enter Try.func17, Try.ntmps17
  refine post_hid fun Q hQ => ?_
  refine seq_hid fun R hR => ?_
  go_wp2_with (refine step_boxL (by rfl) 47 _ rfl pk.toArray (by rfl) (fun u => by rfl) ?_; intro W g HW)
  rw [hR.out]
  clear hR
  have HC : Hid (∀ j u, pk[j]? = some u → W.cell? ((⟨g, 0, none⟩ : Addr).add j) = some u) := cells_of HW.out.bk
  have HB : Hid (Tb W q ms) := HT.out.1.below HW.out.be
  have HL : Hid ((Try.prog.info? 47).map (·.size) = some pk.length) := by show _ = _; rw [HT.out.2.len]; kernel_rfl
  have HD : Hid (∀ a p w1, Below W.heap.size W w1 → Calls Try.prog 15 #[.pointer (some ⟨q, 0, none⟩), .agg (asL a).toArray, .int .i64 p, .int .i64 now] w1 fun e w' => ∃ b, e = .returned (.tuple #[.int .i64 (adN ms a p), .int .i64 (adE ms a p)]) ∧ Tb w' q (adT ms a p now b) ∧ w.grownBy w' (some q) ∧ w.heap.size ≤ b) := fun a p w1 hb => by
    have hb1 : Below w.heap.size w w1 := below_thru HW.out.be hb
    refine (add_any q ms a p now w1 (HB.out.below hb) hn).mono ?_
    rintro e w' ⟨b, h1, h2, h3, h4⟩
    exact ⟨b, h1, h2, grownBy_trans (grownBy_below hb1 _) h3, Nat.le_trans hb1.size h4⟩
  by_cases h3 : act = 3
  · subst h3
    have HM : Hid (moA ms 3 par poll key frm = some (tdA poll key frm 7, 0)) := rfl
    obtain ⟨A, hA⟩ : ∃ A, tdA poll key frm 7 = A := ⟨_, rfl⟩
    have HA : Hid (∀ u, Calls Try.prog 41 #[.agg pk.toArray, .int .u32 frm, .int .i64 7] u fun e w' => e = .returned (.agg (asL A).toArray) ∧ Below u.heap.size u w') := fun u => by rw [← hA]; exact toldBy_any pk mode poll key frm 7 u HT.out.2
    rw [hA] at HM
    clear hA
    go_wp2_with (first
      | (refine step_ldat 47 _ rfl rfl ⟨g, 0, none⟩ (by rfl) pk _ Try.underlying47 rfl HL.out HC.out ?_)
      | (go_at_call 41; refine (HA.out _).mono ?_; rintro e w1 ⟨rfl, hb1⟩)
      | (go_at_call 15; refine (HD.out A 0 w1 hb1).mono ?_; rintro e w2 ⟨b, rfl, h2⟩; have H2 : Hid _ := h2; clear h2))
    rw [hQ.out]
    go_ret2
    rw [HM.out]
    exact ⟨b, rfl, H2.out⟩
  by_cases h4 : act = 4
  · subst h4
    have HM : Hid (moA ms 4 par poll key frm = some (tdA poll key frm 8, 0)) := rfl
    obtain ⟨A, hA⟩ : ∃ A, tdA poll key frm 8 = A := ⟨_, rfl⟩
    have HA : Hid (∀ u, Calls Try.prog 41 #[.agg pk.toArray, .int .u32 frm, .int .i64 8] u fun e w' => e = .returned (.agg (asL A).toArray) ∧ Below u.heap.size u w') := fun u => by rw [← hA]; exact toldBy_any pk mode poll key frm 8 u HT.out.2
    rw [hA] at HM
    clear hA
    go_wp2_with (first
      | (refine step_ldat 47 _ rfl rfl ⟨g, 0, none⟩ (by rfl) pk _ Try.underlying47 rfl HL.out HC.out ?_)
      | (go_at_call 41; refine (HA.out _).mono ?_; rintro e w1 ⟨rfl, hb1⟩)
      | (go_at_call 15; refine (HD.out A 0 w1 hb1).mono ?_; rintro e w2 ⟨b, rfl, h2⟩; have H2 : Hid _ := h2; clear h2))
    rw [hQ.out]
    go_ret2
    rw [HM.out]
    exact ⟨b, rfl, H2.out⟩
  by_cases h5 : act = 5
  · subst h5
    obtain ⟨x, hx⟩ : ∃ x, atM ms par = x := ⟨_, rfl⟩
    have HX : Hid (atM ms par = x) := hx
    clear hx h3 h4
    cases x with
    | none =>
      have HM : Hid (moA ms 5 par poll key frm = none) := by show _ = _; unfold moA; rw [HX.out]; rfl
      go_wp2_with (go_at_call 39; refine (at_any q ms par W HB.out).mono ?_; rintro e w1 ⟨rfl, hw1⟩; rw [HX.out, hw1]; unfold ptr; simp only)
      rw [hQ.out]
      go_ret2
      rw [HM.out]
      exact ⟨w.heap.size, rfl, HB.out, grownBy_below HW.out.be _, Nat.le_refl _⟩
    | some m =>
      obtain ⟨i, hi, -, -⟩ := atM_mem HX.out
      have HS : Hid (∀ j u, (asL m.ac)[j]? = some u → W.cell? ((⟨m.b, 1, none⟩ : Addr).add j) = some u) := mb_as (HB.out.mem i m hi).1
      have HS1 : Hid (∀ w1, Below W.heap.size W w1 → ∀ j u, (asL m.ac)[j]? = some u → w1.cell? ((⟨m.b, 1, none⟩ : Addr).add j) = some u) := fun w1 hb => mb_as ((HB.out.below hb).mem i m hi).1
      clear hi
      obtain ⟨X, hX⟩ : ∃ X, srB m.ac = X := ⟨_, rfl⟩
      have HX2 : Hid (srB m.ac = X) := hX
      clear hX
      cases X
      · have HM : Hid (moA ms 5 par poll key frm = none) := by show _ = _; unfold moA; rw [HX.out]; simp [HX2.out]
        go_wp2_with (first
          | (go_at_call 39; refine (at_any q ms par W HB.out).mono ?_; rintro e w1 ⟨rfl, hw1⟩; rw [HX.out, hw1]; unfold ptr; simp only)
          | (refine step_ldatW 41 _ rfl rfl ⟨m.b, 1, none⟩ (by rfl) (asL m.ac) _ Try.underlying41 rfl (by kernel_rfl) HS.out ?_)
          | (go_at_call 42; refine (isSearch_any m.ac W).mono ?_; rintro e w2 ⟨rfl, hb2⟩; rw [HX2.out]))
        rw [hQ.out]
        go_ret2
        rw [HM.out]
        exact ⟨w.heap.size, rfl, HB.out.below hb2, grownBy_below (below_thru HW.out.be hb2) _, Nat.le_refl _⟩
      · have HM : Hid (moA ms 5 par poll key frm = some (fdA m.ac frm, par)) := by show _ = _; unfold moA; rw [HX.out]; simp [HX2.out]
        obtain ⟨A, hA⟩ : ∃ A, fdA m.ac frm = A := ⟨_, rfl⟩
        have HA : Hid (∀ u, Calls Try.prog 43 #[.agg (asL m.ac).toArray, .int .u32 frm] u fun e w' => e = .returned (.agg (asL A).toArray) ∧ Below u.heap.size u w') := fun u => by rw [← hA]; exact foundBy_any m.ac frm u
        rw [hA] at HM
        clear hA
        go_wp2_with (first
          | (go_at_call 39; refine (at_any q ms par W HB.out).mono ?_; rintro e w1 ⟨rfl, hw1⟩; rw [HX.out, hw1]; unfold ptr; simp only)
          | (refine step_ldatW 41 _ rfl rfl ⟨m.b, 1, none⟩ (by rfl) (asL m.ac) _ Try.underlying41 rfl (by kernel_rfl) HS.out ?_)
          | (go_at_call 42; refine (isSearch_any m.ac W).mono ?_; rintro e w2 ⟨rfl, hb2⟩; rw [HX2.out])
          | (refine step_ldat 41 _ rfl rfl ⟨m.b, 1, none⟩ (by rfl) (asL m.ac) _ Try.underlying41 rfl (by kernel_rfl) (HS1.out w2 hb2) ?_)
          | (go_at_call 43; refine (HA.out _).mono ?_; rintro e w3 ⟨rfl, hb3⟩)
          | (go_at_call 15; refine (HD.out A par w3 (below_thru hb2 hb3)).mono ?_; rintro e w4 ⟨b, rfl, h2⟩; have H2 : Hid _ := h2; clear h2))
        rw [hQ.out]
        go_ret2
        rw [HM.out]
        exact ⟨b, rfl, H2.out⟩
  · have h32 : (act == 3) = false := by simpa using h3
    have h42 : (act == 4) = false := by simpa using h4
    have h52 : (act == 5) = false := by simpa using h5
    have HM : Hid (moA ms act par poll key frm = none) := by show _ = _; unfold moA; rw [if_neg h3, if_neg h4, if_neg h5]
    go_wp2_with fail
    rw [hQ.out]
    go_ret2
    rw [HM.out]
    exact ⟨w.heap.size, by simp only [if_neg h5]; rfl, HB.out, grownBy_below HW.out.be _, Nat.le_refl _⟩
end Go.Proofs.Ytnjdmkgkpdebdaa
