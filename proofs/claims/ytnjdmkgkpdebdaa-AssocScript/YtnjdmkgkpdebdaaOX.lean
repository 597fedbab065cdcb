/- assoc: the reference's Drop and Expire. -/
import Derived.Test.YtnjdmkgkpdebdaaOW
namespace Go.Proofs.Ytnjdmkgkpdebdaa
open Go Go.RowKit Go.Sort
set_option linter.unusedVariables false
theorem Rt.rgrown {w w' : World} {d B : Nat} {l l' : List Mb} (h : Rt w d B l) (e : l'.map mbL = l.map mbL) : Rt w d B l' := by
  obtain ⟨v, h1, h2, h3⟩ := h.ex
  have hl : l'.length = l.length := by have := congrArg List.length e; simpa using this
  exact ⟨⟨v, h1, by rw [e]; exact h2, h3⟩, by rw [hl]; exact h.len⟩
def rdB (l : List Mb) (id : Int) : Bool := decide (id ≠ 0) && (idM id l).isSome
set_option maxRecDepth 20000 in
set_option maxHeartbeats 2000000 in
theorem rDrop_any (d B : Nat) (l : List Mb) (id : Int) (w : World) (h : Rt w d B l) (hB : B ≤ w.heap.size) : Calls Try.prog 25 #[.pointer (some ⟨d, 0, none⟩), .int .i64 id] w fun e w' => e = .returned (.bool (rdB l id)) ∧ Hid ((rdB l id = false ∧ Rt w' d B l) ∨ (rdB l id = true ∧ ∃ xs, Bl l id xs ∧ Rt w' d B (drRest xs l))) ∧ Hid (w.grownBy w' (some d)) := by
  have HH : Hid (Rt w d B l ∧ B ≤ w.heap.size) := ⟨h, hB⟩
  clear h hB
  by_cases h0 : id = 0
  · subst h0
    have HE : Hid (rdB l 0 = false) := by show _ = _; unfold rdB; simp
    go_enter Try.func25, Try.ntmps25
    refine post_hid fun Q hQ => ?_
    go_wp2_with fail
    rw [hQ.out]
    go_ret
    exact ⟨ret_bool' HE.out.symm, .inl ⟨HE.out, HH.out.1⟩, grownBy_below (Below.refl _ _) _⟩
  have h02 : (id == 0) = false := by simpa using h0
  have CA : Hid (Calls Try.prog 50 #[.pointer (some ⟨d, 0, none⟩), .int .i64 id] w fun e w' => e = .returned (.int .i64 (idF id l 0)) ∧ Below w.heap.size w w') := rat_any d B l id w HH.out.1
  rcases idF_at id l 0 with ⟨h1, h2⟩ | ⟨i, m, h1, h2, h3, h4⟩
  · have HE : Hid (rdB l id = false) := by show _ = _; unfold rdB; rw [h2]; simp
    rw [h1] at CA
    clear h1 h2
    go_enter Try.func25, Try.ntmps25
    refine post_hid fun Q hQ => ?_
    go_wp2_with (go_at_call 50; refine CA.out.mono ?_; rintro e w1 ⟨rfl, hb1⟩; have HB1 : Hid (Below w.heap.size w w1) := hb1; clear hb1)
    rw [hQ.out]
    go_ret
    exact ⟨ret_bool' HE.out.symm, .inl ⟨HE.out, HH.out.1.below HB1.out⟩, grownBy_below HB1.out _⟩
  · have HE : Hid (rdB l id = true) := by show _ = _; unfold rdB; rw [h3]; simp [h0]
    rw [h1] at CA
    simp only [Int.natCast_zero, Int.zero_add] at CA
    have hi0 : (0 : Int) ≤ i := Int.natCast_nonneg i
    clear h1 h2 h3 h4
    go_enter Try.func25, Try.ntmps25
    refine post_hid fun Q hQ => ?_
    go_upto_region 3 with (go_at_call 50; refine CA.out.mono ?_; rintro e w1 ⟨rfl, hb1⟩; have HB1 : Hid (Below w.heap.size w w1) := hb1; clear hb1)
    have CB : Hid (Calls Try.prog 53 #[.pointer (some ⟨d, 0, none⟩), .int .i64 id] w1 fun e w' => ∃ u xs, e = .returned u ∧ Hid (OR w' w1.heap.size 3 1 u (intL xs)) ∧ Hid (Bl l id xs) ∧ Hid (Below w1.heap.size w1 w')) := rbelow_any d B l id w1 (HH.out.1.below HB1.out)
    go_wp2_with (first
      | (go_at_call 53; refine CB.out.mono ?_; rintro e w2 ⟨u, xs, rfl, HO, HL, HB2⟩; have CD : Hid (Calls Try.prog 52 #[.pointer (some ⟨d, 0, none⟩), u] w2 fun e w' => ∃ u, e = .returned u ∧ Hid (OR w' w2.heap.size 3 1 u (intL (drGone xs l))) ∧ Hid (Rt w' d B (drRest xs l)) ∧ Hid (w2.grownBy w' (some d))) := rdrop_any d B l u xs w2 ((HH.out.1.below HB1.out).below HB2.out) HO.out.rk (by have := HL.out.len; have := HH.out.1.len; omega) (Nat.le_trans HH.out.2 (Nat.le_trans HB1.out.size HB2.out.size)))
      | (go_at_call 52; refine CD.out.mono ?_; rintro e w3 ⟨u2, rfl, HO2, HR2, HG2⟩))
    rw [hQ.out]
    go_ret
    exact ⟨ret_bool' HE.out.symm, .inr ⟨HE.out, xs, HL.out, HR2.out⟩, grownBy_trans (grownBy_below (below_thru HB1.out HB2.out) _) HG2.out⟩
def xpP (now : Int) (m : Mb) : Prop := m.ends ≠ 0 ∧ m.ends ≤ now
/-- so far -/
structure Xp (l : List Mb) (now : Int) (k : Nat) (xs : List Int) : Prop where
  own : ∀ m ∈ l.take k, xpP now m → m.id ∈ xs
  snd : ∀ x ∈ xs, ∀ Q : Int → Prop, (∀ i, (∃ m ∈ l, m.id = i ∧ xpP now m) → Q i) → (∀ m ∈ l, Q m.par → Q m.id) → Q x
  clo : ∀ m ∈ l, m.par ∈ xs → m.id ∈ xs
  len : xs.length ≤ 17 * k
theorem Xp.start (l : List Mb) (now : Int) : Xp l now 0 [] := ⟨fun m hm => by simp at hm, fun x hx => by simp at hx, fun m _ hm => by simp at hm, by simp⟩
theorem Xp.no {l : List Mb} {now : Int} {k : Nat} {xs : List Int} {m : Mb} (h : Xp l now k xs) (hm : l.take (k + 1) = l.take k ++ [m]) (hx : ¬ xpP now m) : Xp l now (k + 1) xs :=
  ⟨fun n hn hp => by
    rw [hm] at hn
    rcases List.mem_append.1 hn with hn | hn
    · exact h.own n hn hp
    · simp at hn; rw [hn] at hp; exact absurd hp hx, h.snd, h.clo, by have := h.len; omega⟩
theorem Xp.yes {l : List Mb} {now : Int} {k : Nat} {xs ys : List Int} {m : Mb} (h : Xp l now k xs) (hm : l.take (k + 1) = l.take k ++ [m]) (hml : m ∈ l) (hx : xpP now m) (hb : Bl l m.id ys) (hl : l.length ≤ 16) : Xp l now (k + 1) (xs ++ ys) :=
  ⟨fun n hn hp => by
    rw [hm] at hn
    rcases List.mem_append.1 hn with hn | hn
    · exact List.mem_append_left _ (h.own n hn hp)
    · simp at hn; rw [hn]; exact List.mem_append_right _ hb.own,
   fun x hx' Q q0 q1 => by
    rcases List.mem_append.1 hx' with h1 | h1
    · exact h.snd x h1 Q q0 q1
    · exact hb.snd x h1 Q (q0 _ ⟨m, hml, rfl, hx⟩) q1,
   fun n hn hp => by
    rcases List.mem_append.1 hp with h1 | h1
    · exact List.mem_append_left _ (h.clo n hn h1)
    · exact List.mem_append_right _ (hb.clo n hn h1),
   by have := h.len; have := hb.len; rw [List.length_append]; omega⟩
theorem Xp.done {l : List Mb} {now : Int} {k : Nat} {xs : List Int} (h : Xp l now k xs) (hk : l.length ≤ k) : Blx l (fun i => ∃ m ∈ l, m.id = i ∧ xpP now m) xs :=
  ⟨fun x ⟨m, h1, h2, h3⟩ => by rw [← h2]; exact h.own m (by rw [List.take_of_length_le hk]; exact h1) h3, h.snd, h.clo⟩
set_option maxRecDepth 20000 in
set_option maxHeartbeats 4000000 in
theorem rExpire_any (d B : Nat) (l : List Mb) (now : Int) (w : World) (h : Rt w d B l) (hB : B ≤ w.heap.size) : Calls Try.prog 29 #[.pointer (some ⟨d, 0, none⟩), .int .i64 now] w fun e w' => ∃ u xs, e = .returned u ∧ Hid (Blx l (fun i => ∃ m ∈ l, m.id = i ∧ xpP now m) xs) ∧ Hid (OR w' w.heap.size 3 1 u (intL (drGone xs l))) ∧ Hid (Rt w' d B (drRest xs l)) ∧ Hid (w.grownBy w' (some d)) := by
  have HH : Hid (Rt w d B l ∧ B ≤ w.heap.size) := ⟨h, hB⟩
  obtain ⟨ao, cap, hb, hr⟩ := h.read
  have HR : Hid (∀ w', Below w.heap.size w w' → ∀ i m, l[i]? = some m → ∃ ad, ao = some ad ∧ ∀ j u, (mbL m)[j]? = some u → w'.cell? ((ad.add (i * 16)).add j) = some u) := hr
  obtain ⟨n, hn⟩ : ∃ n, l.length = n := ⟨_, rfl⟩
  have HN : Hid (l.length = n ∧ n ≤ 16) := ⟨hn, by rw [← hn]; exact h.len⟩
  have hn16 : (n : Int) ≤ 16 := by have := h.len; omega
  rw [hn] at hb
  have c0 : w.cell? ⟨d, 0, none⟩ = some (.slice ao n cap) := hb.cell 0
  clear h hr hn hb hB
  go_enter Try.func29, Try.ntmps29
  refine post_hid fun Q hQ => ?_
  go_wp2_with fail
  go_loopw [5, 13] (fun v5 i wr => ∃ (k : Nat) (xs : List Int), i = .int .i64 k ∧ (k : Int) ≤ n ∧ Hid (OR wr w.heap.size 3 1 v5 (intL xs) ∧ Xp l now k xs ∧ Below w.heap.size w wr)) (fun _ i _ => n - (intOf i).toNat)
  case atStart => exact ⟨0, [], rfl, by omega, ⟨OR.nil _ _ _ _, Xp.start l now, Below.refl _ _⟩⟩
  case round =>
    obtain ⟨k, xs, rfl, hk, HI⟩ := hrel
    clear c0
    obtain ⟨v5, hv5⟩ : ∃ v, v = u5 := ⟨_, rfl⟩
    subst hv5
    by_cases hlt : (k : Int) < n
    · have hkl : k < l.length := by rw [HN.out.1]; omega
      obtain ⟨m, hm⟩ : ∃ m, l[k]? = some m := ⟨_, List.getElem?_eq_getElem hkl⟩
      obtain ⟨ad, g1, g3⟩ := HR.out wr HI.out.2.2 k m hm
      have hix := ix_rw n cap k g1 hlt
      have HS : Hid (∀ j' u, (mbL m)[j']? = some u → wr.cell? ((ad.add (k * 16)).add j') = some u) := g3
      have HM : Hid (l.take (k + 1) = l.take k ++ [m] ∧ m ∈ l) := ⟨by rw [List.take_succ_eq_append_getElem hkl]; rw [List.getElem?_eq_getElem hkl] at hm; rw [Option.some.inj hm], List.mem_of_getElem? hm⟩
      clear g1 g3 hm hkl
      go_upto_region 5 with (first
        | (refine step_ldat 83 _ rfl rfl (ad.add (k * 16)) (by rfl) (mbL m) _ Try.underlying83 rfl (by kernel_rfl) HS.out ?_)
        | (refine step_alL (by rfl) 83 rfl (mbL zMb).toArray (fun u => by kernel_rfl) ?_; intro w3 g H3)
        | (refine step_stL (by rfl) _ _ rfl g (mbL m).toArray (by rfl) (by rfl) (mbL zMb).toArray (by kernel_rfl) (by kernel_rfl) (by kernel_rfl) H3.out.bk ?_; intro w4 H4))
      have H5 : Hid (OR w4 w.heap.size 3 1 v5 (intL xs) ∧ Xp l now k xs ∧ Below w.heap.size w w4 ∧ Bk g w4 (mbL m).toArray 83) := by
        have hb := H4.out.below H3.out.be H3.out.be.size (Nat.le_of_eq H3.out.at'.symm)
        exact ⟨HI.out.1.below hb (Nat.le_refl _), HI.out.2.1, below_thru HI.out.2.2 hb, H4.out.bk⟩
      clear H3 H4 HS hix HI
      have d0 : w4.cell? ⟨g, 0, none⟩ = some (.int .i64 m.id) := H5.out.2.2.2.cell 0
      have d1 : w4.cell? ⟨g, 14, none⟩ = some (.int .i64 m.ends) := H5.out.2.2.2.cell 14
      by_cases he : m.ends = 0
      · have hno : ¬ xpP now m := fun h => h.1 he
        have HNo : Hid (¬ xpP now m) := hno
        rw [he] at d1
        clear hno
        go_wp2_with fail
        go_roundw
        case rel => exact ⟨k + 1, xs, by go_num, by omega, ⟨H5.out.1, H5.out.2.1.no HM.out.1 HNo.out, H5.out.2.2.1⟩⟩
        case measure => simp [intOf]; omega
      have he2 : (m.ends == 0) = false := by simpa using he
      have he3 : (m.ends != 0) = true := by simpa using he
      by_cases hle : m.ends ≤ now
      · have HX : Hid (xpP now m) := ⟨he, hle⟩
        have CB : Hid (Calls Try.prog 53 #[.pointer (some ⟨d, 0, none⟩), .int .i64 m.id] w4 fun e w' => ∃ u xs, e = .returned u ∧ Hid (OR w' w4.heap.size 3 1 u (intL xs)) ∧ Hid (Bl l m.id xs) ∧ Hid (Below w4.heap.size w4 w')) := rbelow_any d B l m.id w4 (HH.out.1.below H5.out.2.2.1)
        go_wp2_with (first
          | (go_at_call 53; refine CB.out.mono ?_; rintro e w5 ⟨u, ys, rfl, HO, HL, HB5⟩; have H6 : Hid (OR w5 w.heap.size 3 1 v5 (intL xs) ∧ Below w.heap.size w w5) := ⟨H5.out.1.below HB5.out (Nat.le_refl _), below_thru H5.out.2.2.1 HB5.out⟩)
          | (at_builtin; refine wpList_appk tiI rfl _ _ rfl w.heap.size w5.heap.size v5 u (intL xs) (intL ys) (by rfl) (by rfl) H6.out.1 HO.out.rk HO.out.ra HO.out.len ?_ ?_ ?_ H6.out.2.size ?_; (intro r hr z hz; obtain ⟨y, _, rfl⟩ := List.mem_map.1 hr; exact intL_one y z hz); (have h1 := H5.out.2.1.len; have h2 := HL.out.len; have h3 := HN.out; rw [intL_len, intL_len]; simp only [maxLen]; omega); (have h1 := H5.out.2.1.len; have h2 := HL.out.len; have h3 := HN.out; rw [intL_len, intL_len]; omega); intro v7 w7 g7 g8 g9; have H8 : Hid (OR w7 w.heap.size 3 1 v7 (intL xs ++ intL ys) ∧ Below w.heap.size w5 w7) := ⟨g7, below_own g8 H6.out.2.size H6.out.1.own⟩; clear g7 g8 g9))
        go_roundw
        case rel =>
          refine ⟨k + 1, xs ++ ys, by go_num, by omega, ⟨?_, H5.out.2.1.yes HM.out.1 HM.out.2 HX.out HL.out (by rw [HN.out.1]; exact HN.out.2), H6.out.2.trans H8.out.2⟩⟩
          have e : intL (xs ++ ys) = intL xs ++ intL ys := by unfold intL; rw [List.map_append]
          rw [e]
          exact H8.out.1
        case measure => simp [intOf]; omega
      · have HNo : Hid (¬ xpP now m) := fun h => hle h.2
        go_wp2_with fail
        go_roundw
        case rel => exact ⟨k + 1, xs, by go_num, by omega, ⟨H5.out.1, H5.out.2.1.no HM.out.1 HNo.out, H5.out.2.2.1⟩⟩
        case measure => simp [intOf]; omega
    · obtain ⟨w5, hw5⟩ : ∃ w5, w5 = wr := ⟨_, rfl⟩
      subst hw5
      have CD : Hid (Calls Try.prog 52 #[.pointer (some ⟨d, 0, none⟩), v5] w5 fun e w' => ∃ u, e = .returned u ∧ Hid (OR w' w5.heap.size 3 1 u (intL (drGone xs l))) ∧ Hid (Rt w' d B (drRest xs l)) ∧ Hid (w5.grownBy w' (some d))) := rdrop_any d B l v5 xs w5 (HH.out.1.below HI.out.2.2) HI.out.1.rk (by have h1 := HI.out.2.1.len; have h2 := HN.out.2; omega) (Nat.le_trans HH.out.2 HI.out.2.2.size)
      go_wp2_with (go_at_call 52; refine CD.out.mono ?_; rintro e w3 ⟨u2, rfl, HO2, HR2, HG2⟩)
      rw [hQ.out]
      go_ret
      exact ⟨_, xs, rfl, HI.out.2.1.done (by rw [HN.out.1]; omega), HO2.out.mono HI.out.2.2.size, HR2.out, grownBy_trans (grownBy_below HI.out.2.2 _) HG2.out⟩
end Go.Proofs.Ytnjdmkgkpdebdaa
