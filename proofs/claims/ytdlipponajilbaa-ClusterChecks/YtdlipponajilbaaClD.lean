/- cluster: the first place of one; the select jitter. -/
import Derived.Test.YtdlipponajilbaaClO
namespace Go.Proofs.Ytdlipponajilbaa
open Go Go.RowKit Go.Sort Go.Proofs
set_option linter.unusedVariables false
theorem fld1 (A : Addr) (j : Nat) (hj : j ≠ 0) : A.add j = ⟨A.block, A.off + j, none⟩ := by unfold Addr.add; rw [if_neg hj]
theorem grownBy_of_below {w w' : World} (h : Below w.heap.size w w') : Below w.heap.size w w' := h
set_option maxRecDepth 20000 in
set_option maxHeartbeats 1000000 in
theorem idxPref_any (v : Value) (l : List Cn) (w : World) (N : Nat) (h : Rk N w 7 v (l.map cnL)) (hN : N ≤ w.heap.size) (hl : l.length ≤ 1000000) : Calls Try.prog 57 #[v, .func (.func 58) #[] #[]] w fun e w' => e = .returned (.int .i64 (idxP isPf l)) ∧ Below w.heap.size w w' := by
  obtain ⟨ao, cap, hv, hcap, hr⟩ := cands_read h
  have HR : Hid (∀ w', Below w.heap.size w w' → ∀ (i : Nat) c, l[i]? = some c → ∃ ad, ao = some ad ∧ ∀ j u, (cnL c)[j]? = some u → w'.cell? ((ad.add (i * 7)).add j) = some u) := fun w' hb i c hc => by
    obtain ⟨ad, h1, _, h2⟩ := hr w' (below_cells hb hN) i c hc
    exact ⟨ad, h1, h2⟩
  obtain ⟨n, hn⟩ : ∃ n, l.length = n := ⟨_, rfl⟩
  have HN : Hid (l.length = n) := hn
  rw [hn] at hv hl
  subst hv
  have hl2 : (n : Int) ≤ 1000000 := by omega
  have HG : Hid (True) := trivial
  clear h hr hn hcap hl hN
  go_enter Try.func57, Try.ntmps57
  refine post_hid fun Q hQ => ?_
  go_wp2_with fail
  go_loopw [5, 8] (fun _ i wr => ∃ (k : Nat), i = .int .i64 k ∧ (k : Int) ≤ n ∧ Hid ((∀ (i : Nat) x, i < k → l[i]? = some x → isPf x = false) ∧ Below w.heap.size w wr)) (fun _ i _ => n - (intOf i).toNat)
  case atStart => exact ⟨0, rfl, by omega, ⟨fun i x hi => by omega, Below.refl _ _⟩⟩
  case round =>
    obtain ⟨k, rfl, hk, HB⟩ := hrel
    by_cases hlt : (k : Int) < n
    · have hkl : k < l.length := by rw [HN.out]; omega
      obtain ⟨c, hc⟩ : ∃ c, l[k]? = some c := ⟨_, List.getElem?_eq_getElem hkl⟩
      obtain ⟨ad, g1, g3⟩ := HR.out wr HB.out.2 k c hc
      have hix := ix_C n cap k g1 hlt
      have HS : Hid (∀ j u, (cnL c)[j]? = some u → wr.cell? ((ad.add (k * 7)).add j) = some u) := g3
      have HK : Hid (l[k]? = some c) := hc
      obtain ⟨X, hX⟩ : ∃ X, isPf c = X := ⟨_, rfl⟩
      have HC : Hid (Calls Try.prog 58 #[.agg (cnL c).toArray] wr fun e w' => e = .returned (.bool X) ∧ Below wr.heap.size wr w') := by rw [← hX]; exact prefer_any c wr
      have HX : Hid (isPf c = X) := hX
      clear g1 g3 hc hkl hX
      cases X
      · go_wp2_with (first
          | (refine step_ldat 27 _ rfl rfl (ad.add (k * 7)) (by rfl) (cnL c) _ Try.underlying27 rfl (by kernel_rfl) HS.out ?_)
          | (refine HC.out.mono ?_; rintro e w5 ⟨rfl, hb5⟩; have H6 : Hid (Below w.heap.size w w5) := below_thru HB.out.2 hb5; clear hb5))
        go_roundw
        case rel =>
          refine ⟨k + 1, by go_num, by omega, fun i x hi hx => ?_, H6.out⟩
          by_cases e : i = k
          · subst e
            have := HK.out
            rw [hx] at this
            rw [Option.some.inj this]
            exact HX.out
          · exact HB.out.1 i x (by omega) hx
        case measure => simp [intOf]; omega
      · have HZ : Hid (idxP isPf l = (k : Int)) := idxP_hit _ l k c HK.out HX.out HB.out.1
        go_wp2_with (first
          | (refine step_ldat 27 _ rfl rfl (ad.add (k * 7)) (by rfl) (cnL c) _ Try.underlying27 rfl (by kernel_rfl) HS.out ?_)
          | (refine HC.out.mono ?_; rintro e w5 ⟨rfl, hb5⟩; have H6 : Hid (Below w.heap.size w w5) := below_thru HB.out.2 hb5; clear hb5))
        rw [hQ.out]
        go_ret
        exact ⟨by first | (rw [HZ.out]; done) | (rw [HZ.out]; rfl), H6.out⟩
    · have HZ : Hid (idxP isPf l = -1) := idxP_miss _ l (fun i x hx => HB.out.1 i x (by have := (List.getElem?_eq_some_iff.1 hx).1; have := HN.out; omega) hx)
      go_wp2_with fail
      rw [hQ.out]
      go_ret
      exact ⟨by first | (rw [HZ.out]; done) | (rw [HZ.out]; rfl), HB.out.2⟩
set_option maxRecDepth 20000 in
set_option maxHeartbeats 1000000 in
theorem idxId_any (v : Value) (l : List Cn) (was : Int) (g : Nat) (w : World) (N : Nat) (h : Rk N w 7 v (l.map cnL)) (hN : N ≤ w.heap.size) (hl : l.length ≤ 1000000) (hgl : g < w.heap.size) (hg : w.cell? ⟨g, 0, none⟩ = some (.int .i64 was)) : Calls Try.prog 57 #[v, .func (.func 60) #[] #[.pointer (some ⟨g, 0, none⟩)]] w fun e w' => e = .returned (.int .i64 (idxP (isId was) l)) ∧ Below w.heap.size w w' := by
  obtain ⟨ao, cap, hv, hcap, hr⟩ := cands_read h
  have HR : Hid (∀ w', Below w.heap.size w w' → ∀ (i : Nat) c, l[i]? = some c → ∃ ad, ao = some ad ∧ ∀ j u, (cnL c)[j]? = some u → w'.cell? ((ad.add (i * 7)).add j) = some u) := fun w' hb i c hc => by
    obtain ⟨ad, h1, _, h2⟩ := hr w' (below_cells hb hN) i c hc
    exact ⟨ad, h1, h2⟩
  obtain ⟨n, hn⟩ : ∃ n, l.length = n := ⟨_, rfl⟩
  have HN : Hid (l.length = n) := hn
  rw [hn] at hv hl
  subst hv
  have hl2 : (n : Int) ≤ 1000000 := by omega
  have HG : Hid (g < w.heap.size ∧ w.cell? ⟨g, 0, none⟩ = some (.int .i64 was)) := ⟨hgl, hg⟩
  clear h hr hn hcap hl hN hg hgl
  go_enter Try.func57, Try.ntmps57
  refine post_hid fun Q hQ => ?_
  go_wp2_with fail
  go_loopw [5, 8] (fun _ i wr => ∃ (k : Nat), i = .int .i64 k ∧ (k : Int) ≤ n ∧ Hid ((∀ (i : Nat) x, i < k → l[i]? = some x → (isId was) x = false) ∧ Below w.heap.size w wr)) (fun _ i _ => n - (intOf i).toNat)
  case atStart => exact ⟨0, rfl, by omega, ⟨fun i x hi => by omega, Below.refl _ _⟩⟩
  case round =>
    obtain ⟨k, rfl, hk, HB⟩ := hrel
    by_cases hlt : (k : Int) < n
    · have hkl : k < l.length := by rw [HN.out]; omega
      obtain ⟨c, hc⟩ : ∃ c, l[k]? = some c := ⟨_, List.getElem?_eq_getElem hkl⟩
      obtain ⟨ad, g1, g3⟩ := HR.out wr HB.out.2 k c hc
      have hix := ix_C n cap k g1 hlt
      have HS : Hid (∀ j u, (cnL c)[j]? = some u → wr.cell? ((ad.add (k * 7)).add j) = some u) := g3
      have HK : Hid (l[k]? = some c) := hc
      obtain ⟨X, hX⟩ : ∃ X, (isId was) c = X := ⟨_, rfl⟩
      have HC : Hid (Calls Try.prog 60 #[.agg (cnL c).toArray, .pointer (some ⟨g, 0, none⟩)] wr fun e w' => e = .returned (.bool X) ∧ Below wr.heap.size wr w') := by rw [← hX]; exact hasId_any c was g wr (Nat.lt_of_lt_of_le HG.out.1 HB.out.2.size) ((HB.out.2.cell (p := ⟨g, 0, none⟩) HG.out.1).trans HG.out.2)
      have HX : Hid ((isId was) c = X) := hX
      clear g1 g3 hc hkl hX
      cases X
      · go_wp2_with (first
          | (refine step_ldat 27 _ rfl rfl (ad.add (k * 7)) (by rfl) (cnL c) _ Try.underlying27 rfl (by kernel_rfl) HS.out ?_)
          | (refine HC.out.mono ?_; rintro e w5 ⟨rfl, hb5⟩; have H6 : Hid (Below w.heap.size w w5) := below_thru HB.out.2 hb5; clear hb5))
        go_roundw
        case rel =>
          refine ⟨k + 1, by go_num, by omega, fun i x hi hx => ?_, H6.out⟩
          by_cases e : i = k
          · subst e
            have := HK.out
            rw [hx] at this
            rw [Option.some.inj this]
            exact HX.out
          · exact HB.out.1 i x (by omega) hx
        case measure => simp [intOf]; omega
      · have HZ : Hid (idxP (isId was) l = (k : Int)) := idxP_hit _ l k c HK.out HX.out HB.out.1
        go_wp2_with (first
          | (refine step_ldat 27 _ rfl rfl (ad.add (k * 7)) (by rfl) (cnL c) _ Try.underlying27 rfl (by kernel_rfl) HS.out ?_)
          | (refine HC.out.mono ?_; rintro e w5 ⟨rfl, hb5⟩; have H6 : Hid (Below w.heap.size w w5) := below_thru HB.out.2 hb5; clear hb5))
        rw [hQ.out]
        go_ret
        exact ⟨by first | (rw [HZ.out]; done) | (rw [HZ.out]; rfl), H6.out⟩
    · have HZ : Hid (idxP (isId was) l = -1) := idxP_miss _ l (fun i x hx => HB.out.1 i x (by have := (List.getElem?_eq_some_iff.1 hx).1; have := HN.out; omega) hx)
      go_wp2_with fail
      rw [hQ.out]
      go_ret
      exact ⟨by first | (rw [HZ.out]; done) | (rw [HZ.out]; rfl), HB.out.2⟩
set_option maxHeartbeats 400000 in
theorem placeOf_any (v : Value) (l : List Cn) (was : Int) (w : World) (N : Nat) (h : Rk N w 7 v (l.map cnL)) (hN : N ≤ w.heap.size) (hl : l.length ≤ 1000000) : Calls Try.prog 34 #[v, .int .i64 was] w fun e w' => e = .returned (.int .i64 (idxP (isId was) l)) ∧ Below w.heap.size w w' := by
  have HB : Hid (Below w.heap.size w (w.alloc (.cells #[.int .i64 was] 3))) := (Below.refl _ _).alloc (Nat.le_refl _) _
  have HC : Hid (Calls Try.prog 57 #[v, .func (.func 60) #[] #[.pointer (some ⟨w.heap.size, 0, none⟩)]] (w.alloc (.cells #[.int .i64 was] 3)) fun e w' => e = .returned (.int .i64 (idxP (isId was) l)) ∧ Below w.heap.size w w') := by
    refine (idxId_any v l was w.heap.size _ N (h.below HB.out hN) (by simp; omega) hl (by simp) (by simp)).mono ?_
    rintro e w' ⟨rfl, hb⟩
    exact ⟨rfl, below_thru HB.out hb⟩
  clear h hN hl HB
  go_enter Try.func34, Try.ntmps34
  refine post_hid fun Q hQ => ?_
  go_wp2_with (go_at_call 57; refine HC.out.mono ?_; rintro e w' ⟨rfl, hb⟩)
  rw [hQ.out]
  go_ret
  exact ⟨rfl, hb⟩
/-- what has come of the first k -/
def dfK (l : List Cn) (p k : Nat) : List Int := ((l.take k).eraseIdx p).map fun c => Fx.cl 4611686018427387904 ((l.getD p zCn).o - c.o)
theorem dfK_0 (l : List Cn) (p : Nat) : dfK l p 0 = [] := by unfold dfK; rw [List.take_zero]; rfl
theorem dfK_all (l : List Cn) (p : Nat) : dfK l p l.length = dfC l p := by unfold dfK dfC; rw [List.take_length]
theorem dfK_len (l : List Cn) (p k : Nat) : (dfK l p k).length ≤ l.length := by
  unfold dfK
  rw [List.length_map]
  have := List.length_eraseIdx_le (l.take k) p
  rw [List.length_take] at this
  omega
theorem dfK_same {l : List Cn} {p : Nat} (hp : p < l.length) : dfK l p (p + 1) = dfK l p p := by
  unfold dfK
  rw [List.take_succ_eq_append_getElem hp, List.eraseIdx_append_of_length_le (by rw [List.length_take]; omega), List.length_take, Nat.min_eq_left (by omega), Nat.sub_self]
  have e : (l.take p).eraseIdx p = l.take p := List.eraseIdx_of_length_le (by rw [List.length_take]; omega)
  rw [e]
  have e2 : [l[p]].eraseIdx 0 = [] := rfl
  rw [e2, List.append_nil]
theorem dfK_next {l : List Cn} {p k : Nat} {c : Cn} (hc : l[k]? = some c) (hne : k ≠ p) : dfK l p (k + 1) = dfK l p k ++ [Fx.cl 4611686018427387904 ((l.getD p zCn).o - c.o)] := by
  unfold dfK
  rw [take_snoc hc]
  have hk : k < l.length := (List.getElem?_eq_some_iff.1 hc).1
  rcases Nat.lt_or_ge p k with h | h
  · rw [List.eraseIdx_append_of_lt_length (by rw [List.length_take]; omega), List.map_append]; rfl
  · rw [List.eraseIdx_of_length_le (by rw [List.length_append, List.length_take, List.length_singleton]; omega), List.eraseIdx_of_length_le (by rw [List.length_take]; omega), List.map_append]; rfl
/-- a fresh row of one, beside -/
theorem rk1 (w : World) (x : Value) (ty : TypeId) : Rk (w.alloc (.cells #[x] ty)).heap.size (w.alloc (.cells #[x] ty)) 1 (.slice (some ⟨w.heap.size, 0, none⟩) 1 1) [[x]] := by
  refine ⟨some ⟨w.heap.size, 0, none⟩, 1, rfl, Nat.le_refl _, fun i hi => ⟨_, rfl, by simp, fun j u hu => ?_⟩⟩
  have e : i = 0 := by simp at hi; exact hi
  subst e
  have : j = 0 := by
    rcases j with _ | j
    · rfl
    · simp at hu
  subst this
  simp at hu
  subst hu
  simp [Addr.add]
theorem rk1d (w : World) (x : Value) (ty : TypeId) : Rk (w.heap.size + 1) (w.alloc (.cells #[x] ty)).drew 1 (.slice (some ⟨w.heap.size, 0, none⟩) 1 1) [[x]] := by
  have h := rk1 w x ty
  have e : (w.alloc (.cells #[x] ty)).heap.size = w.heap.size + 1 := by simp
  rw [e] at h
  exact h
set_option maxRecDepth 20000 in
set_option maxHeartbeats 2000000 in
theorem selectJitter_any (v : Value) (l : List Cn) (p : Nat) (w : World) (N : Nat) (h : Rk N w 7 v (l.map cnL)) (hN : N ≤ w.heap.size) (hl : l.length ≤ 1000) (hp : p < l.length) (ok : ∀ c ∈ l, okC c) : Calls Try.prog 26 #[v, .int .i64 (p : Int)] w fun e w' => e = .returned (.int .i64 (sj l p)) ∧ Below w.heap.size w w' := by
  obtain ⟨ao, cap, hv, hcap, hr⟩ := cands_read h
  have HR : Hid (∀ w', Below w.heap.size w w' → ∀ (i : Nat) c, l[i]? = some c → ∃ ad, ao = some ad ∧ ad.block < w.heap.size ∧ ∀ j u, (cnL c)[j]? = some u → w'.cell? ((ad.add (i * 7)).add j) = some u) := fun w' hb i c hc => by
    obtain ⟨ad, h1, h3, h2⟩ := hr w' (below_cells hb hN) i c hc
    exact ⟨ad, h1, by omega, h2⟩
  obtain ⟨n, hn⟩ : ∃ n, l.length = n := ⟨_, rfl⟩
  obtain ⟨x, hx⟩ : ∃ x, l[p]? = some x := ⟨_, List.getElem?_eq_getElem hp⟩
  have HN : Hid (l.length = n ∧ l[p]? = some x ∧ l.getD p zCn = x ∧ p < n) := ⟨hn, hx, by rw [List.getD_eq_getElem?_getD, hx]; rfl, by omega⟩
  rw [hn] at hv hl hp
  subst hv
  have hl2 : (n : Int) ≤ 1000 := by omega
  have hp2 : (p : Int) < n := by omega
  have HO : Hid (∀ c ∈ l, okC c) := ok
  clear h hr hn hcap hl hN hx hp ok
  go_enter Try.func26, Try.ntmps26
  refine post_hid fun Q hQ => ?_
  go_wp2_with fail
  go_loopw [5, 6, 7, 10] (fun v5 _ _ i wr => ∃ (k : Nat), i = .int .i64 k ∧ (k : Int) ≤ n ∧ Hid (OR wr w.heap.size 25 1 v5 (spR (dfK l p k)) ∧ Below w.heap.size w wr)) (fun _ _ _ i _ => n - (intOf i).toNat)
  case atStart => exact ⟨0, rfl, by omega, ⟨by rw [dfK_0]; exact OR.nil _ _ _ _, Below.refl _ _⟩⟩
  case round =>
    obtain ⟨k, rfl, hk, HB⟩ := hrel
    obtain ⟨v5, hv5⟩ : ∃ v5, v5 = u5 := ⟨_, rfl⟩
    subst hv5
    by_cases hlt : (k : Int) < n
    · have hkl : k < l.length := by rw [HN.out.1]; omega
      obtain ⟨c, hc⟩ : ∃ c, l[k]? = some c := ⟨_, List.getElem?_eq_getElem hkl⟩
      obtain ⟨ad, g1, g2, g3⟩ := HR.out wr HB.out.2 k c hc
      have hix := ix_C n cap k g1 hlt
      have HS : Hid (∀ j u, (cnL c)[j]? = some u → wr.cell? ((ad.add (k * 7)).add j) = some u) := g3
      have HK : Hid (l[k]? = some c) := hc
      clear g1 g2 g3 hc hkl
      go_upto_region 5 with (first
        | (refine step_ldat 27 _ rfl rfl (ad.add (k * 7)) (by rfl) (cnL c) _ Try.underlying27 rfl (by kernel_rfl) HS.out ?_)
        | (refine step_alL (by rfl) 27 rfl (cnL zCn).toArray (fun u => by kernel_rfl) ?_; intro w3 g H3)
        | (refine step_stL (by rfl) _ _ rfl g (cnL c).toArray (by rfl) (by rfl) (cnL zCn).toArray (by kernel_rfl) (by kernel_rfl) (by kernel_rfl) H3.out.bk ?_; intro w4 H4))
      have H5 : Hid (OR w4 w.heap.size 25 1 v5 (spR (dfK l p k)) ∧ Below w.heap.size w w4 ∧ Bk g w4 (cnL c).toArray 27 ∧ w.heap.size ≤ w4.heap.size) := by
        have hb := H4.out.below H3.out.be H3.out.be.size (Nat.le_of_eq H3.out.at'.symm)
        have hb2 := below_thru HB.out.2 hb
        exact ⟨HB.out.1.below hb (Nat.le_refl _), hb2, H4.out.bk, hb2.size⟩
      clear H3 H4 HS HB hix
      by_cases hkp : (k : Int) = p
      · have HD : Hid (dfK l p (k + 1) = dfK l p k) := by
          have e : k = p := by omega
          rw [e]
          exact dfK_same (by have := HN.out; omega)
        go_wp2_with fail
        go_roundw
        case rel =>
          refine ⟨k + 1, by go_num, by omega, ?_, H5.out.2.1⟩
          rw [HD.out]; exact H5.out.1
        case measure => simp [intOf]; omega
      · obtain ⟨ad2, e1, e2, e3⟩ := HR.out w4 H5.out.2.1 p x HN.out.2.1
        have hixp := ix_C n cap p e1 hp2
        obtain ⟨D, hD⟩ : ∃ D, Fx.cl 4611686018427387904 (x.o - c.o) = D := ⟨_, rfl⟩
        have HD : Hid (dfK l p (k + 1) = dfK l p k ++ [D]) := by
          have := dfK_next (p := p) HK.out (by omega)
          rw [HN.out.2.2.1, hD] at this
          exact this
        have HC : Hid (∀ u, Calls Try.prog 25 #[.int .i64 x.o, .int .i64 c.o] u fun e w' => e = .returned (.int .i64 D) ∧ w' = u) := fun u => by
          have o1 := (HO.out x (List.mem_of_getElem? HN.out.2.1)).o
          have o2 := (HO.out c (List.mem_of_getElem? HK.out)).o
          rw [← hD]
          exact sub_any _ _ u o1.1 o1.2 o2.1 o2.2
        obtain ⟨A, hA⟩ : ∃ A, A = ad2.add (p * 7) := ⟨_, rfl⟩
        have q1 : w4.cell? ⟨A.block, A.off + 1, none⟩ = some (.int .i64 x.o) := by
          have := e3 1 (.int .i64 x.o) rfl
          rw [← hA, fld1 A 1 (by decide)] at this
          exact this
        have q2 : w4.cell? ⟨g, 1, none⟩ = some (.int .i64 c.o) := H5.out.2.2.1.cell 1
        have HL : Hid ((spR (dfK l p k)).length ≤ 1000) := by
          show _ ≤ _
          rw [spR_len]
          have := dfK_len l p k
          have := HN.out.1
          omega
        have HT : Hid (∀ b, v5.ownBlock = some b → b ≠ g) := fun b hb e => by
          obtain ⟨_, cur, hcur⟩ := H5.out.1.tys b hb
          subst e
          exact bk_ne hcur H5.out.2.2.1 (by decide) rfl
        rw [← hA] at hixp
        have hkp' : ((k : Int) != p) = true := by simpa using hkp
        have HA : Hid (A.block < w.heap.size) := by show _ < _; rw [hA, add_block]; exact e2
        clear hD hA e1 e2 e3
        go_upto_region 6 with fail
        go_region_held3 (fun w' => w'.cell? ⟨A.block, A.off + 1, none⟩ = some (.int .i64 x.o) ∧ w'.cell? ⟨g, 1, none⟩ = some (.int .i64 c.o))
          (first | with_reducible exact k8 | with_reducible exact ⟨q1, q2⟩ | go_keep)
          ((first
            | (go_at_call 25; refine (HC.out _).mono ?_; rintro e w5 ⟨rfl, rfl⟩)
            | (refine wp_appk tiS _ _ (by rfl) w.heap.size (w4.heap.size + 1) v5 _ (spR (dfK l p k)) [[.int .i64 D]] (by rfl) (by rfl) (OR.drew (OR.alloc H5.out.1 _)) (rk1d w4 _ _) (fun n c hh => by injection hh with hh; cases hh) (by intro y hy; simp at hy; rw [hy]; rfl) (by intro y hy u hu; simp at hy; rw [hy] at hu; simp at hu; rw [hu]; rfl) (by have := HL.out; simp only [List.length_cons, List.length_nil, maxLen]; omega) (by have := HL.out; simp only [List.length_cons, List.length_nil]; omega) (by have := H5.out.2.2.2; simp; omega) ?_; intro v8 w8 h1 h2 h3; have H8 : Hid (OR w8 w.heap.size 25 1 v8 (spR (dfK l p k) ++ [[.int .i64 D]]) ∧ Below w.heap.size w w8) := ⟨h1, ((H5.out.2.1.alloc H5.out.2.2.2 _).drew).trans (below_own h2 (by have := H5.out.2.2.2; simp; omega) H5.out.1.own)⟩; have k8 : w8.cell? ⟨A.block, A.off + 1, none⟩ = some (.int .i64 x.o) ∧ w8.cell? ⟨g, 1, none⟩ = some (.int .i64 c.o) := ⟨h2.cell ((((Below.refl _ _).alloc (Nat.le_refl _) _).cell (p := ⟨A.block, A.off + 1, none⟩) (by have := HA.out; have := H5.out.2.2.2; show A.block < w4.heap.size; omega)).trans q1) (fun e => by have := H5.out.1.own A.block e.symm; have := HA.out; omega), h2.cell ((((Below.refl _ _).alloc (Nat.le_refl _) _).cell (p := ⟨g, 1, none⟩) H5.out.2.2.1.lt).trans q2) (fun e => HT.out g e.symm rfl)⟩; clear h1 h2 h3)))
        clear k8 q1 q2 hixp
        go_wp2_with fail
        go_roundw
        case rel =>
          refine ⟨k + 1, by go_num, by omega, ?_, H8.out.2⟩
          rw [HD.out, spR_snoc]; exact H8.out.1
        case measure => simp [intOf]; omega
    · have hkn : k = n := by omega
      subst hkn
      obtain ⟨ao2, cap2, e1, e2, e3, e4⟩ := HB.out.1.rs
      have HZ : Hid (dfK l p k = dfC l p) := by
        have := dfK_all l p
        rw [HN.out.1] at this
        exact this
      rw [HZ.out] at e1 e2 e4
      have HC : Hid (Calls Try.prog 47 #[.slice ao2 (dfC l p).length cap2] wr fun e w' => e = .returned (.int .i64 (sj l p)) ∧ Below wr.heap.size wr w') := RMS_any ao2 (dfC l p) cap2 wr (by omega) (by have := e3; unfold maxLen at *; omega) e4 (dfC_ok l p)
      obtain ⟨z, hz⟩ : ∃ z, (dfC l p).length = z := ⟨_, rfl⟩
      rw [hz] at e1 HC
      subst e1
      clear hz e2 e3 e4
      go_wp2_with (go_at_call 47; refine HC.out.mono ?_; rintro e w2 ⟨rfl, hb2⟩)
      rw [hQ.out]
      go_ret
      exact ⟨rfl, below_thru HB.out.2 hb2⟩
set_option maxRecDepth 20000 in
set_option maxHeartbeats 400000 in
theorem select_any (v : Value) (l : List Cn) (was : Int) (w : World) (N : Nat) (h : Rk N w 7 v (l.map cnL)) (hN : N ≤ w.heap.size) (hl : l.length ≤ 1000) (ok : ∀ c ∈ l, okC c) : Calls Try.prog 13 #[v, .int .i64 was] w fun e w' => e = .returned (.int .i64 (if idxP (isId was) l < 0 then 0 else sj l (idxP (isId was) l).toNat)) ∧ Below w.heap.size w w' := by
  have hb := idxP_bd (isId was) l
  have HP : Hid (Calls Try.prog 34 #[v, .int .i64 was] w fun e w' => e = .returned (.int .i64 (idxP (isId was) l)) ∧ Below w.heap.size w w') := placeOf_any v l was w N h hN (by omega)
  obtain ⟨I, hI⟩ : ∃ I, idxP (isId was) l = I := ⟨_, rfl⟩
  rw [hI] at hb HP ⊢
  by_cases hneg : I < 0
  · rw [if_pos hneg]
    clear h hN hl ok hb hI
    go_enter Try.func13, Try.ntmps13
    refine post_hid fun Q hQ => ?_
    go_wp2_with (go_at_call 34; refine HP.out.mono ?_; rintro e w1 ⟨rfl, h1⟩)
    rw [hQ.out]
    go_ret
    exact ⟨rfl, h1⟩
  · rw [if_neg hneg]
    obtain ⟨k, hk⟩ : ∃ k : Nat, I = (k : Int) := ⟨I.toNat, by omega⟩
    have HS : Hid (∀ w1, Below w.heap.size w w1 → Calls Try.prog 26 #[v, .int .i64 I] w1 fun e w' => e = .returned (.int .i64 (sj l I.toNat)) ∧ Below w1.heap.size w1 w') := fun w1 hb1 => by
      rw [hk]
      exact selectJitter_any v l k w1 N (h.below hb1 hN) (Nat.le_trans hN hb1.size) hl (by omega) ok
    clear h hN hl ok hb hI hk
    go_enter Try.func13, Try.ntmps13
    refine post_hid fun Q hQ => ?_
    go_wp2_with (first
      | (go_at_call 34; refine HP.out.mono ?_; rintro e w1 ⟨rfl, h1⟩)
      | (go_at_call 26; refine (HS.out _ h1).mono ?_; rintro e w2 ⟨rfl, h2⟩))
    rw [hQ.out]
    go_ret
    exact ⟨rfl, below_thru h1 h2⟩
end Go.Proofs.Ytdlipponajilbaa
