/- cluster: Best; those with a pulse and those without. -/
import Derived.Test.YtdlipponajilbaaClJ
import Derived.Test.YtdlipponajilbaaClK
namespace Go.Proofs.Ytdlipponajilbaa
open Go Go.RowKit Go.Sort
set_option linter.unusedVariables false
theorem results_ct {fn : Func} {p u : Tmp} {ty : TypeId} (h : fn.results = #[.cell p ty, .tmp u]) (tmps : Array Value) (w : World) (g : Nat) (t : TypeId) (cs : List Value) (d : TypeDesc) (x : Value)
    (hx : tmps.getD u undef = x) (hp : tmps.getD p undef = .pointer (some ⟨g, 0, none⟩)) (hg : w.heap[g]? = some (.cells cs.toArray t (0, 0)))
    (hu : Try.prog.underlying ty = some d) (hd : d.isRow = true) (hi : (Try.prog.info? ty).map (·.size) = some cs.length) :
    (results fn tmps).run Try.prog w = .ok (.tuple #[.agg cs.toArray, x]) w := by
  have hp' : tmps[p]?.getD undef = .pointer (some ⟨g, 0, none⟩) := by simpa using hp
  have hx' : tmps[u]?.getD undef = x := by simpa using hx
  simp [results, h, hp', hx', asAddr, run_loadVar_at w ⟨g, 0, none⟩ ty cs d (cells_of hg) hu hd hi]
def bsC (l : List Cn) (was : Int) : Cn := if l = [] then zCn else l.getD (bsI l was).toNat zCn
def bsO (l : List Cn) : Bool := !l.isEmpty
set_option maxRecDepth 20000 in
set_option maxHeartbeats 1000000 in
theorem best_any (v : Value) (l : List Cn) (was : Int) (w : World) (N : Nat) (h : Rk N w 7 v (l.map cnL)) (hN : N ≤ w.heap.size) (hl : l.length ≤ 1000) : Calls Try.prog 9 #[v, .int .i64 was] w fun e w' => e = .returned (.tuple #[.agg (cnL (bsC l was)).toArray, .bool (bsO l)]) ∧ Below w.heap.size w w' := by
  by_cases hne : l = []
  · subst hne
    obtain ⟨ao, cap, hv, _⟩ := h
    subst hv
    go_enter Try.func9, Try.ntmps9
    go_wp2_with fail
    repeat (first | go_values | go_skip | go_guarded | go_step | go_upon)
    exact bodyPost_ret (v := .tuple #[.agg (cnL zCn).toArray, .bool false]) (by simp [results, Try.results9, go_sem, cnL, zCn]) rfl ⟨rfl, (by repeat' (first | with_reducible exact Below.refl _ _ | with_reducible refine Below.setCell ?_ (by first | (simp; done) | (simp; omega) | omega) _ | with_reducible refine below_drewN ?_ _ | with_reducible refine Below.drew ?_ | with_reducible refine Below.alloc ?_ (by first | (simp; done) | (simp; omega) | omega) _))⟩
  · have hpos : 0 < l.length := List.length_pos_iff.2 hne
    have hb := bsI_bd was hpos
    obtain ⟨k, hk⟩ : ∃ k : Nat, bsI l was = (k : Int) := ⟨(bsI l was).toNat, by omega⟩
    rw [hk] at hb
    obtain ⟨c, hc⟩ : ∃ c, l[k]? = some c := ⟨_, List.getElem?_eq_getElem (by omega)⟩
    have HE : Hid (bsC l was = c ∧ bsO l = true) := by
      show _ ∧ _
      unfold bsC bsO
      rw [if_neg hne, hk, Int.toNat_natCast, getD_at hc]
      refine ⟨rfl, ?_⟩
      cases l with
      | nil => exact absurd rfl hne
      | cons a b => rfl
    rw [HE.out.1, HE.out.2]
    have HP : Hid (∀ u, Below w.heap.size w u → Calls Try.prog 32 #[v, .int .i64 was] u fun e w' => e = .returned (.int .i64 (k : Int)) ∧ Below u.heap.size u w') := fun u hb => by
      rw [← hk]
      exact bestPlace_any v l was u N (h.below hb hN) (Nat.le_trans hN hb.size) hl hpos
    obtain ⟨ao, cap, hv, hcap, hr⟩ := cands_read h
    have HR : Hid (∀ w', Below w.heap.size w w' → ∃ ad, ao = some ad ∧ ∀ j u, (cnL c)[j]? = some u → w'.cell? ((ad.add (k * 7)).add j) = some u) := fun w' hb => by
      obtain ⟨ad, h1, _, h2⟩ := hr w' (below_cells hb hN) k c hc
      exact ⟨ad, h1, h2⟩
    obtain ⟨ad, hao, _⟩ := HR.out w (Below.refl _ _)
    obtain ⟨n, hn⟩ : ∃ n, l.length = n := ⟨_, rfl⟩
    rw [hn] at hv hb hpos
    subst hv hao
    have hix : ∀ u, Sem.run Try.prog (Instr.indexAt 22 (.slice (some ad) n cap) (.int .i64 (k : Int))) u = .ok (.pointer (some (ad.add (k * 7)))) u := ix_C n cap k rfl (by omega)
    have hn0 : ¬ (n : Int) = 0 := by omega
    have hn1 : ((n : Int) == 0) = false := by simpa using hn0
    clear h hN hl hne hpos hb hr hcap hc hn hk
    go_enter Try.func9, Try.ntmps9
    refine post_hid fun Q hQ => ?_
    go_upto_region 1 with (refine step_alL (by rfl) 27 rfl (cnL zCn).toArray (fun u => by kernel_rfl) ?_; intro w1 g H1)
    have HB : Hid (Below w.heap.size w w1 ∧ Bk g w1 (cnL zCn).toArray 27 ∧ w.heap.size ≤ g) := ⟨H1.out.be, H1.out.bk, by have := H1.out.at'; omega⟩
    clear H1
    go_wp2_with (first
      | (go_at_call 32; refine (HP.out _ HB.out.1).mono ?_; rintro e w2 ⟨rfl, h2⟩; have H2 : Hid (Below w.heap.size w w2 ∧ Bk g w2 (cnL zCn).toArray 27) := ⟨below_thru HB.out.1 h2, HB.out.2.1.kept (h2.block _ HB.out.2.1.lt)⟩; have HS : Hid (∀ j u, (cnL c)[j]? = some u → w2.cell? ((ad.add (k * 7)).add j) = some u) := (by obtain ⟨ad', e1, e2⟩ := HR.out w2 H2.out.1; obtain rfl := Option.some.inj e1; exact e2); clear h2)
      | (refine step_ldat 27 _ rfl rfl (ad.add (k * 7)) (by rfl) (cnL c) _ Try.underlying27 rfl (by kernel_rfl) HS.out ?_)
      | (refine step_stL (by rfl) _ _ rfl g (cnL c).toArray (by rfl) (by rfl) (cnL zCn).toArray (by kernel_rfl) (by kernel_rfl) (by kernel_rfl) H2.out.2 ?_; intro w3 H3))
    rw [hQ.out]
    refine bodyPost_ret (v := .tuple #[.agg (cnL c).toArray, .bool true]) (results_ct Try.results9 _ _ g _ (cnL c) _ _ (by rfl) (by rfl) H3.out.bk Try.underlying27 rfl (by kernel_rfl)) rfl ⟨rfl, ?_⟩
    exact H3.out.below H2.out.1 H2.out.1.size HB.out.2.2
def puF (l : List Cn) : List Cn := l.filter fun c => c.pu
def plF (l : List Cn) : List Cn := l.filter fun c => !c.pu
theorem puF_snoc (l : List Cn) (c : Cn) : puF (l ++ [c]) = puF l ++ if c.pu = true then [c] else [] := by
  unfold puF
  rw [List.filter_append]
  congr 1
  cases h : c.pu <;> simp [h]
theorem plF_snoc (l : List Cn) (c : Cn) : plF (l ++ [c]) = plF l ++ if c.pu = true then [] else [c] := by
  unfold plF
  rw [List.filter_append]
  congr 1
  cases h : c.pu <;> simp [h]
theorem ret2v {a b : Value} : Ending.returned (.tuple #[a, b]) = .returned (.tuple #[a, b]) := rfl
set_option maxRecDepth 20000 in
set_option maxHeartbeats 1000000 in
theorem split_any (v : Value) (l : List Cn) (w : World) (N : Nat) (h : Rk N w 7 v (l.map cnL)) (hN : N ≤ w.heap.size) (hl : l.length ≤ 1000) : Calls Try.prog 35 #[v] w fun e w' => ∃ u1 u2, e = .returned (.tuple #[u1, u2]) ∧ Hid (OR w' w.heap.size 27 7 u1 ((puF l).map cnL) ∧ OR w' w.heap.size 27 7 u2 ((plF l).map cnL)) ∧ Hid (Below w.heap.size w w') := by
  obtain ⟨ao, cap, hv, hcap, hr⟩ := cands_read h
  have HR : Hid (∀ w', Below w.heap.size w w' → ∀ (i : Nat) c, l[i]? = some c → ∃ ad, ao = some ad ∧ ∀ j u, (cnL c)[j]? = some u → w'.cell? ((ad.add (i * 7)).add j) = some u) := fun w' hb i c hc => by
    obtain ⟨ad, h1, h3, h2⟩ := hr w' (below_cells hb hN) i c hc
    exact ⟨ad, h1, h2⟩
  obtain ⟨n, hn⟩ : ∃ n, l.length = n := ⟨_, rfl⟩
  have HN : Hid (l.length = n ∧ n ≤ 1000) := ⟨hn, by omega⟩
  rw [hn] at hv hl
  subst hv
  have hl2 : (n : Int) ≤ 1000 := by omega
  clear h hr hn hcap hl hN
  go_enter Try.func35, Try.ntmps35
  refine post_hid fun Q hQ => ?_
  go_wp2_with fail
  go_loopw [2, 3, 5, 8] (fun v2 v3 _ i wr => ∃ (k : Nat), i = .int .i64 k ∧ (k : Int) ≤ n ∧ Hid (OR wr w.heap.size 27 7 v2 ((puF (l.take k)).map cnL) ∧ OR wr w.heap.size 27 7 v3 ((plF (l.take k)).map cnL) ∧ Dj v2 v3 ∧ Below w.heap.size w wr)) (fun _ _ _ i _ => n - (intOf i).toNat)
  case atStart => exact ⟨0, rfl, by omega, ⟨OR.nil _ _ _ _, OR.nil _ _ _ _, .inl rfl, Below.refl _ _⟩⟩
  case round =>
    obtain ⟨k, rfl, hk, HB⟩ := hrel
    obtain ⟨v2, hv2⟩ : ∃ v2, v2 = u2 := ⟨_, rfl⟩
    obtain ⟨v3, hv3⟩ : ∃ v3, v3 = u3 := ⟨_, rfl⟩
    subst hv2 hv3
    by_cases hlt : (k : Int) < n
    · have hkl : k < l.length := by rw [HN.out.1]; omega
      obtain ⟨c, hc⟩ : ∃ c, l[k]? = some c := ⟨_, List.getElem?_eq_getElem hkl⟩
      obtain ⟨ad, g1, g3⟩ := HR.out wr HB.out.2.2.2 k c hc
      have hix := ix_C n cap k g1 hlt
      have HS : Hid (∀ j u, (cnL c)[j]? = some u → wr.cell? ((ad.add (k * 7)).add j) = some u) := g3
      have HK : Hid (l[k]? = some c) := hc
      have HLn : Hid (((puF (l.take k)).map cnL).length ≤ 1000 ∧ ((plF (l.take k)).map cnL).length ≤ 1000) := by
        have h1 := List.length_filter_le (fun c : Cn => c.pu) (l.take k)
        have h2 := List.length_filter_le (fun c : Cn => !c.pu) (l.take k)
        rw [List.length_take] at h1 h2
        have := HN.out
        refine ⟨?_, ?_⟩
        · rw [List.length_map]; unfold puF; omega
        · rw [List.length_map]; unfold plF; omega
      clear g1 g3 hc hkl
      go_upto_region 4 with (first
        | (refine step_ldat 27 _ rfl rfl (ad.add (k * 7)) (by rfl) (cnL c) _ Try.underlying27 rfl (by kernel_rfl) HS.out ?_)
        | (refine step_alL (by rfl) 27 rfl (cnL zCn).toArray (fun u => by kernel_rfl) ?_; intro w3 g H3)
        | (refine step_stL (by rfl) _ _ rfl g (cnL c).toArray (by rfl) (by rfl) (cnL zCn).toArray (by kernel_rfl) (by kernel_rfl) (by kernel_rfl) H3.out.bk ?_; intro w4 H4))
      have H5 : Hid (OR w4 w.heap.size 27 7 v2 ((puF (l.take k)).map cnL) ∧ OR w4 w.heap.size 27 7 v3 ((plF (l.take k)).map cnL) ∧ Dj v2 v3 ∧ Below w.heap.size w w4 ∧ Bk g w4 (cnL c).toArray 27) := by
        have hb := H4.out.below H3.out.be H3.out.be.size (Nat.le_of_eq H3.out.at'.symm)
        exact ⟨HB.out.1.below hb (Nat.le_refl _), HB.out.2.1.below hb (Nat.le_refl _), HB.out.2.2.1, below_thru HB.out.2.2.2 hb, H4.out.bk⟩
      have HSc : Hid (∀ j u, (cnL c)[j]? = some u → w4.cell? ((⟨g, 0, none⟩ : Addr).add j) = some u) := cells_of (l := cnL c) H5.out.2.2.2.2
      have q6 : w4.cell? ⟨g, 6, none⟩ = some (.bool c.pu) := H5.out.2.2.2.2.cell 6
      obtain ⟨X, hX⟩ : ∃ X, c.pu = X := ⟨_, rfl⟩
      have HX : Hid (c.pu = X) := hX
      rw [hX] at q6
      clear H3 H4 HS HB hix hX
      cases X
      · have HT : Hid (puF (l.take (k + 1)) = puF (l.take k) ∧ plF (l.take (k + 1)) = plF (l.take k) ++ [c]) := by
          rw [take_snoc HK.out, puF_snoc, plF_snoc, HX.out]
          exact ⟨by simp, by simp⟩
        go_wp2_with (first
          | (refine step_ldat 27 _ rfl rfl ⟨g, 0, none⟩ (by rfl) (cnL c) _ Try.underlying27 rfl (by kernel_rfl) HSc.out ?_)
          | (refine step_bsL (by rfl) 22 27 _ rfl (.agg (cnL c).toArray) (cnL c) (by rfl) (run_bsC c) ?_; intro w6 g6 H7)
          | (at_builtin; refine step_ap2 tiC rfl _ _ rfl w.heap.size g6 v3 v2 (cnL c) (by rfl) (by rfl) rfl (cnL_one c) w4 _ _ ?_ ?_ H5.out.2.1 H5.out.1 H5.out.2.2.1.symm H7.out H5.out.2.2.2.1.size ?_; (have := HLn.out.2; simp only [maxLen]; omega); (have := HLn.out.2; omega); intro v7 w7 H8))
        go_roundw
        case rel =>
          refine ⟨k + 1, by go_num, by omega, ?_, ?_, H8.out.2.2.1.symm, H5.out.2.2.2.1.trans H8.out.2.2.2⟩
          · rw [HT.out.1]; exact H8.out.2.1
          · rw [HT.out.2, List.map_append]; exact H8.out.1
        case measure => simp [intOf]; omega
      · have HT : Hid (puF (l.take (k + 1)) = puF (l.take k) ++ [c] ∧ plF (l.take (k + 1)) = plF (l.take k)) := by
          rw [take_snoc HK.out, puF_snoc, plF_snoc, HX.out]
          exact ⟨by simp, by simp⟩
        go_wp2_with (first
          | (refine step_ldat 27 _ rfl rfl ⟨g, 0, none⟩ (by rfl) (cnL c) _ Try.underlying27 rfl (by kernel_rfl) HSc.out ?_)
          | (refine step_bsL (by rfl) 22 27 _ rfl (.agg (cnL c).toArray) (cnL c) (by rfl) (run_bsC c) ?_; intro w6 g6 H7)
          | (at_builtin; refine step_ap2 tiC rfl _ _ rfl w.heap.size g6 v2 v3 (cnL c) (by rfl) (by rfl) rfl (cnL_one c) w4 _ _ ?_ ?_ H5.out.1 H5.out.2.1 H5.out.2.2.1 H7.out H5.out.2.2.2.1.size ?_; (have := HLn.out.1; simp only [maxLen]; omega); (have := HLn.out.1; omega); intro v7 w7 H8))
        go_roundw
        case rel =>
          refine ⟨k + 1, by go_num, by omega, ?_, ?_, H8.out.2.2.1, H5.out.2.2.2.1.trans H8.out.2.2.2⟩
          · rw [HT.out.1, List.map_append]; exact H8.out.1
          · rw [HT.out.2]; exact H8.out.2.1
        case measure => simp [intOf]; omega
    · have hkn : k = n := by omega
      subst hkn
      have HZ : Hid (l.take k = l) := List.take_of_length_le (by rw [HN.out.1]; exact Nat.le_refl _)
      go_wp2_with fail
      rw [hQ.out]
      go_ret2
      have h1 := HB.out
      rw [HZ.out] at h1
      exact ⟨_, _, rfl, ⟨h1.1, h1.2.1⟩, h1.2.2.2⟩
end Go.Proofs.Ytdlipponajilbaa
