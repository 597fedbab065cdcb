/- choose: the laws' comparisons, where both are the same. -/
import Derived.Test.YtepbbaeamlimaaaUJ
import Derived.Test.YtepbbaeamlimaaaGQ
namespace Go.Proofs.Ytepbbaeamlimaaa
open Go Go.RowKit Go.Sort Ch Pu
set_option linter.unusedVariables false
theorem qw_ld {ops : Array Oper} {rest : List Oper} {o : Oper} {a : Act} {C : World → Prop} {Q : Act → Prop} (hw : Region.wanted o (yielded ops a.tmps) = true) (ty : TypeId) (x : Operand) (ho : o.op = .load ty x)
    (ad : Addr) (hx : a.eval x = .pointer (some ad)) (cs : List Value) (d : TypeDesc) (hu : Try.prog.underlying ty = some d) (hd : d.isRow = true) (hi : (Try.prog.info? ty).map (·.size) = some cs.length)
    (hc : ∀ w, C w → ∀ j u, cs[j]? = some u → w.cell? (ad.add j) = some u)
    (h : QW Try.prog ops C Q rest (a.put o.dst (.agg cs.toArray))) : QW Try.prog ops C Q (o :: rest) a := ⟨quiet_ld6 hw ty x ho ad hx cs d hu hd hi hc h.out⟩
set_option maxRecDepth 20000 in
theorem neq_cn (c : Cn) (u : World) : (binOp .neq 26 (.agg (cnL c).toArray) (.agg (cnL c).toArray)).run Try.prog u = .ok (.bool false) u := by
  obtain ⟨i, p, d, j, s, f, l⟩ := c
  unfold cnL
  go_simp
set_option maxRecDepth 20000 in
set_option maxHeartbeats 1000000 in
theorem sameCands_any (a b : Value) (xs : List Cn) (w : World) (N M : Nat) (ha : Rk N w 7 a (xs.map cnL)) (hb : Rk M w 7 b (xs.map cnL)) (hl : xs.length ≤ 1000000) : Calls Try.prog 11 #[a, b] w fun e w' => e = .returned (.bool true) ∧ Below w.heap.size w w' := by
  obtain ⟨ao, ac, hva, _, hra⟩ := cands_read ha
  obtain ⟨bo, bc, hvb, _, hrb⟩ := cands_read hb
  have HRA : Hid (∀ (i : Nat) c, xs[i]? = some c → ∃ ad, ao = some ad ∧ ∀ j u, (cnL c)[j]? = some u → w.cell? ((ad.add (i * 7)).add j) = some u) := fun i c hc => by obtain ⟨ad, h1, _, h2⟩ := hra w (fun _ _ => rfl) i c hc; exact ⟨ad, h1, h2⟩
  have HRB : Hid (∀ (i : Nat) c, xs[i]? = some c → ∃ ad, bo = some ad ∧ ∀ j u, (cnL c)[j]? = some u → w.cell? ((ad.add (i * 7)).add j) = some u) := fun i c hc => by obtain ⟨ad, h1, _, h2⟩ := hrb w (fun _ _ => rfl) i c hc; exact ⟨ad, h1, h2⟩
  obtain ⟨n, hn⟩ : ∃ n, xs.length = n := ⟨_, rfl⟩
  rw [hn] at hva hvb hl
  have HN : Hid (xs.length = n) := hn
  subst hva hvb
  have hl2 : (n : Int) ≤ 1000000 := by omega
  clear ha hb hra hrb hn hl
  go_enter Try.func11, Try.ntmps11
  refine post_hid fun Q hQ => ?_
  go_wp2_with fail
  go_loopw [5] (fun i wr => ∃ (k : Nat), i = .int .i64 k ∧ (k : Int) ≤ n ∧ Hid (∃ d, wr = w.drewN d)) (fun i _ => n - (intOf i).toNat)
  case atStart => exact ⟨0, rfl, by omega, ⟨0, rfl⟩⟩
  case round =>
    obtain ⟨k, rfl, hk, HB⟩ := hrel
    by_cases hlt : (k : Int) < n
    · have hkl : k < xs.length := by rw [HN.out]; omega
      obtain ⟨c, hc⟩ : ∃ c, xs[k]? = some c := ⟨_, List.getElem?_eq_getElem hkl⟩
      obtain ⟨ad, g1, g2⟩ := HRA.out k c hc
      obtain ⟨bd, j1, j2⟩ := HRB.out k c hc
      have hixa := ix_C n ac k g1 hlt
      have hixb := ix_C n bc k j1 hlt
      have HS : Hid (∀ u, (∃ d, u = wr.drewN d) → (∀ j x, (cnL c)[j]? = some x → u.cell? ((ad.add (k * 7)).add j) = some x) ∧ (∀ j x, (cnL c)[j]? = some x → u.cell? ((bd.add (k * 7)).add j) = some x)) := fun u hu => by
        obtain ⟨d, rfl⟩ := hu
        obtain ⟨d2, hd2⟩ := HB.out
        rw [hd2]
        exact ⟨g2, j2⟩
      have hne := neq_cn c
      clear g1 g2 j1 j2 hc hkl
      go_wp2_with fail
      refine wp_region_quietW (by kernel_rfl) (by kernel_rfl) ?_
      repeat (first
        | (refine qw_ld (by rfl) 26 _ rfl (ad.add (k * 7)) (by rfl) (cnL c) _ Try.underlying26 rfl (by kernel_rfl) (fun u hu => (HS.out u hu).1) ?_; go_simp)
        | (refine qw_ld (by rfl) 26 _ rfl (bd.add (k * 7)) (by rfl) (cnL c) _ Try.underlying26 rfl (by kernel_rfl) (fun u hu => (HS.out u hu).2) ?_; go_simp)
        | (refine qw_step (fun K hK => ?_); go_simp; refine hK _ ?_; clear hK K))
      refine qw_nil ?_
      intro nq
      obtain ⟨W1, hW1⟩ : ∃ W1, W1 = wr.drewN nq := ⟨_, rfl⟩
      rw [← hW1]
      have HB2 : Hid (∃ d, W1 = w.drewN d) := by
        obtain ⟨d, hd⟩ := HB.out
        exact ⟨d + nq, by rw [hW1, hd, World.drewN_drewN]⟩
      clear hW1 hne hixa hixb HS HB
      go_wp2_with fail
      go_roundw
      case rel => exact ⟨k + 1, by go_num, by omega, HB2.out⟩
      case measure => simp [intOf]; omega
    · have HE : Hid (Below w.heap.size w wr) := by obtain ⟨d, hd⟩ := HB.out; rw [hd]; exact below_dr (Below.refl _ _) d
      go_wp2_with fail
      rw [hQ.out]
      go_ret
      exact ⟨rfl, HE.out⟩
set_option maxRecDepth 20000 in
set_option maxHeartbeats 1000000 in
theorem sameEnds_any (a b : Value) (xs : List Int) (hok : ∀ z ∈ xs, okZ z) (w : World) (N M : Nat) (ha : Rk N w 1 a (enR xs)) (hb : Rk M w 1 b (enR xs)) (hl : xs.length ≤ 1000000) : Calls Try.prog 13 #[a, b] w fun e w' => e = .returned (.bool true) ∧ Below w.heap.size w w' := by
  obtain ⟨ao, ac, hva, hra⟩ := ends_read ha
  obtain ⟨bo, bc, hvb, hrb⟩ := ends_read hb
  have HRA : Hid (∀ (i : Nat) c, xs[i]? = some c → ∃ ad, ao = some ad ∧ w.cell? (ad.add i) = some (enV c)) := fun i c hc => by obtain ⟨ad, h1, _, h2⟩ := hra w (fun _ _ => rfl) i c hc; exact ⟨ad, h1, h2⟩
  have HRB : Hid (∀ (i : Nat) c, xs[i]? = some c → ∃ ad, bo = some ad ∧ w.cell? (ad.add i) = some (enV c)) := fun i c hc => by obtain ⟨ad, h1, _, h2⟩ := hrb w (fun _ _ => rfl) i c hc; exact ⟨ad, h1, h2⟩
  have HO : Hid (∀ z ∈ xs, okZ z) := hok
  clear hok
  obtain ⟨n, hn⟩ : ∃ n, xs.length = n := ⟨_, rfl⟩
  rw [hn] at hva hvb hl
  have HN : Hid (xs.length = n) := hn
  subst hva hvb
  have hl2 : (n : Int) ≤ 1000000 := by omega
  clear ha hb hra hrb hn hl
  go_enter Try.func13, Try.ntmps13
  refine post_hid fun Q hQ => ?_
  go_wp2_with fail
  go_loopw [5] (fun i wr => ∃ (k : Nat), i = .int .i64 k ∧ (k : Int) ≤ n ∧ Hid (∃ d, wr = w.drewN d)) (fun i _ => n - (intOf i).toNat)
  case atStart => exact ⟨0, rfl, by omega, ⟨0, rfl⟩⟩
  case round =>
    obtain ⟨k, rfl, hk, HB⟩ := hrel
    by_cases hlt : (k : Int) < n
    · have hkl : k < xs.length := by rw [HN.out]; omega
      obtain ⟨c, hc⟩ : ∃ c, xs[k]? = some c := ⟨_, List.getElem?_eq_getElem hkl⟩
      obtain ⟨ad, g1, g2⟩ := HRA.out k c hc
      obtain ⟨bd, j1, j2⟩ := HRB.out k c hc
      have hixa := ix_E n ac k g1 hlt
      have hixb := ix_E n bc k j1 hlt
      obtain ⟨A, hA⟩ : ∃ A, Fl.fl (plc c) = A := ⟨_, rfl⟩
      obtain ⟨B, hB⟩ : ∃ B, Fl.fl (kd c) = B := ⟨_, rfl⟩
      have hoz := HO.out c (List.mem_of_getElem? hc)
      have e1 : (FloatKind.f64.format.order A A == some .eq) = true := by rw [← hA, Fl.eq_fl _ _ (okZ_abs hoz) (okZ_abs hoz)]; simp
      have e2 : (FloatKind.f64.format.order B B == some .eq) = true := by rw [← hB, Fl.eq_fl _ _ (kd_abs c) (kd_abs c)]; simp
      have c1 : wr.cell? (ad.add k) = some (.complex .f64 A B) := by obtain ⟨d, hd⟩ := HB.out; rw [hd, ← hA, ← hB]; exact g2
      have c2 : wr.cell? (bd.add k) = some (.complex .f64 A B) := by obtain ⟨d, hd⟩ := HB.out; rw [hd, ← hA, ← hB]; exact j2
      clear g1 g2 j1 j2 hc hkl hA hB hoz
      go_wp2_with fail
      go_quiet (fail)
      obtain ⟨W1, hW1⟩ : ∃ W1, W1 = wr.drewN nq := ⟨_, rfl⟩
      rw [← hW1]
      have HB2 : Hid (∃ d, W1 = w.drewN d) := by
        obtain ⟨d, hd⟩ := HB.out
        exact ⟨d + nq, by rw [hW1, hd, World.drewN_drewN]⟩
      clear hW1 hixa hixb HB c1 c2 e1 e2
      go_wp2_with fail
      go_roundw
      case rel => exact ⟨k + 1, by go_num, by omega, HB2.out⟩
      case measure => simp [intOf]; omega
    · have HE : Hid (Below w.heap.size w wr) := by obtain ⟨d, hd⟩ := HB.out; rw [hd]; exact below_dr (Below.refl _ _) d
      go_wp2_with fail
      rw [hQ.out]
      go_ret
      exact ⟨rfl, HE.out⟩
set_option maxRecDepth 20000 in
set_option maxHeartbeats 1000000 in
theorem asTold_any (a b : Value) (xs : List Int) (hok : ∀ z ∈ xs, okZ z) (w : World) (N M : Nat) (ha : Rk N w 1 a (enR xs)) (hb : Rk M w 2 b (xs.map edL)) (hl : xs.length ≤ 1000000) : Calls Try.prog 17 #[a, b] w fun e w' => e = .returned (.bool true) ∧ Below w.heap.size w w' := by
  obtain ⟨ao, ac, hva, hra⟩ := ends_read ha
  obtain ⟨bo, bc, hvb, hrb⟩ := eds_read hb
  have HRA : Hid (∀ (i : Nat) c, xs[i]? = some c → ∃ ad, ao = some ad ∧ w.cell? (ad.add i) = some (enV c)) := fun i c hc => by obtain ⟨ad, h1, _, h2⟩ := hra w (fun _ _ => rfl) i c hc; exact ⟨ad, h1, h2⟩
  have HRB : Hid (∀ (i : Nat) c, xs[i]? = some c → ∃ ad, bo = some ad ∧ ∀ j u, (edL c)[j]? = some u → w.cell? ((ad.add (i * 2)).add j) = some u) := fun i c hc => by obtain ⟨ad, h1, _, h2⟩ := hrb w (fun _ _ => rfl) i c hc; exact ⟨ad, h1, h2⟩
  have HO : Hid (∀ z ∈ xs, okZ z) := hok
  clear hok
  obtain ⟨n, hn⟩ : ∃ n, xs.length = n := ⟨_, rfl⟩
  rw [hn] at hva hvb hl
  have HN : Hid (xs.length = n) := hn
  subst hva hvb
  have hl2 : (n : Int) ≤ 1000000 := by omega
  clear ha hb hra hrb hn hl
  go_enter Try.func17, Try.ntmps17
  refine post_hid fun Q hQ => ?_
  go_wp2_with fail
  go_loopw [5] (fun i wr => ∃ (k : Nat), i = .int .i64 k ∧ (k : Int) ≤ n ∧ Hid (∃ d, wr = w.drewN d)) (fun i _ => n - (intOf i).toNat)
  case atStart => exact ⟨0, rfl, by omega, ⟨0, rfl⟩⟩
  case round =>
    obtain ⟨k, rfl, hk, HB⟩ := hrel
    by_cases hlt : (k : Int) < n
    · have hkl : k < xs.length := by rw [HN.out]; omega
      obtain ⟨c, hc⟩ : ∃ c, xs[k]? = some c := ⟨_, List.getElem?_eq_getElem hkl⟩
      obtain ⟨ad, g1, g2⟩ := HRA.out k c hc
      obtain ⟨bd, j1, j2⟩ := HRB.out k c hc
      have hixa := ix_E n ac k g1 hlt
      have hixb := ix_D n bc k j1 hlt
      obtain ⟨pz, hpz⟩ : ∃ p, plc c = p := ⟨_, rfl⟩
      obtain ⟨kz, hkz⟩ : ∃ p, kd c = p := ⟨_, rfl⟩
      have hoz := HO.out c (List.mem_of_getElem? hc)
      have e1 : (FloatKind.f64.format.order (floatOfInt .f64 pz) (floatOfInt .f64 pz) == some .eq) = true := by rw [foi, ← hpz, Fl.eq_fl _ _ (okZ_abs hoz) (okZ_abs hoz)]; simp
      have e2 : (FloatKind.f64.format.order (floatOfInt .f64 kz) (floatOfInt .f64 kz) == some .eq) = true := by rw [foi, ← hkz, Fl.eq_fl _ _ (kd_abs c) (kd_abs c)]; simp
      have c1 : wr.cell? (ad.add k) = some (.complex .f64 (floatOfInt .f64 pz) (floatOfInt .f64 kz)) := by obtain ⟨d, hd⟩ := HB.out; rw [hd, ← hpz, ← hkz]; exact g2
      obtain ⟨al, hal⟩ : ∃ al, bd.add (k * 2) = al := ⟨_, rfl⟩
      rw [hal] at hixb j2
      have j3 : ∀ j u, (edL c)[j]? = some u → wr.cell? (al.add j) = some u := by obtain ⟨d, hd⟩ := HB.out; rw [hd]; exact j2
      have c2 : wr.cell? (al.add 0) = some (.int .i64 pz) := by rw [← hpz]; exact j3 0 _ rfl
      have c4 : wr.cell? al = some (.int .i64 pz) := c2
      have c3 : wr.cell? (al.add 1) = some (.int .i64 kz) := by rw [← hkz]; exact j3 1 _ rfl
      have c5 : wr.cell? ⟨al.block, al.off + 1, none⟩ = some (.int .i64 kz) := c3
      clear g1 g2 j1 j2 j3 hc hkl hpz hkz hoz hal
      go_wp2_with fail
      go_quiet (fail)
      obtain ⟨W1, hW1⟩ : ∃ W1, W1 = wr.drewN nq := ⟨_, rfl⟩
      rw [← hW1]
      have HB2 : Hid (∃ d, W1 = w.drewN d) := by
        obtain ⟨d, hd⟩ := HB.out
        exact ⟨d + nq, by rw [hW1, hd, World.drewN_drewN]⟩
      clear hW1 hixa hixb HB c1 c2 c3 c4 c5 e1 e2
      go_wp2_with fail
      go_roundw
      case rel => exact ⟨k + 1, by go_num, by omega, HB2.out⟩
      case measure => simp [intOf]; omega
    · have HE : Hid (Below w.heap.size w wr) := by obtain ⟨d, hd⟩ := HB.out; rw [hd]; exact below_dr (Below.refl _ _) d
      go_wp2_with fail
      rw [hQ.out]
      go_ret
      exact ⟨rfl, HE.out⟩
end Go.Proofs.Ytepbbaeamlimaaa
