/- The statements' own: the first ones; two lists that are the same. -/
import Derived.Test.YtdlipponajilbaaClZa
namespace Go.Proofs.Ytdlipponajilbaa
open Go Go.RowKit Go.Sort
set_option linter.unusedVariables false
theorem qw_ld {ops : Array Oper} {rest : List Oper} {o : Oper} {a : Act} {C : World → Prop} {Q : Act → Prop} (hw : Region.wanted o (yielded ops a.tmps) = true) (ty : TypeId) (x : Operand) (ho : o.op = .load ty x)
    (ad : Addr) (hx : a.eval x = .pointer (some ad)) (cs : List Value) (d : TypeDesc) (hu : Try.prog.underlying ty = some d) (hd : d.isRow = true) (hi : (Try.prog.info? ty).map (·.size) = some cs.length)
    (hc : ∀ w, C w → ∀ j u, cs[j]? = some u → w.cell? (ad.add j) = some u)
    (h : QW Try.prog ops C Q rest (a.put o.dst (.agg cs.toArray))) : QW Try.prog ops C Q (o :: rest) a := ⟨quiet_ld6 hw ty x ho ad hx cs d hu hd hi hc h.out⟩
set_option maxRecDepth 20000 in
theorem neq_cn (c : Cn) (u : World) : (binOp .neq 27 (.agg (cnL c).toArray) (.agg (cnL c).toArray)).run Try.prog u = .ok (.bool false) u := by
  obtain ⟨i, p, d, j, s, f, l⟩ := c
  unfold cnL
  go_simp
set_option maxRecDepth 20000 in
set_option maxHeartbeats 1000000 in
theorem same_any (a b : Value) (xs : List Cn) (w : World) (N M : Nat) (ha : Rk N w 7 a (xs.map cnL)) (hb : Rk M w 7 b (xs.map cnL)) (hl : xs.length ≤ 1000000) : Calls Try.prog 11 #[a, b] w fun e w' => e = .returned (.bool true) ∧ Below w.heap.size w w' := by
  obtain ⟨ao, ac, hva, _, hra⟩ := cands_read ha
  obtain ⟨bo, bc, hvb, _, hrb⟩ := cands_read hb
  have HRA : Hid (∀ (i : Nat) c, xs[i]? = some c → ∃ ad, ao = some ad ∧ ∀ j u, (cnL c)[j]? = some u → w.cell? ((ad.add (i * 7)).add j) = some u) := fun i c hc => by obtain ⟨ad, h1, _, h2⟩ := hra w (fun _ _ => rfl) i c hc; exact ⟨ad, h1, h2⟩
  have HRB : Hid (∀ (i : Nat) c, xs[i]? = some c → ∃ ad, bo = some ad ∧ ∀ j u, (cnL c)[j]? = some u → w.cell? ((ad.add (i * 7)).add j) = some u) := fun i c hc => by obtain ⟨ad, h1, _, h2⟩ := hrb w (fun _ _ => rfl) i c hc; exact ⟨ad, h1, h2⟩
  obtain ⟨n, hn⟩ : ∃ n, xs.length = n := ⟨_, rfl⟩
  rw [hn] at hva hvb hl
  have HN : Hid (xs.length = n) := hn
  subst hva hvb
  have hl2 : (n : Int) ≤ 1000000 := by omega
  clear ha hb hra hrb hn hl
  go_enter Try.func11, Try.ntmps11
  refine post_hid fun Q hQ => ?_
  go_wp2_with fail
  go_loopw [5, 13] (fun _ i wr => ∃ (k : Nat), i = .int .i64 k ∧ (k : Int) ≤ n ∧ Hid (∃ d, wr = w.drewN d)) (fun _ i _ => n - (intOf i).toNat)
  case atStart => exact ⟨0, rfl, by omega, ⟨0, rfl⟩⟩
  case round =>
    obtain ⟨k, rfl, hk, HB⟩ := hrel
    by_cases hlt : (k : Int) < n
    · have hkl : k < xs.length := by rw [HN.out]; omega
      obtain ⟨c, hc⟩ : ∃ c, xs[k]? = some c := ⟨_, List.getElem?_eq_getElem hkl⟩
      obtain ⟨ad, g1, g2⟩ := HRA.out k c hc
      obtain ⟨bd, j1, j2⟩ := HRB.out k c hc
      have hixa := ix_C n ac k g1 hlt
      have hixb := ix_C n bc k j1 hlt
      have HS : Hid (∀ u, (∃ d, u = wr.drewN d) → (∀ j x, (cnL c)[j]? = some x → u.cell? ((ad.add (k * 7)).add j) = some x) ∧ (∀ j x, (cnL c)[j]? = some x → u.cell? ((bd.add (k * 7)).add j) = some x)) := fun u hu => by
        obtain ⟨d, rfl⟩ := hu
        obtain ⟨d2, hd2⟩ := HB.out
        rw [hd2]
        exact ⟨g2, j2⟩
      have hne := neq_cn c
      clear g1 g2 j1 j2 hc hkl
      go_wp2_with fail
      refine wp_region_quietW (by kernel_rfl) (by kernel_rfl) ?_
      repeat (first
        | (refine qw_ld (by rfl) 27 _ rfl (ad.add (k * 7)) (by rfl) (cnL c) _ Try.underlying27 rfl (by kernel_rfl) (fun u hu => (HS.out u hu).1) ?_; go_simp)
        | (refine qw_ld (by rfl) 27 _ rfl (bd.add (k * 7)) (by rfl) (cnL c) _ Try.underlying27 rfl (by kernel_rfl) (fun u hu => (HS.out u hu).2) ?_; go_simp)
        | (refine qw_step (fun K hK => ?_); go_simp; refine hK _ ?_; clear hK K))
      refine qw_nil ?_
      intro nq
      obtain ⟨W1, hW1⟩ : ∃ W1, W1 = wr.drewN nq := ⟨_, rfl⟩
      rw [← hW1]
      have HB2 : Hid (∃ d, W1 = w.drewN d) := by
        obtain ⟨d, hd⟩ := HB.out
        exact ⟨d + nq, by rw [hW1, hd, World.drewN_drewN]⟩
      clear hW1 hne hixa hixb HS HB
      go_wp2_with fail
      go_roundw
      case rel => exact ⟨k + 1, by go_num, by omega, HB2.out⟩
      case measure => simp [intOf]; omega
    · have HE : Hid (Below w.heap.size w wr) := by obtain ⟨d, hd⟩ := HB.out; rw [hd]; exact below_dr (Below.refl _ _) d
      go_wp2_with fail
      rw [hQ.out]
      go_ret
      exact ⟨rfl, HE.out⟩
theorem take_300 (l : List Cn) : l.take (min l.length 300) = l.take 300 := by
  rcases Nat.le_total l.length 300 with h | h
  · rw [Nat.min_eq_left h, List.take_of_length_le (Nat.le_refl _), List.take_of_length_le h]
  · rw [Nat.min_eq_right h]
set_option maxRecDepth 20000 in
set_option maxHeartbeats 1000000 in
theorem few_any (v : Value) (l : List Cn) (w : World) (N : Nat) (h : Rk N w 7 v (l.map cnL)) (hl : l.length ≤ maxLen) : Calls Try.prog 5 #[v] w fun e w' => ∃ u, e = .returned u ∧ Hid (Rk N w 7 u ((l.take 300).map cnL)) ∧ w' = w := by
  obtain ⟨ao, cap, hv, hcap⟩ := rk_form h
  obtain ⟨n, hn⟩ : ∃ n, l.length = n := ⟨_, rfl⟩
  rw [hn] at hv hl hcap
  subst hv
  obtain ⟨m, hm⟩ : ∃ m : Nat, m = min n 300 := ⟨_, rfl⟩
  have hmin : min (n : Int) 300 = (m : Int) := by omega
  obtain ⟨ao1, cap1, hrun, hk1, _, _⟩ := csl_take h m (by omega)
  have hT0 : l.take m = l.take 300 := by rw [hm, ← hn]; exact take_300 l
  rw [hT0] at hk1
  have HK : Hid (Rk N w 7 (.slice ao1 m cap1) ((l.take 300).map cnL)) := hk1
  clear h hl hcap hn hm hk1 hT0
  go_enter Try.func5, Try.ntmps5
  refine post_hid fun Q hQ => ?_
  go_wp2_with fail
  rw [hQ.out]
  go_ret
  exact ⟨_, rfl, HK.out, rfl⟩
end Go.Proofs.Ytdlipponajilbaa
