/- rules of the law: where both are the same. -/
import Derived.Test.YtmgphfdieekpdaaSC
namespace Go.Proofs.Ytmgphfdieekpdaa
open Go Go.RowKit Go.Sort
set_option maxHeartbeats 1000000 in
theorem rules_same (N : Nat) (v u : Value) (xs : List Ru) (w : World) (ha : Rk N w 3 v (xs.map ruL)) (hb : Rk N w 3 u (xs.map ruL)) (hl : xs.length ≤ 140737488355328) :
    Calls Try.prog 16 #[v, u] w fun e w' => e = .returned (.bool true) ∧ ∃ n, w' = w.drewN n := by
  obtain ⟨ao, cap, hav, hc, -⟩ := ha.ru
  obtain ⟨bo, cap', hbv, hc', -⟩ := hb.ru
  subst hav hbv
  obtain ⟨L, hL⟩ : ∃ L, L = xs.length := ⟨_, rfl⟩
  rw [← hL] at ha hb ⊢
  have HL : Hid (L = xs.length) := hL
  have l1 : (L : Int) ≤ 140737488355328 := by omega
  have HA : Hid (Rk N w 3 (.slice ao L cap) (xs.map ruL) ∧ Rk N w 3 (.slice bo L cap') (xs.map ruL)) := ⟨ha, hb⟩
  clear ha hb hc hc' hL hl
  go_enter Try.func16, Try.ntmps16
  go_wp2
  go_loopw [13] (fun i wr => ∃ (k n : Nat), i = .int .i64 (k : Int) ∧ (k : Int) ≤ L ∧ wr = w.drewN n) (fun i _ => (L - intOf i).toNat)
  case atStart => exact ⟨0, 0, rfl, by omega, rfl⟩
  case round =>
    obtain ⟨k, n, rfl, hk, rfl⟩ := hrel
    by_cases hlt : (k : Int) < L
    · have hkx : k < xs.length := by have := HL.out; omega
      obtain ⟨ad, g1, g2, g3⟩ := HA.out.1.at3 k hkx
      obtain ⟨bd, f1, f2, f3⟩ := HA.out.2.at3 k hkx
      have hix : ∀ w, Sem.run Try.prog (Instr.indexAt 22 (.slice ao L cap) (.int .i64 (k : Int))) w = .ok (.pointer (some (ad.add (k * 3)))) w := ix_ru L cap k g1 hlt
      have hiy : ∀ w, Sem.run Try.prog (Instr.indexAt 22 (.slice bo L cap') (.int .i64 (k : Int))) w = .ok (.pointer (some (bd.add (k * 3)))) w := ix_ru L cap' k f1 hlt
      obtain ⟨E, hE⟩ : ∃ E, E = xs[k] := ⟨_, rfl⟩
      rw [← hE] at g3 f3
      obtain ⟨A, hA0⟩ : ∃ A, A = ad.add (k * 3) := ⟨_, rfl⟩
      obtain ⟨C, hC0⟩ : ∃ C, C = bd.add (k * 3) := ⟨_, rfl⟩
      rw [← hA0] at hix g3
      rw [← hC0] at hiy f3
      clear hA0 hC0 g1 f1 hE
      obtain ⟨x0, x1, x2⟩ := E
      have a0 := g3 0 _ rfl
      have a1 := g3 1 _ rfl
      have a2 := g3 2 _ rfl
      have b0 := f3 0 _ rfl
      have b1 := f3 1 _ rfl
      have b2 := f3 2 _ rfl
      simp only [Addr.add] at a0 a1 a2 b0 b1 b2
      simp at a0 a1 a2 b0 b1 b2
      clear g3 f3
      go_wp2
      go_quiet (fail)
      go_wp2
      exact ⟨⟨k + 1, _, by go_num, by omega, rfl⟩, by simp [intOf]; omega⟩
    · go_wp2
      go_ret
      exact ⟨rfl, n, rfl⟩
end Go.Proofs.Ytmgphfdieekpdaa
