/- Rates: RestrictRates' script, walked. -/
import Derived.Test.YtmgphfdieekpdaaRWb
import Derived.Test.YtmgphfdieekpdaaRV
namespace Go.Proofs.Ytmgphfdieekpdaa
open Go Go.RowKit Go.Maps
set_option linter.unusedVariables false
/-- the memory, the map of what passed, and what is known of both -/
structure Rl (w W : World) (g b : Nat) (cost mn N : Int) (k : Nat) : Prop where
  ex : ∃ sv m0 xs f, Mm W g g sv cost mn m0 (k : Int) xs ∧ Gv W b k f ∧ Rv cost mn m0 xs f ∧ m0 ≤ N ∧ -9223372036854775808 ≤ m0
  be : Below w.heap.size w W
  hg : w.heap.size ≤ g
  hb : w.heap.size ≤ b
theorem Rl.below {w W W' : World} {g b k : Nat} {cost mn N : Int} (h : Rl w W g b cost mn N k) (hb : Below W.heap.size W W') : Rl w W' g b cost mn N k := by
  obtain ⟨sv, m0, xs, f, q1, q2, q3⟩ := h.ex
  exact ⟨⟨sv, m0, xs, f, q1.below hb, q2.below hb, q3⟩, h.be.trans (hb.mono h.be.size), h.hg, h.hb⟩
theorem Rl.up {w W : World} {g b k : Nat} {cost mn N N' : Int} (h : Rl w W g b cost mn N k) (hn : N ≤ N') : Rl w W g b cost mn N' k := by
  obtain ⟨sv, m0, xs, f, q1, q2, q3, q4, q5⟩ := h.ex
  exact ⟨⟨sv, m0, xs, f, q1, q2, q3, by omega, q5⟩, h.be, h.hg, h.hb⟩
/-- behind Heard -/
structure Rh (w W : World) (g b : Nat) (cost mn N : Int) (k : Nat) (f f' : Int → List Int) : Prop where
  ex : ∃ sv xs, Mm W g g sv cost mn N ((k : Int) + 1) xs ∧ Rv cost mn N xs f'
  gv : Gv W b k f
  be : Below w.heap.size w W
  hg : w.heap.size ≤ g
  hb : w.heap.size ≤ b
theorem Rl.heard {w W : World} {g b k : Nat} {cost mn N a F : Int} (h : Rl w W g b cost mn N k) (c0 : 1 ≤ cost) (c1 : cost ≤ 1024) (m0 : 0 ≤ mn) (m1 : mn ≤ 1024) (n0 : 0 ≤ N) (n1 : N ≤ 419430400) (hk : k ≤ 400) (a0 : 0 ≤ a) (a1 : a < 32) : Calls Try.prog 19 #[.pointer (some ⟨g, 0, none⟩), .int .u32 a, .int .i64 N, .int .i64 (bits .or .i64 F 32)] W fun e w' => ∃ v f, e = .returned (.int .i64 v) ∧ Hid ((v = 0 ∧ Rh w w' g b cost mn N k f (upd f a N)) ∨ (v = 1 ∧ Rh w w' g b cost mn N k f f) ∨ (v = 2 ∧ bits .and .i64 F 64 ≠ 0 ∧ Rh w w' g b cost mn N k f f)) ∧ Hid (∀ p cs, Bk p W cs 46 → Bk p w' cs 46) := by
  obtain ⟨sv, m, xs, f, q1, q2, q3, q4, q5⟩ := h.ex
  have hlt := q1.blk.lt
  refine (heard_few g g sv xs cost mn m k a N (bits .or .i64 F 32) true (decide (bits .and .i64 (bits .or .i64 F 32) 64 ≠ 0)) W q1 (by omega) (few_addr q3.nd q3.ad a a0 a1) c0 c1 m0 m1 q5 (by omega) (by omega) (by omega) (by omega) q3.ok (by rw [decide_eq_true (and_or_32 F)]) rfl).mono ?_
  rintro e w' ⟨sv', xs', v, rfl, h1, h2, h3, h4⟩
  have em : mxI m N = N := by unfold mxI; split <;> omega
  rw [em] at h1 h2
  obtain ⟨r1, r2, r3⟩ := q3.step h1 c0 q4 n0 n1 a0 a1
  have hbe : Below w.heap.size w w' := h.be.trans ((q1.bel (by omega) h3).mono h.hg)
  have hgv := q2.fm q1 h3
  refine ⟨v, f, rfl, ?_, fun p cs hp => hp.kept (h3.block p hp.lt (fun e => ?_) (fun e => ?_))⟩
  rotate_left
  · subst e
    have := q1.blk
    unfold Bk at this hp
    rw [this] at hp
    injection hp with hp
    injection hp with _ hp
    exact absurd hp (by decide)
  · rcases q1.row.row.2 with ⟨k1, _⟩ | ⟨g', cap, cur, k1, _, k3, _⟩
    · rw [k1] at e; cases e
    · rw [k1] at e
      injection e with e
      have e2 : g' = p := e
      subst e2
      unfold Bk at hp
      rw [hp] at k3
      injection k3 with k3
      injection k3 with _ k3
      exact absurd k3 (by decide)
  rcases r1 with rfl | rfl | ⟨rfl, hkd⟩
  · exact .inl ⟨rfl, ⟨⟨sv', xs', h2, r2 rfl⟩, hgv, hbe, h.hg, h.hb⟩⟩
  · exact .inr (.inl ⟨rfl, ⟨⟨sv', xs', h2, r3 (by decide)⟩, hgv, hbe, h.hg, h.hb⟩⟩)
  · refine .inr (.inr ⟨rfl, ?_, ⟨⟨sv', xs', h2, r3 (by decide)⟩, hgv, hbe, h.hg, h.hb⟩⟩)
    have := of_decide_eq_true hkd
    rwa [and_or_64] at this
theorem Rh.done {w W : World} {g b k : Nat} {cost mn N : Int} {f : Int → List Int} (h : Rh w W g b cost mn N k f f) (n0 : 0 ≤ N) : Rl w W g b cost mn N (k + 1) := by
  obtain ⟨sv, xs, q1, q2⟩ := h.ex
  have e : ((k + 1 : Nat) : Int) = (k : Int) + 1 := by omega
  exact ⟨⟨sv, N, xs, f, by rw [e]; exact q1, h.gv.more (Nat.le_succ _), q2, Int.le_refl _, by omega⟩, h.be, h.hg, h.hb⟩
/-- what passed is put down -/
theorem Rh.put {w W w1 w2 : World} {g b k : Nat} {cost mn N a : Int} {f : Int → List Int} {D : DataW Unit} {v v' : Value} (h : Rh w W g b cost mn N k f (upd f a N)) (n0 : 0 ≤ N) (hD : ∀ a, 0 ≤ a → a < 4294967296 → Dat (D.atKey (.int .u32 a) .nil) (f a)) (hm : IsMap D) (hv : W.ownsInts (b + 1) 3 .i64 v (f a)) (h1 : w1.ownsInts (b + 1) 3 .i64 v' (f a ++ [N])) (h2 : w2.ownsGroups Try.prog 24 (b + 1) 3 .i64 b (k + 1) (D.put (.int .u32 a) (rowDatum .i64 v' (f a ++ [N])))) (g1 : W.grownBy w1 v.ownBlock) (g2 : w1.grownBy w2 (some b)) : Rl w w2 g b cost mn N (k + 1) := by
  obtain ⟨sv, xs, q1, q2⟩ := h.ex
  have e : ((k + 1 : Nat) : Int) = (k : Int) + 1 := by omega
  obtain ⟨es, clock, hbm⟩ := h.gv.lt
  have hblt := get_lt hbm
  have hst : ∀ p, p < W.heap.size → (∀ es clock, W.heap[p]? ≠ some (.map es clock)) → (∀ cur, W.heap[p]? ≠ some (.cells cur 3 (0, 0))) → w2.heap[p]? = W.heap[p]? := fun p hp n1 n2 => by
    have e1 : w1.heap[p]? = W.heap[p]? := g1.block p hp (fun e => by
      rcases hv.1.2 with ⟨k1, _⟩ | ⟨g', cap, cur, k1, _, k3, _⟩
      · rw [k1] at e; cases e
      · rw [k1] at e
        injection e with e
        have e2 : p = g' := e
        subst e2
        exact n2 cur k3)
    rw [g2.block p (Nat.lt_of_lt_of_le hp g1.size) (fun e => by
      injection e with e
      have e2 : p = b := e
      subst e2
      exact n1 es clock hbm), e1]
  refine ⟨⟨sv, N, xs, upd f a N, by rw [e]; exact q1.keep2 (b := b) hst, Gv.put hD hm h1 h2, q2, Int.le_refl _, by omega⟩, ?_, h.hg, h.hb⟩
  exact h.be.groups hv g1 g2 h.be.size (by have := h.hb; omega) h.hb
theorem info_int : (Try.prog.info? 3).map (fun i => (i.zero, i.size, i.bytes)) = some (some (.int .i64 0), 1, 8) := by kernel_rfl
theorem zero_ints (w : World) : (zeroValue 23).run Try.prog w = .ok (.slice none 0 0) w := by kernel_rfl
theorem run_mn6 (a b M : Int) (h : (if b < a then b else a) = M) (u : World) : (Builtin.min_ #[3, 3] 3 #[.int .i64 a, .int .i64 b]).run Try.prog u = .ok (.int .i64 M) u := by rw [← h]; simp [go_sem]
theorem pk_rem (a : Int) (h0 : 0 ≤ a) : a.tmod 32 = a % 32 := Int.tmod_eq_emod_of_nonneg h0
end Go.Proofs.Ytmgphfdieekpdaa
