/- RestrictMemory: the program's Heard against the reference's list; entry of the law. -/
import Derived.Test.YtmgphfdieekpdaaMC
import Derived.Test.YtmgphfdieekpdaaLR
namespace Go.Proofs.Ytmgphfdieekpdaa
open Go Go.RowKit
theorem le_mxI (a b : Int) : a ≤ mxI a b := by unfold mxI; split <;> omega
set_option maxHeartbeats 400000 in
theorem mheard (B g : Nat) (sv : Value) (xs ss : List Sn) (cost mn now t a n f : Int) (lim kod : Bool) (w : World) (hM : Mm w B g sv cost mn now t xs) (hB : B ≤ w.heap.size) (hR : Rq cost now t xs ss) (c0 : 1 ≤ cost) (c1 : cost ≤ 1024) (m0 : 0 ≤ mn) (m1 : mn ≤ 1024) (n0 : -9223372036854775808 ≤ now) (n1 : now ≤ 9223372036854775807) (n2 : n ≤ 9223372036854775807) (t0 : 0 ≤ t) (t1 : t ≤ 4611686018427387904)
    (hl : lim = decide (bits BinOp.and IntKind.i64 f 32 ≠ 0)) (hk : kod = decide (bits BinOp.and IntKind.i64 f 64 ≠ 0)) :
    Calls Try.prog 19 #[.pointer (some ⟨g, 0, none⟩), .int .u32 a, .int .i64 n, .int .i64 f] w fun e w' => ∃ sv' xs', e = .returned (.int .i64 (hdV ss a cost mn (mxI now n) lim kod)) ∧ Rq cost (mxI now n) (t + 1) xs' (hdL ss a cost mn (mxI now n) (t + 1) lim kod) ∧ Mm w' B g sv' cost mn (mxI now n) (t + 1) xs' ∧ Fm w w' g sv ∧ (∀ q, sv'.ownBlock = some q → sv.ownBlock = some q ∨ w.heap.size ≤ q) := by
  have hlx : xs.length ≤ 32 := by rw [← hR.perm.length_eq]; exact hR.len
  have hok : ∀ x ∈ xs, Sok cost now x := fun x hx => hR.ok x (hR.perm.symm.subset hx)
  have hmx := le_mxI now n
  by_cases hc : xs.length < 32 ∨ ∃ x ∈ xs, x.addr = a
  · have hlen : xs.length < 32 ∨ (xs.length ≤ 32 ∧ ∃ x ∈ xs, x.addr = a) := hc.imp_right (fun h => ⟨hlx, h⟩)
    refine (heard_few B g sv xs cost mn now t a n f lim kod w hM hB hlen c0 c1 m0 m1 n0 n1 n2 t0 t1 hok hl hk).mono ?_
    rintro e w' ⟨sv', xs', v, rfl, h1, h2, h3, h4⟩
    obtain ⟨hs, hv⟩ := hR.step hmx (by omega) (by omega) (.inl ⟨hc, h1⟩)
    exact ⟨sv', xs', by rw [hv], hs, h2, h3, h4⟩
  · have hl : xs.length = 32 := by
      rcases Nat.lt_or_ge xs.length 32 with h | h
      · exact absurd (.inl h) hc
      · omega
    have hno : ∀ x ∈ xs, x.addr ≠ a := fun x hx e => hc (.inr ⟨x, hx, e⟩)
    refine (heard_full B g sv xs cost mn now t a n f w hM hB hl hno hR.nd n0 n1 n2 t0 t1).mono ?_
    rintro e w' ⟨rfl, i, h0, h1, h2⟩
    obtain ⟨hs, hv⟩ := hR.step (v := 0) (mn := mn) (lim := lim) (kod := kod) hmx (by omega) (by omega) (.inr ⟨rfl, hl, hno, i, h0, rfl⟩)
    exact ⟨sv, _, by rw [← hv], hs, h1, h2, fun q e => .inl e⟩
set_option maxHeartbeats 400000 in
theorem entry_any (s : Sn) (w : World) : Calls Try.prog 37 #[.agg (enL s).toArray] w fun e w' => e = .returned (.agg (enL s).toArray) ∧ Below w.heap.size w w' := by
  obtain ⟨y0, y1, y2, y3, y4, y5⟩ := s
  unfold enL
  simp only
  go_enter Try.func37, Try.ntmps37
  go_wp2
  have hR : Bk (w.heap.size + 1) ((w.alloc (.cells #[.int .u32 y0, .int .i64 y1, .int .i64 y2, .int .i64 y3, .int .i64 y4] 76)).alloc (.cells #[.int .u32 y0, .int .i64 y1, .int .i64 y2, .int .i64 y3, .int .i64 y4] 52)) #[.int .u32 y0, .int .i64 y1, .int .i64 y2, .int .i64 y3, .int .i64 y4] 52 := by
    have h := Bk.new (w.alloc (.cells #[.int .u32 y0, .int .i64 y1, .int .i64 y2, .int .i64 y3, .int .i64 y4] 76)) #[.int .u32 y0, .int .i64 y1, .int .i64 y2, .int .i64 y3, .int .i64 y4] 52
    rw [size_alloc1] at h
    exact h
  exact bodyPost_ret (v := .agg #[.int .u32 y0, .int .i64 y1, .int .i64 y2, .int .i64 y3, .int .i64 y4]) (results_cell_row Try.results37 _ _ (w.heap.size + 1) _ _ (0, 0) _ (by rfl) hR Try.underlying52 rfl (by kernel_rfl)) rfl ⟨rfl, (by repeat' (first | with_reducible exact Below.refl _ _ | with_reducible refine Below.setCell ?_ (by first | (simp; done) | (simp; omega) | omega) _ | with_reducible refine below_drewN ?_ _ | with_reducible refine Below.drew ?_ | with_reducible refine Below.alloc ?_ (by first | (simp; done) | (simp; omega) | omega) _))⟩
end Go.Proofs.Ytmgphfdieekpdaa
