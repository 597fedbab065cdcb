/- Heard, where the memory is full and the sender is new. -/
import Derived.Test.YtmgphfdieekpdaaRR
import Derived.Test.YtmgphfdieekpdaaRY
namespace Go.Proofs.Ytmgphfdieekpdaa
open Go Go.RowKit
set_option maxHeartbeats 2000000 in
theorem heard_full (B g : Nat) (sv : Value) (xs : List Sn) (cost mn now turns a n flags : Int) (w : World) (hM : Mm w B g sv cost mn now turns xs) (hB : B ≤ w.heap.size) (hlen : xs.length = 32) (hno0 : ∀ x ∈ xs, x.addr ≠ a) (hnd : ∀ i j (hi : i < xs.length) (hj : j < xs.length), xs[i].turn = xs[j].turn → i = j)
    (n0 : -9223372036854775808 ≤ now) (n1 : now ≤ 9223372036854775807) (n2 : n ≤ 9223372036854775807) (t0 : 0 ≤ turns) (t1 : turns ≤ 4611686018427387904) :
    Calls Try.prog 19 #[.pointer (some ⟨g, 0, none⟩), .int .u32 a, .int .i64 n, .int .i64 flags] w fun e w' => e = .returned (.int .i64 0) ∧ ∃ i, (∃ _ : i < xs.length, ∀ j (hj : j < xs.length), xs[i].turn ≤ xs[j].turn) ∧ Mm w' B g sv cost mn (mxI now n) (turns + 1) (xs.set i (nwS a cost (mxI now n) (turns + 1))) ∧ Fm w w' g sv := by
  obtain ⟨N, hN⟩ : ∃ N, N = mxI now n := ⟨_, rfl⟩
  rw [← hN]
  have hN2 : now ≤ N ∧ N ≤ 9223372036854775807 := by rw [hN]; unfold mxI; split <;> omega
  have eN : (if now < n then n else now) = N := hN.symm
  clear hN
  have hc2 := hM.blk.cell 2
  have hc3 := hM.blk.cell 3
  simp at hc2 hc3
  have hfr : ∀ j, w.frozen? ⟨g, j, none⟩ = false := fun j => hM.blk.frozen j
  obtain ⟨W2, hW2⟩ : ∃ W, W = (w.setCell ⟨g, 2, none⟩ (.int .i64 N)).setCell ⟨g, 3, none⟩ (.int .i64 (turns + 1)) := ⟨_, rfl⟩
  have HM2 : Hid (Mm W2 B g sv cost mn N (turns + 1) xs) := by rw [hW2]; exact (hM.setNow N).setTurns _
  have HF2 : Hid (Fm w W2 g sv) := by rw [hW2]; exact ((Fm.refl w g sv).cell _).cell _
  have HX : Hid (B ≤ w.heap.size ∧ xs.length = 32 ∧ (∀ x ∈ xs, x.addr ≠ a) ∧ (∀ i j (hi : i < xs.length) (hj : j < xs.length), xs[i].turn = xs[j].turn → i = j)) := ⟨hB, hlen, hno0, hnd⟩
  have HI : Hid (Calls Try.prog 32 #[.pointer (some ⟨g, 0, none⟩), .int .u32 a] W2 fun e w' => ∃ r : Int, e = .returned (.int .i64 r) ∧ Hid (atB xs a r) ∧ Below W2.heap.size W2 w') := by
    refine indexOf_any W2.heap.size sv xs a g W2 HM2.out.row.rk (Nat.le_refl _) (by omega) ?_
    have := HM2.out.blk.cell 4
    simpa using this
  clear hM hB hlen hno0 hnd
  go_enter Try.func19, Try.ntmps19
  go_wp2_with fail
  rw [← hW2]
  clear hW2 hc2 hc3 hfr eN
  refine HI.out.mono ?_
  rintro e w3 ⟨r, rfl, hat, hb3⟩
  have HM3 : Hid (Mm w3 B g sv cost mn N (turns + 1) xs) := HM2.out.below hb3
  have HF3 : Hid (Fm w w3 g sv) := HF2.out.trans (Fm.of_below hb3) (fun k e => .inl e)
  clear hb3 HM2 HI
  rcases hat.out with ⟨hr, hno⟩ | ⟨i, hi, hr, hadr⟩
  · subst hr
    clear hno
    go_wp2_with fail
    refine (remember_full B g sv xs cost mn N (turns + 1) a w3 HM3.out (Nat.le_trans HX.out.1 HF3.out.size) HX.out.2.1 HX.out.2.2.2).mono ?_
    rintro e w4 ⟨rfl, i, h0, h1, h2⟩
    have H4 : Hid ((∃ _ : i < xs.length, ∀ j (hj : j < xs.length), xs[i].turn ≤ xs[j].turn) ∧ Mm w4 B g sv cost mn N (turns + 1) (xs.set i (nwS a cost N (turns + 1))) ∧ Fm w w4 g sv) := ⟨h0, h1, HF3.out.trans h2 (fun k e => .inl e)⟩
    clear h0 h1 h2
    go_wp2_with fail
    go_ret
    exact ⟨rfl, i, H4.out⟩
  · exact absurd hadr (HX.out.2.2.1 xs[i] (List.getElem_mem hi))
end Go.Proofs.Ytmgphfdieekpdaa
