/- New of both. -/
import Derived.Test.YtbagfnafkpbanaaLpG
import Derived.Test.YtbagfnafkpbanaaLpD
import Derived.Test.YtbagfnafkpbanaaLpI
namespace Go.Proofs.Ytbagfnafkpbanaa
open Go Go.RowKit Go.Sort
set_option linter.unusedVariables false
/-- a loop just made -/
structure Nl (w w' : World) (p : Nat) (s : Lp) : Prop where
  po : Po w' p s
  be : Below w.heap.size w w'
  hp : w.heap.size ≤ p
structure Nr (w w' : World) (q : Nat) (s : Lp) : Prop where
  rp : Rp w' q s
  be : Below w.heap.size w w'
  hq : w.heap.size ≤ q
theorem Nl.mod {w u u' : World} {p : Nat} {s s' : Lp} (h : Nl w u p s) (hp : Po u' p s') (hg : u.grownBy u' (some p)) : Nl w u' p s' := ⟨hp, h.be.grown hg h.be.size (fun k hk => by injection hk with hk; have := h.hp; omega), h.hp⟩
theorem Nr.mod {w u u' : World} {p : Nat} {s s' : Lp} (h : Nr w u p s) (hp : Rp u' p s') (hg : u.grownBy u' (some p)) : Nr w u' p s' := ⟨hp, h.be.grown hg h.be.size (fun k hk => by injection hk with hk; have := h.hq; omega), h.hq⟩
set_option maxHeartbeats 2000000 in
theorem new_any (cf' : List Value) (st pa so f : Int) (has : Bool) (w : World) (hc : Cg cf' st pa so) : Calls Try.prog 9 #[.agg cf'.toArray, .int .i64 f, .bool has] w fun e w' => ∃ p, e = .returned (.pointer (some ⟨p, 0, none⟩)) ∧ Nl w w' p (newS st pa so f has) := by
  have HC : Hid (Cg cf' st pa so) := hc
  obtain ⟨A, hA⟩ : ∃ A, max 1 (min st 4611686018427387904) = A := ⟨_, rfl⟩
  obtain ⟨B, hB⟩ : ∃ B, max 1 (min pa 4611686018427387904) = B := ⟨_, rfl⟩
  obtain ⟨C0, hC0⟩ : ∃ C0, max so 0 = C0 := ⟨_, rfl⟩
  obtain ⟨C, hC⟩ : ∃ C, max 0 (min so 1048576) = C := ⟨_, rfl⟩
  obtain ⟨T, hT⟩ : ∃ T, cf f = T := ⟨_, rfl⟩
  have HN : Hid (newS st pa so f has = ⟨A, B, C, if has = true then 1 else 0, if has = true then T else 0, 0, 0, 0, 3, 0⟩) := by show _ = _; unfold newS; rw [hA, hB, hC, hT]
  have K1 : Hid (∀ u, Calls Try.prog 21 #[.int .i64 st] u fun e w' => e = .returned (.int .i64 A) ∧ w' = u) := fun u => by rw [← hA]; exact limit_any _ _
  have K2 : Hid (∀ u, Calls Try.prog 21 #[.int .i64 pa] u fun e w' => e = .returned (.int .i64 B) ∧ w' = u) := fun u => by rw [← hB]; exact limit_any _ _
  have K3 : Hid (∀ u, Calls Try.prog 22 #[.int .i64 f] u fun e w' => e = .returned (.int .i64 T) ∧ w' = u) := fun u => by rw [← hT]; exact cut_any _ _
  have mx1 : ∀ u, (Builtin.max_ #[3, 3] 3 #[.int .i64 so, .int .i64 0]).run Try.prog u = .ok (.int .i64 C0) u := fun u => by rw [run_mx, hC0]
  have mn1 : ∀ u, (Builtin.min_ #[3, 3] 3 #[.int .i64 C0, .int .i64 1048576]).run Try.prog u = .ok (.int .i64 C) u := fun u => by
    rw [run_mn, ← hC, ← hC0]; congr 2; omega
  rw [HN.out]
  clear hc hA hB hC0 hC hT
  go_enter Try.func9, Try.ntmps9
  refine post_hid fun Q hQ => ?_
  refine seq_hid fun R hR => ?_
  go_wp2_with (refine step_boxL (by rfl) 29 _ rfl cf'.toArray (by rfl) (fun u => by rfl) ?_; intro W1 g1 H1)
  rw [hR.out]
  clear hR
  have c10 : W1.cell? ⟨g1, 10, none⟩ = some (.int .i64 st) := by rw [H1.out.bk.cell 10, List.getElem?_toArray]; exact HC.out.c10
  have c11 : W1.cell? ⟨g1, 11, none⟩ = some (.int .i64 pa) := by rw [H1.out.bk.cell 11, List.getElem?_toArray]; exact HC.out.c11
  have c12 : W1.cell? ⟨g1, 12, none⟩ = some (.int .i64 so) := by rw [H1.out.bk.cell 12, List.getElem?_toArray]; exact HC.out.c12
  have HW1 : Hid (Below w.heap.size w W1 ∧ W1.heap.size = w.heap.size + 1) := ⟨H1.out.be, H1.out.sz⟩
  clear HC H1 HN
  have HB : Hid (Po ((W1.alloc (.cells (lpL ⟨A, B, C, 0, 0, 0, 0, 0, 3, 0⟩).toArray 55)).drew) W1.heap.size ⟨A, B, C, 0, 0, 0, 0, 0, 3, 0⟩ ∧ Below w.heap.size w ((W1.alloc (.cells (lpL ⟨A, B, C, 0, 0, 0, 0, 0, 3, 0⟩).toArray 55)).drew) ∧ w.heap.size ≤ W1.heap.size) :=
    ⟨Po.drewN (Bk.new W1 _ _) 1, (HW1.out.1.alloc (by have := HW1.out.2; omega) _).drew, by have := HW1.out.2; omega⟩
  clear HW1
  go_upto_region 1 with fail
  go_cut [7] from 8 to 19 (fun x wx => ∃ p, x = .pointer (some ⟨p, 0, none⟩) ∧ Hid (Po wx p ⟨A, B, C, 0, 0, 0, 0, 0, 3, 0⟩ ∧ Below w.heap.size w wx ∧ w.heap.size ≤ p))
  case first =>
    go_wp2_with fail
    go_region_held3 (fun w' => w'.cell? ⟨g1, 10, none⟩ = some (.int .i64 st) ∧ w'.cell? ⟨g1, 11, none⟩ = some (.int .i64 pa) ∧ w'.cell? ⟨g1, 12, none⟩ = some (.int .i64 so)) (first | exact ⟨c10, c11, c12⟩ | go_keep) ((go_at_call 21; first | (refine (K1.out _).mono ?_; rintro e w' ⟨rfl, rfl⟩) | (refine (K2.out _).mono ?_; rintro e w' ⟨rfl, rfl⟩)))
    all_goals go_wp2_with fail
    all_goals
      go_meet
      exact ⟨_, rfl, HB⟩
  case rest =>
    obtain ⟨p, rfl, H2⟩ := hcut
    have f3 : wc.frozen? ⟨p, 3, none⟩ = false := H2.out.1.frozen 3
    have f4 : wc.frozen? ⟨p, 4, none⟩ = false := H2.out.1.frozen 4
    have c3 : wc.cell? ⟨p, 3, none⟩ = some (.int .i64 0) := H2.out.1.cell 3
    have c4 : wc.cell? ⟨p, 4, none⟩ = some (.int .i64 0) := H2.out.1.cell 4
    clear HB c10 c11 c12 K1 K2 mx1 mn1
    cases has
    · go_wp2_with fail
      rw [hQ.out]
      go_ret
      exact ⟨_, rfl, H2.out.1, H2.out.2.1, H2.out.2.2⟩
    · go_wp2_with (go_at_call 22; refine (K3.out _).mono ?_; rintro e w' ⟨rfl, hw⟩; rw [hw]; clear hw)
      rw [hQ.out]
      go_ret
      refine ⟨_, rfl, (H2.out.1.set (j := 3) _).set (j := 4) _, ?_, H2.out.2.2⟩
      exact H2.out.2.1.trans (((Below.refl _ _).setCell H2.out.2.2 _).setCell H2.out.2.2 _)
set_option maxHeartbeats 400000 in
theorem rnew_any (cf' : List Value) (st pa so f : Int) (has : Bool) (w : World) (hc : Cg cf' st pa so) (hf : -9223372036854775808 ≤ f ∧ f ≤ 9223372036854775807) : Calls Try.prog 13 #[.agg cf'.toArray, .int .i64 f, .bool has] w fun e w' => ∃ q, e = .returned (.pointer (some ⟨q, 0, none⟩)) ∧ Nr w w' q (newS st pa so f has) := by
  have HC : Hid (Cg cf' st pa so) := hc
  obtain ⟨A0, hA0⟩ : ∃ A, min st 4611686018427387904 = A := ⟨_, rfl⟩
  obtain ⟨A, hA⟩ : ∃ A, max 1 (min st 4611686018427387904) = A := ⟨_, rfl⟩
  obtain ⟨B0, hB0⟩ : ∃ B, min pa 4611686018427387904 = B := ⟨_, rfl⟩
  obtain ⟨B, hB⟩ : ∃ B, max 1 (min pa 4611686018427387904) = B := ⟨_, rfl⟩
  obtain ⟨C0, hC0⟩ : ∃ C0, min so 1048576 = C0 := ⟨_, rfl⟩
  obtain ⟨C, hC⟩ : ∃ C, max 0 (min so 1048576) = C := ⟨_, rfl⟩
  obtain ⟨T, hT⟩ : ∃ T, cf f = T := ⟨_, rfl⟩
  have HN : Hid (newS st pa so f has = ⟨A, B, C, if has = true then 1 else 0, if has = true then T else 0, 0, 0, 0, 3, 0⟩) := by show _ = _; unfold newS; rw [hA, hB, hC, hT]
  have K3 : Hid (∀ u, Calls Try.prog 24 #[.int .i64 f] u fun e w' => e = .returned (.int .i64 T) ∧ Below u.heap.size u w') := fun u => by rw [← hT]; exact rcutf_any _ _ hf.1 hf.2
  have m1 : ∀ u, (Builtin.min_ #[27, 27] 27 #[.int .i64 st, .int .i64 4611686018427387904]).run Try.prog u = .ok (.int .i64 A0) u := fun u => by rw [run_mnS, hA0]
  have m2 : ∀ u, (Builtin.max_ #[27, 27] 27 #[.int .i64 1, .int .i64 A0]).run Try.prog u = .ok (.int .i64 A) u := fun u => by rw [run_mxS, ← hA0, hA]
  have m3 : ∀ u, (Builtin.min_ #[27, 27] 27 #[.int .i64 pa, .int .i64 4611686018427387904]).run Try.prog u = .ok (.int .i64 B0) u := fun u => by rw [run_mnS, hB0]
  have m4 : ∀ u, (Builtin.max_ #[27, 27] 27 #[.int .i64 1, .int .i64 B0]).run Try.prog u = .ok (.int .i64 B) u := fun u => by rw [run_mxS, ← hB0, hB]
  have m5 : ∀ u, (Builtin.min_ #[3, 3] 3 #[.int .i64 so, .int .i64 1048576]).run Try.prog u = .ok (.int .i64 C0) u := fun u => by rw [run_mn, hC0]
  have m6 : ∀ u, (Builtin.max_ #[3, 3] 3 #[.int .i64 0, .int .i64 C0]).run Try.prog u = .ok (.int .i64 C) u := fun u => by rw [run_mx, ← hC0, hC]
  rw [HN.out]
  clear hc hA hB hC0 hC hT hA0 hB0 HN hf
  go_enter Try.func13, Try.ntmps13
  refine post_hid fun Q hQ => ?_
  refine seq_hid fun R hR => ?_
  go_wp2_with (refine step_boxL (by rfl) 29 _ rfl cf'.toArray (by rfl) (fun u => by rfl) ?_; intro W1 g1 H1)
  rw [hR.out]
  clear hR
  have c10 : W1.cell? ⟨g1, 10, none⟩ = some (.int .i64 st) := by rw [H1.out.bk.cell 10, List.getElem?_toArray]; exact HC.out.c10
  have c11 : W1.cell? ⟨g1, 11, none⟩ = some (.int .i64 pa) := by rw [H1.out.bk.cell 11, List.getElem?_toArray]; exact HC.out.c11
  have c12 : W1.cell? ⟨g1, 12, none⟩ = some (.int .i64 so) := by rw [H1.out.bk.cell 12, List.getElem?_toArray]; exact HC.out.c12
  have HW1 : Hid (Below w.heap.size w W1 ∧ W1.heap.size = w.heap.size + 1) := ⟨H1.out.be, H1.out.sz⟩
  clear HC H1
  refine seq_hid fun R hR => ?_
  go_wp2_with fail
  refine world_hid fun W2 hW2 => ?_
  obtain ⟨p, hp⟩ : ∃ p, W1.heap.size = p := ⟨_, rfl⟩
  have H2 : Hid (Rp W2 p ⟨A, B, C, 0, 0, 0, 0, 0, 3, 0⟩ ∧ Below w.heap.size w W2 ∧ w.heap.size ≤ p) := by
    rw [hW2.out, ← hp]
    refine ⟨Bk.new _ _ _, HW1.out.1.alloc (by have := HW1.out.2; omega) _, by have := HW1.out.2; omega⟩
  rw [hp]
  have f3 : W2.frozen? ⟨p, 3, none⟩ = false := H2.out.1.frozen 3
  have c3 : W2.cell? ⟨p, 3, none⟩ = some (.int .i64 0) := H2.out.1.cell 3
  clear hW2 hp HW1 c10 c11 c12 m1 m2 m3 m4 m5 m6
  rw [hR.out]
  clear hR
  cases has
  · go_wp2_with fail
    rw [hQ.out]
    go_ret
    exact ⟨_, rfl, H2.out.1, H2.out.2.1, H2.out.2.2⟩
  · have H3 : Hid (Rp (W2.setCell ⟨p, 3, none⟩ (.int .i64 1)) p ⟨A, B, C, 1, 0, 0, 0, 0, 3, 0⟩ ∧ Below w.heap.size w (W2.setCell ⟨p, 3, none⟩ (.int .i64 1))) := ⟨H2.out.1.set (j := 3) _, H2.out.2.1.trans ((Below.refl _ _).setCell H2.out.2.2 _)⟩
    go_wp2_with fail
    refine (K3.out _).mono ?_
    rintro e W4 ⟨rfl, hb⟩
    have H4 : Hid (Rp W4 p ⟨A, B, C, 1, 0, 0, 0, 0, 3, 0⟩ ∧ Below w.heap.size w W4) := ⟨H3.out.1.kept hb, below_thru H3.out.2 hb⟩
    have f4 : W4.frozen? ⟨p, 4, none⟩ = false := H4.out.1.frozen 4
    have c4 : W4.cell? ⟨p, 4, none⟩ = some (.int .i64 0) := H4.out.1.cell 4
    clear hb f3 c3
    go_wp2_with fail
    rw [hQ.out]
    go_ret
    exact ⟨_, rfl, H4.out.1.set (j := 4) _, H4.out.2.trans ((Below.refl _ _).setCell H2.out.2.2 _), H2.out.2.2⟩
end Go.Proofs.Ytbagfnafkpbanaa
