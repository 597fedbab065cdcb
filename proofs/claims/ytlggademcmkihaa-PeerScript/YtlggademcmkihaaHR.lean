/- Told, Clear, New, toldBy, opensTalk, Header of the program. -/
import Derived.Test.YtlggademcmkihaaHQ
namespace Go.Proofs.Ytlggademcmkihaa
open Go Go.RowKit
def tdZ : Array Value := #[.int .i64 0, .int .i64 0, .int .i64 0, .int .i64 0, .int .i64 0, .int .i64 0, .int .u32 0, .int .u64 0]
theorem tdL_one (t : Td) : (tdL t).toArray.all (·.oneCell') = true := by kernel_rfl
theorem psL_one (t : Ps) : (psL t).toArray.all (·.oneCell') = true := by kernel_rfl
theorem pkC_one (t : Pk) : (pkC t).toArray.all (·.oneCell') = true := by kernel_rfl
theorem smL_one (t : Smp) : (smL t).toArray.all (·.oneCell') = true := by kernel_rfl
set_option maxRecDepth 20000 in
set_option maxHeartbeats 400000 in
theorem told_any (p : Nat) (s : Ps) (w : World) (h : Pm w p s) : Calls Try.prog 19 #[.pointer (some ⟨p, 0, none⟩)] w fun e w' => e = .returned (.agg (tdL s.t).toArray) ∧ Below w.heap.size w w' := by
  have HP : Hid (Pm w p s) := h
  clear h
  go_enter Try.func19, Try.ntmps19
  refine post_hid fun Q hQ => ?_
  refine seq_hid fun R hR => ?_
  go_wp2
  refine world_hid fun W hW => ?_
  have hB : Below w.heap.size w W := by rw [hW.out]; exact (Below.refl _ _).alloc (Nat.le_refl _) _
  have HZ : Hid (Bk w.heap.size W tdZ 60) := by show Bk _ _ _ _; rw [hW.out]; exact Bk.new _ _ _
  have HT : Hid (∀ j u, (tdL s.t)[j]? = some u → W.cell? ((⟨p, 9, none⟩ : Addr).add j) = some u) := (HP.out.kept (hB.block p HP.out.lt)).told
  have HB : Hid (Below w.heap.size w W) := hB
  clear hW hB HP
  rw [hR.out]
  clear hR
  go_wp2_with (first
    | (refine step_ldat 60 _ rfl rfl ⟨p, 9, none⟩ (by rfl) (tdL s.t) _ Try.underlying60 rfl (by kernel_rfl) HT.out ?_)
    | (refine step_stR (by rfl) _ _ rfl w.heap.size (tdL s.t).toArray (by rfl) (by rfl) tdZ (by kernel_rfl) (by kernel_rfl) (tdL_one _) HZ.out ?_))
  rw [hQ.out]
  exact bodyPost_ret (v := .agg (tdL s.t).toArray) (results_cell_row Try.results19 _ _ w.heap.size _ _ (0, 0) _ (by rfl) (setRow_heap _ _ _ _ _ _ HZ.out) Try.underlying60 rfl (by kernel_rfl)) rfl ⟨rfl, below_row HB.out (Nat.le_refl _) _⟩
set_option maxRecDepth 20000 in
set_option maxHeartbeats 400000 in
theorem toldBy_any (q : Pk) (w : World) : Calls Try.prog 75 #[.agg (pkC q).toArray] w fun e w' => e = .returned (.agg (tdL (tdO q)).toArray) ∧ Below w.heap.size w w' := by
  go_enter Try.func75, Try.ntmps75
  refine post_hid fun Q hQ => ?_
  refine seq_hid fun R hR => ?_
  go_wp2
  refine world_hid fun W hW => ?_
  have hB : Below w.heap.size w W := by rw [hW.out]; exact ((Below.refl _ _).alloc (Nat.le_refl _) _).alloc (by simp) _
  have hK : Kb W w.heap.size q := by rw [hW.out]; exact (Kb.new w q).kept (((Below.refl _ _).alloc (Nat.le_refl _) _).block _ (by simp))
  have HZ : Hid (Bk (w.heap.size + 1) W tdZ 60) := by
    show Bk _ _ _ _
    rw [hW.out]
    have := Bk.new (w.alloc (.cells (pkC q).toArray 44)) tdZ 60
    rw [size_alloc1] at this
    exact this
  have k0 := hK.leap
  have k1 := hK.str
  have k2 := hK.poll
  have k3 := hK.prec
  have k4 := hK.del
  have k5 := hK.dis
  have k6 := hK.rid
  have k7 := hK.ref
  have HB : Hid (Below w.heap.size w W) := hB
  clear hW hB hK
  rw [hR.out]
  clear hR
  go_wp2_with (refine step_stR (by rfl) _ _ rfl (w.heap.size + 1) (tdL (tdO q)).toArray (by rfl) (by rfl) tdZ (by kernel_rfl) (by kernel_rfl) (tdL_one _) HZ.out ?_)
  rw [hQ.out]
  exact bodyPost_ret (v := .agg (tdL (tdO q)).toArray) (results_cell_row Try.results75 _ _ (w.heap.size + 1) _ _ (0, 0) _ (by rfl) (setRow_heap _ _ _ _ _ _ HZ.out) Try.underlying60 rfl (by kernel_rfl)) rfl ⟨rfl, below_row HB.out (Nat.le_succ _) _⟩
set_option maxRecDepth 20000 in
set_option maxHeartbeats 400000 in
theorem opens_any (p : Nat) (s : Ps) (q : Pk) (a : Bool) (w : World) (h : Pm w p s) : Calls Try.prog 74 #[.pointer (some ⟨p, 0, none⟩), .agg (pkC q).toArray, .bool a] w fun e w' => e = .returned (.bool (opB s q a)) ∧ Below w.heap.size w w' := by
  have HP : Hid (Pm w p s) := h
  clear h
  obtain ⟨B, hB⟩ : ∃ B, B = opB s q a := ⟨_, rfl⟩
  rw [← hB]
  go_enter Try.func74, Try.ntmps74
  refine post_hid fun Q hQ => ?_
  refine seq_hid fun R hR => ?_
  go_wp2
  refine world_hid fun W hW => ?_
  have hb : Below w.heap.size w W := by rw [hW.out]; exact (Below.refl _ _).alloc (Nat.le_refl _) _
  have hK : Kb W w.heap.size q := by rw [hW.out]; exact Kb.new _ _
  have hP := HP.out.kept (hb.block p HP.out.lt)
  have HB : Hid (Below w.heap.size w W) := hb
  have HT : Hid (Calls Try.prog 72 #[.pointer (some ⟨p, 0, none⟩), .bool a] W fun e w' => e = .returned (.bool (trB s a)) ∧ w' = W) := trusts_any p s a W hP
  have k0 := hK.mode
  have k1 := hK.org
  have k2 := hP.heard
  clear hW hb hK hP HP
  rw [hR.out]
  clear hR
  obtain ⟨tr, htr⟩ : ∃ tr, trB s a = tr := ⟨_, rfl⟩
  obtain ⟨hd, hhd⟩ : ∃ hd, s.heard = hd := ⟨_, rfl⟩
  obtain ⟨md, hmd⟩ : ∃ md, q.mode = md := ⟨_, rfl⟩
  obtain ⟨og, hog⟩ : ∃ og, q.org = og := ⟨_, rfl⟩
  rw [htr] at HT
  rw [hhd] at k2
  rw [hmd] at k0
  rw [hog] at k1
  have HE : Hid (B = (decide (md = 1 ∨ md = 2) && (decide (og = 0) && (tr && !hd)))) := by show B = _; rw [hB, ← hmd, ← hog, ← htr, ← hhd]; rfl
  clear hB htr hhd hmd hog
  cases tr <;> cases hd
  all_goals
    go_wp2_with (go_at_call 72; refine (HT.out).mono ?_; rintro e w' ⟨rfl, rfl⟩)
    all_goals
      rw [hQ.out]
      go_ret
      exact ⟨ret_bool' (by rw [HE.out]; simp_all), HB.out⟩
end Go.Proofs.Ytlggademcmkihaa
