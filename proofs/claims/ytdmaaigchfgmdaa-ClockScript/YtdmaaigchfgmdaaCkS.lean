/- clock: both clocks tell the same; both do the same. -/
import Derived.Test.YtdmaaigchfgmdaaCkO
import Derived.Test.YtdmaaigchfgmdaaCkJ
import Derived.Test.YtdmaaigchfgmdaaGW
namespace Go.Proofs.Ytdmaaigchfgmdaa
open Go Go.RowKit Go.Sort
set_option linter.unusedVariables false
/-- the program's clock and the reference's, in the same state -/
structure Wp (w u : World) (p q : Nat) (s : Cs) : Prop where
  c : Wc w u p s
  r : Rp u q s
  ne : p ≠ q
  lq : w.heap.size ≤ q
theorem Wp.thru {w u u' : World} {p q : Nat} {s : Cs} (h : Wp w u p q s) (hb : Below u.heap.size u u') : Wp w u' p q s := ⟨h.c.thru hb, Bk.kept h.r (hb.block _ (Bk.lt h.r)), h.ne, h.lq⟩
theorem Wp.both {w u u1 u2 : World} {p q : Nat} {s s' : Cs} (h : Wp w u p q s) (ok : OkC s') (h1 : Po u1 p s') (g1 : u.grownBy u1 (some p)) (h2 : Rp u2 q s') (g2 : u1.grownBy u2 (some q)) : Wp w u2 p q s' :=
  ⟨(h.c.mod ok h1 g1).other g2 h.lq h.ne, h2, h.ne, h.lq⟩
theorem Wp.rest {w u u1 : World} {p q : Nat} {s : Cs} (h : Wp w u p q s) (g1 : u.grownBy u1 (some p)) : Rp u1 q s := Bk.kept h.r (g1.block _ (Bk.lt h.r) (fun e => h.ne (Option.some.inj e).symm))
theorem conv_date (E A : Int) (w : World) : Calls Try.prog 18 #[.agg #[.int .i64 E, .int .u64 A]] w fun e w' => e = .returned (.agg #[.int .i64 E, .int .u64 A]) ∧ Below w.heap.size w w' := by
  go_enter Try.func18, Try.ntmps18
  refine post_hid fun Q hQ => ?_
  refine seq_hid fun R hR => ?_
  go_wp2_with (first
    | (refine step_boxL (by rfl) 25 _ rfl #[.int .i64 E, .int .u64 A] (by rfl) (fun u => by rfl) ?_; intro W1 g1 H1)
    | (refine step_alL (by rfl) 43 rfl #[.int .i64 0, .int .u64 0] (fun u => by kernel_rfl) ?_; intro W2 g2 H2))
  rw [hR.out]
  clear hR
  have c0 : W2.cell? ⟨g1, 0, none⟩ = some (.int .i64 E) := (H2.out.other H1.out.bk).cell 0
  have c1 : W2.cell? ⟨g1, 1, none⟩ = some (.int .u64 A) := (H2.out.other H1.out.bk).cell 1
  go_wp2_with (refine step_stL (by rfl) _ _ rfl g2 #[.int .i64 E, .int .u64 A] (by rfl) (by rfl) #[.int .i64 0, .int .u64 0] (by kernel_rfl) rfl (by simp [Value.oneCell']) H2.out.bk ?_; intro W4 H4)
  rw [hQ.out]
  refine bodyPost_ret (v := .agg #[.int .i64 E, .int .u64 A]) (results_cell_row Try.results18 _ _ g2 _ _ (0, 0) _ (by rfl) H4.out.bk Try.underlying43 rfl (by kernel_rfl)) rfl ⟨rfl, ?_⟩
  exact Below.grown (below_thru H1.out.be H2.out.be) H4.out.gr (below_thru H1.out.be H2.out.be).size (fun k hk => by injection hk with hk; have := H2.out.at'; have := H1.out.sz; omega)
set_option maxRecDepth 20000 in
set_option maxHeartbeats 2000000 in
theorem told_any {w u : World} {p q : Nat} {s : Cs} (h : Wp w u p q s) : Calls Try.prog 19 #[.pointer (some ⟨p, 0, none⟩), .pointer (some ⟨q, 0, none⟩)] u fun e w' => e = .returned (.bool true) ∧ Wp w w' p q s := by
  have HP : Hid (Wp w u p q s) := h
  obtain ⟨A, hA⟩ : ∃ A, atI (s.x + s.e) = A := ⟨_, rfl⟩
  obtain ⟨E, hE⟩ : ∃ A, eraI (s.x + s.e) = A := ⟨_, rfl⟩
  obtain ⟨T, hT⟩ : ∃ A, atI s.x = A := ⟨_, rfl⟩
  have HA : Hid (atI (s.x + s.e) = A ∧ eraI (s.x + s.e) = E ∧ atI s.x = T) := ⟨hA, hE, hT⟩
  clear h hA hE hT
  go_enter Try.func19, Try.ntmps19
  refine post_hid fun Q hQ => ?_
  go_upto_region 1 with fail
  refine wp_region_grown (by kernel_rfl) (by kernel_rfl) ?_
  intro C hC hG
  have al : Hid (∀ v, C v → Po v p s ∧ Rp v q s) := fun v hv => ⟨(HP.out.thru (hC v hv)).c.po, (HP.out.thru (hC v hv)).r⟩
  have q1 : Hid (∀ v, C v → v.cell? ⟨q, 1, none⟩ = some (.int .u64 T)) := fun v hv => by rw [← HA.out.2.2]; exact (al.out v hv).2.cell 1
  have q2 : Hid (∀ v, C v → v.cell? ⟨q, 2, none⟩ = some (.int .i64 s.e)) := fun v hv => (al.out v hv).2.cell 2
  have q3 : Hid (∀ v, C v → v.cell? ⟨q, 3, none⟩ = some (.int .i64 s.r)) := fun v hv => (al.out v hv).2.cell 3
  have q4 : Hid (∀ v, C v → v.cell? ⟨q, 4, none⟩ = some (.int .i64 s.f)) := fun v hv => (al.out v hv).2.cell 4
  have q7 : Hid (∀ v, C v → v.cell? ⟨q, 7, none⟩ = some (.int .i64 s.n)) := fun v hv => (al.out v hv).2.cell 7
  have Z1 : Hid (∀ v, C v → Calls Try.prog 12 #[.pointer (some ⟨p, 0, none⟩)] v fun e w' => e = .returned (.int .u64 A) ∧ C w') := fun v hv => (now_any p s v (al.out v hv).1 HP.out.c.ok).mono fun e w' ⟨h1, h2⟩ => ⟨by rw [h1, HA.out.1], hG v w' hv h2⟩
  have Z2 : Hid (∀ v, C v → Calls Try.prog 33 #[.pointer (some ⟨q, 0, none⟩)] v fun e w' => e = .returned (.int .u64 A) ∧ C w') := fun v hv => (rnow_any q s v (al.out v hv).2 HP.out.c.ok).mono fun e w' ⟨h1, h2⟩ => ⟨by rw [h1, HA.out.1], hG v w' hv h2⟩
  have Z3 : Hid (∀ v, C v → Calls Try.prog 14 #[.pointer (some ⟨p, 0, none⟩)] v fun e w' => e = .returned (.agg #[.int .i64 E, .int .u64 A]) ∧ C w') := fun v hv => (date_any p s v (al.out v hv).1 HP.out.c.ok).mono fun e w' ⟨h1, h2⟩ => ⟨by rw [h1, ← HA.out.1, ← HA.out.2.1]; rfl, hG v w' hv h2⟩
  have Z4 : Hid (∀ v, C v → Calls Try.prog 34 #[.pointer (some ⟨q, 0, none⟩)] v fun e w' => e = .returned (.agg #[.int .i64 E, .int .u64 A]) ∧ C w') := fun v hv => (rdate_any q s v (al.out v hv).2 HP.out.c.ok).mono fun e w' ⟨h1, h2⟩ => ⟨by rw [h1, ← HA.out.1, ← HA.out.2.1]; rfl, hG v w' hv h2⟩
  have Z5 : Hid (∀ v, C v → Calls Try.prog 18 #[.agg #[.int .i64 E, .int .u64 A]] v fun e w' => e = .returned (.agg #[.int .i64 E, .int .u64 A]) ∧ C w') := fun v hv => (conv_date E A v).mono fun e w' ⟨h1, h2⟩ => ⟨h1, hG v w' hv h2⟩
  have Z6 : Hid (∀ v, C v → Calls Try.prog 13 #[.pointer (some ⟨p, 0, none⟩)] v fun e w' => e = .returned (.int .u64 T) ∧ C w') := fun v hv => (true_any p s v (al.out v hv).1).mono fun e w' ⟨h1, h2⟩ => ⟨by rw [h1, HA.out.2.2], by rw [h2]; exact hv⟩
  have Y0 : Hid (∀ v, C v → Calls Try.prog 11 #[.pointer (some ⟨p, 0, none⟩)] v fun e w' => e = .returned (.int .i64 s.e) ∧ C w') := fun v hv => (error_any p s v (al.out v hv).1).mono fun e w' ⟨h1, h2⟩ => ⟨h1, by rw [h2]; exact hv⟩
  have Y1 : Hid (∀ v, C v → Calls Try.prog 35 #[.pointer (some ⟨p, 0, none⟩)] v fun e w' => e = .returned (.int .i64 s.f) ∧ C w') := fun v hv => (freq_any p s v (al.out v hv).1).mono fun e w' ⟨h1, h2⟩ => ⟨h1, by rw [h2]; exact hv⟩
  have Y2 : Hid (∀ v, C v → Calls Try.prog 36 #[.pointer (some ⟨p, 0, none⟩)] v fun e w' => e = .returned (.int .i64 s.r) ∧ C w') := fun v hv => (crate_any p s v (al.out v hv).1).mono fun e w' ⟨h1, h2⟩ => ⟨h1, by rw [h2]; exact hv⟩
  have Y3 : Hid (∀ v, C v → Calls Try.prog 15 #[.pointer (some ⟨p, 0, none⟩)] v fun e w' => e = .returned (.int .i64 s.n) ∧ C w') := fun v hv => (seconds_any p s v (al.out v hv).1).mono fun e w' ⟨h1, h2⟩ => ⟨h1, by rw [h2]; exact hv⟩
  refine QW.out ?_
  repeat (first
    | (refine qa_valW (by rfl) ?_; apply Exists.intro; refine ⟨fun u hu => ?_, ?_⟩; ((have e1 := q1.out u hu); (have e2 := q2.out u hu); (have e3 := q3.out u hu); (have e4 := q4.out u hu); (have e7 := q7.out u hu); go_simp; exact rfl); try go_simp)
    | (refine qa_callW (by rfl) 12 _ _ ?_ (fun u hu => Z1.out u hu) ?_; (focus (intro u hu; go_simp; first | done | exact rfl)); try go_simp)
    | (refine qa_callW (by rfl) 33 _ _ ?_ (fun u hu => Z2.out u hu) ?_; (focus (intro u hu; go_simp; first | done | exact rfl)); try go_simp)
    | (refine qa_callW (by rfl) 14 _ _ ?_ (fun u hu => Z3.out u hu) ?_; (focus (intro u hu; go_simp; first | done | exact rfl)); try go_simp)
    | (refine qa_callW (by rfl) 34 _ _ ?_ (fun u hu => Z4.out u hu) ?_; (focus (intro u hu; go_simp; first | done | exact rfl)); try go_simp)
    | (refine qa_callW (by rfl) 18 _ _ ?_ (fun u hu => Z5.out u hu) ?_; (focus (intro u hu; go_simp; first | done | exact rfl)); try go_simp)
    | (refine qa_callW (by rfl) 13 _ _ ?_ (fun u hu => Z6.out u hu) ?_; (focus (intro u hu; go_simp; first | done | exact rfl)); try go_simp)
    | (refine qa_callW (by rfl) 11 _ _ ?_ (fun u hu => Y0.out u hu) ?_; (focus (intro u hu; go_simp; first | done | exact rfl)); try go_simp)
    | (refine qa_callW (by rfl) 35 _ _ ?_ (fun u hu => Y1.out u hu) ?_; (focus (intro u hu; go_simp; first | done | exact rfl)); try go_simp)
    | (refine qa_callW (by rfl) 36 _ _ ?_ (fun u hu => Y2.out u hu) ?_; (focus (intro u hu; go_simp; first | done | exact rfl)); try go_simp)
    | (refine qa_callW (by rfl) 15 _ _ ?_ (fun u hu => Y3.out u hu) ?_; (focus (intro u hu; go_simp; first | done | exact rfl)); try go_simp)
    | (refine qw_step (fun K hK => ?_); go_simp; refine hK _ ?_; clear hK K))
  refine qw_nil ?_
  intro v hv
  have H9 : Hid (Wp w v p q s) := HP.out.thru hv
  clear al q1 q2 q3 q4 q7 Z1 Z2 Z3 Z4 Z5 Z6 Y0 Y1 Y2 Y3 hC hG hv
  go_wp2_with fail
  rw [hQ.out]
  go_ret
  exact ⟨rfl, H9.out⟩
end Go.Proofs.Ytdmaaigchfgmdaa
