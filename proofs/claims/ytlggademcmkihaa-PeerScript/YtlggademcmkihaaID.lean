/- does, the other steps. -/
import Derived.Test.YtlggademcmkihaaIB
namespace Go.Proofs.Ytlggademcmkihaa
open Go Go.RowKit Go.Sort
set_option maxRecDepth 20000 in
set_option maxHeartbeats 1000000 in
theorem does_3 (p o : Nat) (s : Ps) (x : Stp) (org : Int) (w : World) (h : Pm w p s) (ho : Bk o w #[.int .u64 org] 23) (hne : p ≠ o) (hs : okS s) (hx : okX x) (ho64 : U64 org) (hk : x.k = 3) : Calls Try.prog 13 #[.pointer (some ⟨p, 0, none⟩), .agg (spC x).toArray, .pointer (some ⟨o, 0, none⟩)] w fun e w' => e = .returned (.tuple #[.agg (pkC (dsP s x)).toArray, .bool (dsB s x), .int .i64 (dsV s x org), .agg (smL (dsM s x org)).toArray]) ∧ Pm w' p (dsS s x org) ∧ Bk o w' #[.int .u64 (dsO s x org)] 23 ∧ G2 p o w w' := by
  have HD : Hid (DW w w p o s org []) := ⟨h, ho, hne, Bk.lt h, ho.lt, G2.refl _ _ _, fun b hb => by cases hb⟩
  have HS : Hid (okS s ∧ okX x) := ⟨hs, hx⟩
  clear h ho hne hs hx
  go_enter Try.func13, Try.ntmps13
  refine post_hid fun Q hQ => ?_
  refine seq_hid fun R hR => ?_
  go_wp2_with fail
  refine world_hid fun W hW => ?_
  have HD : Hid (DW w W p o s org [(w.heap.size + 1 + 1, smL sm0, 48), (w.heap.size + 1, pkC pk0, 44), (w.heap.size, spC x, 46)]) := by
    rw [hW.out]
    have h1 := HD.out.push (spC x) 46
    have h2 := h1.push (pkC pk0) 44
    have h3 := h2.push (smL sm0) 48
    simp only [size_alloc1] at h2 h3
    exact h3
  clear hW
  rw [hR.out]
  clear hR
  obtain ⟨yq, hy⟩ : ∃ yq : Pk, yq = { x.q with org := org } := ⟨_, rfl⟩
  have HQ : Hid (okP yq) := by rw [hy]; exact HS.out.2.q.org' org ho64
  obtain ⟨V, hV⟩ : ∃ V, vdI s yq x.a = V := ⟨_, rfl⟩
  obtain ⟨m, hm⟩ : ∃ m, hrS s yq x.t x.a = m := ⟨_, rfl⟩
  obtain ⟨s2, hs2⟩ : ∃ s2, hrP s yq x.t x.a = s2 := ⟨_, rfl⟩
  have HH : Hid (∀ u, Pm u p s → Calls Try.prog 29 #[.pointer (some ⟨p, 0, none⟩), .agg (pkC yq).toArray, .int .u64 x.t, .bool x.a] u fun e w' => e = .returned (.tuple #[.int .i64 V, .agg (smL m).toArray]) ∧ Pm w' p s2 ∧ u.grownBy w' (some p)) := fun u hu => by
    rw [← hV, ← hm, ← hs2]; exact hear_any p s yq x.t x.a u hu HS.out.1 HQ.out
  have HE : Hid (dsP s x = pk0 ∧ dsB s x = false ∧ dsV s x org = V ∧ dsM s x org = m ∧ dsS s x org = s2 ∧ dsO s x org = org) := by
    unfold dsP dsB dsV dsM dsS dsO
    rw [hk]
    rw [hy] at hV hm hs2
    exact ⟨rfl, rfl, hV, hm, hs2, rfl⟩
  clear hV hm hs2
  have HX : Hid (Xb W w.heap.size x) := (HD.out.bl (w.heap.size, spC x, 46) (by simp)).1
  have x0 : W.cell? ⟨w.heap.size, 0, none⟩ = some (.int .i64 3) := by rw [← hk]; exact HX.out.k
  have x24 : W.cell? ⟨w.heap.size, 24, none⟩ = some (.int .u64 x.q.org) := Bk.cell HX.out 24
  have f24 : W.frozen? ⟨w.heap.size, 24, none⟩ = false := Bk.frozen HX.out 24
  have o0 : W.cell? ⟨o, 0, none⟩ = some (.int .u64 org) := HD.out.og.cell 0
  have x13 : W.cell? ⟨w.heap.size, 13, none⟩ = some (.int .u64 x.t) := HX.out.t
  have x31 : W.cell? ⟨w.heap.size, 31, none⟩ = some (.bool x.a) := HX.out.a
  clear hk ho64
  have HD2 : Hid (DW w (W.setCell ⟨w.heap.size, 24, none⟩ (.int .u64 org)) p o s org [(w.heap.size + 1 + 1, smL sm0, 48), (w.heap.size + 1, pkC pk0, 44), (w.heap.size, spC ⟨x.k, x.y, x.poll, x.t, yq, x.a⟩, 46)]) := by
    refine DW.own (cs' := spC ⟨x.k, x.y, x.poll, x.t, yq, x.a⟩) (L := [(w.heap.size + 1 + 1, smL sm0, 48), (w.heap.size + 1, pkC pk0, 44)]) (L' := []) HD.out ?_ (grownBy_set _ ⟨w.heap.size, 24, none⟩ _) ?_
    · intro b hb
      simp at hb
      rcases hb with rfl | rfl <;> first | (simp; done) | (simp; omega)
    · rw [hy]; exact Bk.set HX.out (j := 24) (.int .u64 org)
  have HP : Hid (∀ j u, (pkC yq)[j]? = some u → (W.setCell ⟨w.heap.size, 24, none⟩ (.int .u64 org)).cell? ((⟨w.heap.size, 14, none⟩ : Addr).add j) = some u) := Xb.pk (x := ⟨x.k, x.y, x.poll, x.t, yq, x.a⟩) (HD2.out.bl (w.heap.size, spC ⟨x.k, x.y, x.poll, x.t, yq, x.a⟩, 46) (by simp)).1
  clear hy
  go_wp2_with (first
    | (refine step_ldat 44 _ rfl rfl ⟨w.heap.size, 14, none⟩ (by rfl) (pkC yq) _ Try.underlying44 rfl (by kernel_rfl) HP.out ?_)
    | (go_at_call 29; refine (HH.out _ HD2.out.pm).mono ?_; rintro e w5 ⟨rfl, hp5, hg5⟩; have HD5 : Hid _ := HD2.out.grown hp5 hg5; clear hp5 hg5)
    | (refine step_own (by rfl) _ _ rfl w5.heap.size (smL m) (by rfl) (by rfl) [] _ (HD5.out.push (smL sm0) 48) ?_ (by kernel_rfl) rfl (smL_one _) ?_; (have l5 := HD5.out.g2.size; intro b hb; simp at hb; (rcases hb with rfl | rfl | rfl <;> (have l6 := (HD5.out.bl _ (by first | exact List.mem_cons_self .. | exact List.mem_cons_of_mem _ (List.mem_cons_self ..) | exact List.mem_cons_of_mem _ (List.mem_cons_of_mem _ (List.mem_cons_self ..)))).1.lt; simp at l6 ⊢; omega))); intro w6 hd6; have HD6 : Hid _ := hd6; clear hd6))
  obtain ⟨b5, hb5⟩ : ∃ b, w5.heap.size = b := ⟨_, rfl⟩
  rw [hb5] at HD6 ⊢
  have Hb5 : Hid (w.heap.size + 1 + 1 < b5) := by
    have l6 := (HD5.out.bl (w.heap.size + 1 + 1, smL sm0, 48) (by simp)).1.lt
    simp only at l6
    show _ < _
    omega
  clear hb5 HD5 HP HX x0 x13 x31 HH x24 f24 o0
  refine wp_region_lastW (by kernel_rfl) (by kernel_rfl) (by rfl) (by kernel_rfl) ?_
  simp only [idleLast, idle]
  repeat (first
    | (refine qw_noop (by rfl) _ _ rfl (w.heap.size + 1) (pkC pk0) (by rfl) (by rfl) (by kernel_rfl) (by simp [pkC, pk0, Value.oneCell']) (fun u hu => ?_) ?_; (obtain ⟨nu, rfl⟩ := hu; exact (HD6.out.bl (w.heap.size + 1, pkC pk0, 44) (by simp)).1))
    | (refine qw_ld (by rfl) 48 _ rfl ⟨b5, 0, none⟩ (by rfl) (smL m) _ Try.underlying48 rfl (by kernel_rfl) (fun u hu => ?_) ?_; (obtain ⟨nu, rfl⟩ := hu; exact HD6.out.at b5 (smL m) 48 (by simp)))
    | (refine qw_step (fun K hK => ?_); go_simp; refine hK _ ?_; clear hK K))
  refine qw_nil ?_
  intro W7 hw'
  obtain ⟨nq, hw''⟩ := hw'
  have HD7 : Hid (DW w W7 p o s2 org [(b5, smL m, 48), (w.heap.size + 1 + 1, smL sm0, 48), (w.heap.size + 1, pkC pk0, 44), (w.heap.size, spC ⟨x.k, x.y, x.poll, x.t, yq, x.a⟩, 46)]) := by rw [hw'']; exact HD6.out.drewN nq
  clear hw''
  refine wpOp_own _ (by rfl) rfl _ _ rfl (w.heap.size + 1 + 1) (smL m) (by rfl) (by rfl) [(b5, smL m, 48)] [(w.heap.size + 1, pkC pk0, 44), (w.heap.size, spC ⟨x.k, x.y, x.poll, x.t, yq, x.a⟩, 46)] HD7.out ?_ (by kernel_rfl) rfl (smL_one _) ?_
  · have l5 := Hb5.out
    intro b hb
    simp at hb
    rcases hb with rfl | rfl | rfl <;> first | (simp; done) | (simp; omega)
  intro W8 hd8
  have HD8 : Hid _ := hd8
  clear hd8 HD6 HD7
  go_wp2_with fail
  rw [hQ.out]
  rw [HE.out.1, HE.out.2.1, HE.out.2.2.1, HE.out.2.2.2.1, HE.out.2.2.2.2.1, HE.out.2.2.2.2.2]
  refine bodyPost_ret (v := .tuple #[.agg (pkC pk0).toArray, .bool false, .int .i64 V, .agg (smL m).toArray]) (results_4 Try.results13 _ _ (w.heap.size + 1) (w.heap.size + 1 + 1) _ _ (pkC pk0) (smL m) _ _ _ _ (by rfl) (by rfl) (by rfl) (by rfl) (HD8.out.bl (w.heap.size + 1, pkC pk0, 44) (by simp)).1 (HD8.out.bl (w.heap.size + 1 + 1, smL m, 48) (by simp)).1 Try.underlying44 rfl (by kernel_rfl) Try.underlying48 rfl (by kernel_rfl)) rfl ⟨rfl, HD8.out.pm, HD8.out.og, HD8.out.g2⟩
set_option maxRecDepth 20000 in
set_option maxHeartbeats 1000000 in
theorem does_2 (p o : Nat) (s : Ps) (x : Stp) (org : Int) (w : World) (h : Pm w p s) (ho : Bk o w #[.int .u64 org] 23) (hne : p ≠ o) (hs : okS s) (hx : okX x) (hk : x.k = 2) : Calls Try.prog 13 #[.pointer (some ⟨p, 0, none⟩), .agg (spC x).toArray, .pointer (some ⟨o, 0, none⟩)] w fun e w' => e = .returned (.tuple #[.agg (pkC (dsP s x)).toArray, .bool (dsB s x), .int .i64 (dsV s x org), .agg (smL (dsM s x org)).toArray]) ∧ Pm w' p (dsS s x org) ∧ Bk o w' #[.int .u64 (dsO s x org)] 23 ∧ G2 p o w w' := by
  have HD : Hid (DW w w p o s org []) := ⟨h, ho, hne, Bk.lt h, ho.lt, G2.refl _ _ _, fun b hb => by cases hb⟩
  have HS : Hid (okS s ∧ okX x) := ⟨hs, hx⟩
  clear h ho hne hs hx
  go_enter Try.func13, Try.ntmps13
  refine post_hid fun Q hQ => ?_
  refine seq_hid fun R hR => ?_
  go_wp2_with fail
  refine world_hid fun W hW => ?_
  have HD : Hid (DW w W p o s org [(w.heap.size + 1 + 1, smL sm0, 48), (w.heap.size + 1, pkC pk0, 44), (w.heap.size, spC x, 46)]) := by
    rw [hW.out]
    have h1 := HD.out.push (spC x) 46
    have h2 := h1.push (pkC pk0) 44
    have h3 := h2.push (smL sm0) 48
    simp only [size_alloc1] at h2 h3
    exact h3
  clear hW
  rw [hR.out]
  clear hR
  have HX : Hid (Xb W w.heap.size x) := (HD.out.bl (w.heap.size, spC x, 46) (by simp)).1
  have HE : Hid (dsP s x = pk0 ∧ dsB s x = false ∧ dsV s x org = 0 ∧ dsM s x org = sm0 ∧ dsS s x org = clr s ∧ dsO s x org = org) := by
    unfold dsP dsB dsV dsM dsS dsO
    rw [hk]
    exact ⟨rfl, rfl, rfl, rfl, rfl, rfl⟩
  have x0 : W.cell? ⟨w.heap.size, 0, none⟩ = some (.int .i64 2) := by rw [← hk]; exact HX.out.k
  clear hk
  go_wp2_with (first
    | (go_at_call 34; refine (clear_any p s _ HD.out.pm).mono ?_; rintro e w5 ⟨rfl, hp5, hg5⟩; have HD5 : Hid _ := HD.out.grown hp5 hg5; clear hp5 hg5)
    | (refine step_own (by rfl) _ _ rfl (w.heap.size + 1) (pkC pk0) (by rfl) (by rfl) [(w.heap.size + 1 + 1, smL sm0, 48)] _ HD5.out ?_ (by kernel_rfl) rfl (pkC_one _) ?_; (intro b hb; simp at hb; rcases hb with rfl | rfl <;> first | (simp; done) | (simp; omega)); intro w6 hd6; have HD6 : Hid _ := hd6; clear hd6)
    | (refine step_own (by rfl) _ _ rfl (w.heap.size + 1 + 1) (smL sm0) (by rfl) (by rfl) [] _ HD6.out ?_ (by kernel_rfl) rfl (smL_one _) ?_; (intro b hb; simp at hb; rcases hb with rfl | rfl <;> first | (simp; done) | (simp; omega)); intro w7 hd7; have HD7 : Hid _ := hd7; clear hd7))
  rw [hQ.out]
  rw [HE.out.1, HE.out.2.1, HE.out.2.2.1, HE.out.2.2.2.1, HE.out.2.2.2.2.1, HE.out.2.2.2.2.2]
  refine bodyPost_ret (v := .tuple #[.agg (pkC pk0).toArray, .bool false, .int .i64 0, .agg (smL sm0).toArray]) (results_4 Try.results13 _ _ (w.heap.size + 1) (w.heap.size + 1 + 1) _ _ (pkC pk0) (smL sm0) _ _ _ _ (by rfl) (by rfl) (by rfl) (by rfl) (HD7.out.bl (w.heap.size + 1, pkC pk0, 44) (by simp)).1 (HD7.out.bl (w.heap.size + 1 + 1, smL sm0, 48) (by simp)).1 Try.underlying44 rfl (by kernel_rfl) Try.underlying48 rfl (by kernel_rfl)) rfl ⟨rfl, HD7.out.pm, HD7.out.og, HD7.out.g2⟩
set_option maxRecDepth 20000 in
set_option maxHeartbeats 1000000 in
theorem does_x (p o : Nat) (s : Ps) (x : Stp) (org : Int) (w : World) (h : Pm w p s) (ho : Bk o w #[.int .u64 org] 23) (hne : p ≠ o) (hs : okS s) (hx : okX x) (k0 : ¬ x.k = 0) (k1 : ¬ x.k = 1) (k2 : ¬ x.k = 2) (k3 : ¬ x.k = 3) : Calls Try.prog 13 #[.pointer (some ⟨p, 0, none⟩), .agg (spC x).toArray, .pointer (some ⟨o, 0, none⟩)] w fun e w' => e = .returned (.tuple #[.agg (pkC (dsP s x)).toArray, .bool (dsB s x), .int .i64 (dsV s x org), .agg (smL (dsM s x org)).toArray]) ∧ Pm w' p (dsS s x org) ∧ Bk o w' #[.int .u64 (dsO s x org)] 23 ∧ G2 p o w w' := by
  have HD : Hid (DW w w p o s org []) := ⟨h, ho, hne, Bk.lt h, ho.lt, G2.refl _ _ _, fun b hb => by cases hb⟩
  have HS : Hid (okS s ∧ okX x) := ⟨hs, hx⟩
  clear h ho hne hs hx
  go_enter Try.func13, Try.ntmps13
  refine post_hid fun Q hQ => ?_
  refine seq_hid fun R hR => ?_
  go_wp2_with fail
  refine world_hid fun W hW => ?_
  have HD : Hid (DW w W p o s org [(w.heap.size + 1 + 1, smL sm0, 48), (w.heap.size + 1, pkC pk0, 44), (w.heap.size, spC x, 46)]) := by
    rw [hW.out]
    have h1 := HD.out.push (spC x) 46
    have h2 := h1.push (pkC pk0) 44
    have h3 := h2.push (smL sm0) 48
    simp only [size_alloc1] at h2 h3
    exact h3
  clear hW
  rw [hR.out]
  clear hR
  have HX : Hid (Xb W w.heap.size x) := (HD.out.bl (w.heap.size, spC x, 46) (by simp)).1
  have HE : Hid (dsP s x = pk0 ∧ dsB s x = false ∧ dsV s x org = 0 ∧ dsM s x org = sm0 ∧ dsS s x org = s ∧ dsO s x org = org) := by
    unfold dsP dsB dsV dsM dsS dsO
    refine ⟨if_neg k0, if_neg k0, ?_, ?_, ?_, if_neg (fun h => k0 h.1)⟩
    · rw [if_neg k0, if_neg k3, if_neg k1]
    · rw [if_neg k0, if_neg k3, if_neg k1]
    · rw [if_neg k0, if_neg k3, if_neg k1, if_neg k2]
  have x0 : W.cell? ⟨w.heap.size, 0, none⟩ = some (.int .i64 x.k) := HX.out.k
  have HD5 : Hid _ := HD.out
  go_wp2_with (first
    | (refine step_own (by rfl) _ _ rfl (w.heap.size + 1) (pkC pk0) (by rfl) (by rfl) [(w.heap.size + 1 + 1, smL sm0, 48)] _ HD5.out ?_ (by kernel_rfl) rfl (pkC_one _) ?_; (intro b hb; simp at hb; rcases hb with rfl | rfl <;> first | (simp; done) | (simp; omega)); intro w6 hd6; have HD6 : Hid _ := hd6; clear hd6)
    | (refine step_own (by rfl) _ _ rfl (w.heap.size + 1 + 1) (smL sm0) (by rfl) (by rfl) [] _ HD6.out ?_ (by kernel_rfl) rfl (smL_one _) ?_; (intro b hb; simp at hb; rcases hb with rfl | rfl <;> first | (simp; done) | (simp; omega)); intro w7 hd7; have HD7 : Hid _ := hd7; clear hd7))
  rw [hQ.out]
  rw [HE.out.1, HE.out.2.1, HE.out.2.2.1, HE.out.2.2.2.1, HE.out.2.2.2.2.1, HE.out.2.2.2.2.2]
  refine bodyPost_ret (v := .tuple #[.agg (pkC pk0).toArray, .bool false, .int .i64 0, .agg (smL sm0).toArray]) (results_4 Try.results13 _ _ (w.heap.size + 1) (w.heap.size + 1 + 1) _ _ (pkC pk0) (smL sm0) _ _ _ _ (by rfl) (by rfl) (by rfl) (by rfl) (HD7.out.bl (w.heap.size + 1, pkC pk0, 44) (by simp)).1 (HD7.out.bl (w.heap.size + 1 + 1, smL sm0, 48) (by simp)).1 Try.underlying44 rfl (by kernel_rfl) Try.underlying48 rfl (by kernel_rfl)) rfl ⟨rfl, HD7.out.pm, HD7.out.og, HD7.out.g2⟩
end Go.Proofs.Ytlggademcmkihaa
