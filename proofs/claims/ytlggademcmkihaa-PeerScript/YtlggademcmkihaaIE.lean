/- does, a request. -/
import Derived.Test.YtlggademcmkihaaIB
namespace Go.Proofs.Ytlggademcmkihaa
open Go Go.RowKit Go.Sort
theorem DW.org {w W : World} {p o : Nat} {s : Ps} {org : Int} {L : List (Nat × List Value × TypeId)} (h : DW w W p o s org L) (y : Int) : DW w (W.setCell ⟨o, 0, none⟩ (.int .u64 y)) p o s y L := by
  have hk : ∀ k, k ≠ o → (W.setCell ⟨o, 0, none⟩ (.int .u64 y)).heap[k]? = W.heap[k]? := fun k hk => Below.heap_setCell _ _ _ _ (fun e => hk (by simpa using e))
  refine ⟨h.pm.kept (hk _ h.ne), h.og.set (j := 0) (.int .u64 y), h.ne, h.lp, h.lo, h.g2.trans ⟨rfl, rfl, rfl, by simp, fun k _ _ h2 => hk k h2⟩, fun b hb => ⟨(h.bl b hb).1.kept (hk _ (by have := (h.bl b hb).2; have := h.lo; omega)), (h.bl b hb).2⟩⟩
set_option maxRecDepth 20000 in
set_option maxHeartbeats 1000000 in
theorem does_0 (p o : Nat) (s : Ps) (x : Stp) (org : Int) (w : World) (h : Pm w p s) (ho : Bk o w #[.int .u64 org] 23) (hne : p ≠ o) (hs : okS s) (hx : okX x) (hk : x.k = 0) : Calls Try.prog 13 #[.pointer (some ⟨p, 0, none⟩), .agg (spC x).toArray, .pointer (some ⟨o, 0, none⟩)] w fun e w' => e = .returned (.tuple #[.agg (pkC (dsP s x)).toArray, .bool (dsB s x), .int .i64 (dsV s x org), .agg (smL (dsM s x org)).toArray]) ∧ Pm w' p (dsS s x org) ∧ Bk o w' #[.int .u64 (dsO s x org)] 23 ∧ G2 p o w w' := by
  have HD : Hid (DW w w p o s org []) := ⟨h, ho, hne, Bk.lt h, ho.lt, G2.refl _ _ _, fun b hb => by cases hb⟩
  have HS : Hid (okS s ∧ okX x) := ⟨hs, hx⟩
  clear h ho hne hs hx
  go_enter Try.func13, Try.ntmps13
  refine post_hid fun Q hQ => ?_
  refine seq_hid fun R hR => ?_
  go_wp2_with fail
  refine world_hid fun W hW => ?_
  have HD : Hid (DW w W p o s org [(w.heap.size + 1 + 1, smL sm0, 48), (w.heap.size + 1, pkC pk0, 44), (w.heap.size, spC x, 46)]) := by
    rw [hW.out]
    have h1 := HD.out.push (spC x) 46
    have h2 := h1.push (pkC pk0) 44
    have h3 := h2.push (smL sm0) 48
    simp only [size_alloc1] at h2 h3
    exact h3
  clear hW
  rw [hR.out]
  clear hR
  obtain ⟨qq, hqq⟩ : ∃ qq, rqP s x.y x.poll x.t = qq := ⟨_, rfl⟩
  obtain ⟨bb, hbb⟩ : ∃ bb, rqB s x.y = bb := ⟨_, rfl⟩
  obtain ⟨s2, hs2⟩ : ∃ s2, rqS s x.y x.t = s2 := ⟨_, rfl⟩
  have HH : Hid (∀ u, Pm u p s → Calls Try.prog 33 #[.pointer (some ⟨p, 0, none⟩), .agg (syL x.y).toArray, .int .i64 x.poll, .int .u64 x.t] u fun e w' => e = .returned (.tuple #[.agg (pkC qq).toArray, .bool bb]) ∧ Pm w' p s2 ∧ u.grownBy w' (some p)) := fun u hu => by
    rw [← hqq, ← hbb, ← hs2]; exact request_any p s x.y x.poll x.t u hu HS.out.1
  have HE : Hid (dsP s x = qq ∧ dsB s x = bb ∧ dsV s x org = 0 ∧ dsM s x org = sm0 ∧ dsS s x org = s2 ∧ (bb = false → qq = pk0) ∧ dsO s x org = if bb = true ∧ qq.mode ≠ 5 then qq.xmt else org) := by
    unfold dsP dsB dsV dsM dsS dsO
    rw [hk, hqq, hbb, hs2]
    refine ⟨rfl, rfl, rfl, rfl, rfl, fun h => ?_, by simp⟩
    rw [← hqq]
    unfold rqP
    rw [hbb, h]
    rfl
  clear hqq hbb hs2
  have HX : Hid (Xb W w.heap.size x) := (HD.out.bl (w.heap.size, spC x, 46) (by simp)).1
  have x0 : W.cell? ⟨w.heap.size, 0, none⟩ = some (.int .i64 0) := by rw [← hk]; exact HX.out.k
  have x12 : W.cell? ⟨w.heap.size, 12, none⟩ = some (.int .i64 x.poll) := HX.out.poll
  have x13 : W.cell? ⟨w.heap.size, 13, none⟩ = some (.int .u64 x.t) := HX.out.t
  have HP : Hid (∀ j u, (syL x.y)[j]? = some u → W.cell? ((⟨w.heap.size, 1, none⟩ : Addr).add j) = some u) := HX.out.sy
  clear hk
  rcases bb with _ | _
  · go_wp2_with (first
      | (refine step_ldat 40 _ rfl rfl ⟨w.heap.size, 1, none⟩ (by rfl) (syL x.y) _ Try.underlying40 rfl (by kernel_rfl) HP.out ?_)
      | (go_at_call 33; refine (HH.out _ HD.out.pm).mono ?_; rintro e w5 ⟨rfl, hp5, hg5⟩; have HD5 : Hid _ := HD.out.grown hp5 hg5; clear hp5 hg5)
      | (refine step_own (by rfl) _ _ rfl w5.heap.size (pkC qq) (by rfl) (by rfl) [] _ (HD5.out.push (pkC pk0) 44) ?_ (by kernel_rfl) rfl (pkC_one _) ?_; (have l5 := HD5.out.g2.size; intro b hb; simp at hb; (rcases hb with rfl | rfl | rfl <;> (have l6 := (HD5.out.bl _ (by first | exact List.mem_cons_self .. | exact List.mem_cons_of_mem _ (List.mem_cons_self ..) | exact List.mem_cons_of_mem _ (List.mem_cons_of_mem _ (List.mem_cons_self ..)))).1.lt; simp at l6 ⊢; omega))); intro w6 hd6; have HD6 : Hid _ := hd6; clear hd6; have c2 : w6.cell? ⟨w5.heap.size, 2, none⟩ = some (.int .i64 qq.mode) := (HD6.out.bl (w5.heap.size, pkC qq, 44) (by simp)).1.cell 2; have c12 : w6.cell? ⟨w5.heap.size, 12, none⟩ = some (.int .u64 qq.xmt) := (HD6.out.bl (w5.heap.size, pkC qq, 44) (by simp)).1.cell 12; have o0 : w6.cell? ⟨o, 0, none⟩ = some (.int .u64 org) := HD6.out.og.cell 0; have of : w6.frozen? ⟨o, 0, none⟩ = false := HD6.out.og.frozen 0; have HD7 : Hid _ := HD6.out; have Hb5 : Hid (w.heap.size + 1 + 1 < w5.heap.size) := (HD5.out.bl (w.heap.size + 1 + 1, smL sm0, 48) (by simp)).1.lt)
      | (refine step_ldat 44 _ rfl rfl ⟨w5.heap.size, 0, none⟩ (by rfl) (pkC qq) _ Try.underlying44 rfl (by kernel_rfl) (HD7.out.at w5.heap.size (pkC qq) 44 (by simp)) ?_)
      | (refine step_own (by rfl) _ _ rfl (w.heap.size + 1) (pkC qq) (by rfl) (by rfl) [(w5.heap.size, pkC qq, 44), (w.heap.size + 1 + 1, smL sm0, 48)] [(w.heap.size, spC x, 46)] HD7.out ?_ (by kernel_rfl) rfl (pkC_one _) ?_; (have l5 := Hb5.out; intro b hb; simp at hb; rcases hb with rfl | rfl | rfl <;> first | (simp; done) | (simp; omega)); intro w8 hd8; have HD8 : Hid _ := hd8; clear hd8)
      | (refine step_own (by rfl) _ _ rfl (w.heap.size + 1 + 1) (smL sm0) (by rfl) (by rfl) [(w5.heap.size, pkC qq, 44)] [(w.heap.size + 1, pkC qq, 44), (w.heap.size, spC x, 46)] HD8.out ?_ (by kernel_rfl) rfl (smL_one _) ?_; (have l5 := Hb5.out; intro b hb; simp at hb; rcases hb with rfl | rfl | rfl <;> first | (simp; done) | (simp; omega)); intro w9 hd9; have HD9 : Hid _ := hd9; clear hd9))
    rw [hQ.out]
    rw [HE.out.1, HE.out.2.1, HE.out.2.2.1, HE.out.2.2.2.1, HE.out.2.2.2.2.1, HE.out.2.2.2.2.2.2, if_neg (fun h => by cases h.1)]
    refine bodyPost_ret (v := .tuple #[.agg (pkC qq).toArray, .bool false, .int .i64 0, .agg (smL sm0).toArray]) (results_4 Try.results13 _ _ (w.heap.size + 1) (w.heap.size + 1 + 1) _ _ (pkC qq) (smL sm0) _ _ _ _ (by rfl) (by rfl) (by rfl) (by rfl) (HD9.out.bl (w.heap.size + 1, pkC qq, 44) (by simp)).1 (HD9.out.bl (w.heap.size + 1 + 1, smL sm0, 48) (by simp)).1 Try.underlying44 rfl (by kernel_rfl) Try.underlying48 rfl (by kernel_rfl)) rfl ⟨rfl, HD9.out.pm, HD9.out.og, HD9.out.g2⟩
  · by_cases hm : qq.mode = 5
    · have hm' : (qq.mode != 5) = false := by simpa using hm
      go_wp2_with (first
        | (refine step_ldat 40 _ rfl rfl ⟨w.heap.size, 1, none⟩ (by rfl) (syL x.y) _ Try.underlying40 rfl (by kernel_rfl) HP.out ?_)
        | (go_at_call 33; refine (HH.out _ HD.out.pm).mono ?_; rintro e w5 ⟨rfl, hp5, hg5⟩; have HD5 : Hid _ := HD.out.grown hp5 hg5; clear hp5 hg5)
        | (refine step_own (by rfl) _ _ rfl w5.heap.size (pkC qq) (by rfl) (by rfl) [] _ (HD5.out.push (pkC pk0) 44) ?_ (by kernel_rfl) rfl (pkC_one _) ?_; (have l5 := HD5.out.g2.size; intro b hb; simp at hb; (rcases hb with rfl | rfl | rfl <;> (have l6 := (HD5.out.bl _ (by first | exact List.mem_cons_self .. | exact List.mem_cons_of_mem _ (List.mem_cons_self ..) | exact List.mem_cons_of_mem _ (List.mem_cons_of_mem _ (List.mem_cons_self ..)))).1.lt; simp at l6 ⊢; omega))); intro w6 hd6; have HD6 : Hid _ := hd6; clear hd6; have c2 : w6.cell? ⟨w5.heap.size, 2, none⟩ = some (.int .i64 qq.mode) := (HD6.out.bl (w5.heap.size, pkC qq, 44) (by simp)).1.cell 2; have c12 : w6.cell? ⟨w5.heap.size, 12, none⟩ = some (.int .u64 qq.xmt) := (HD6.out.bl (w5.heap.size, pkC qq, 44) (by simp)).1.cell 12; have o0 : w6.cell? ⟨o, 0, none⟩ = some (.int .u64 org) := HD6.out.og.cell 0; have of : w6.frozen? ⟨o, 0, none⟩ = false := HD6.out.og.frozen 0; have HD7 : Hid _ := HD6.out; have Hb5 : Hid (w.heap.size + 1 + 1 < w5.heap.size) := (HD5.out.bl (w.heap.size + 1 + 1, smL sm0, 48) (by simp)).1.lt)
        | (refine step_ldat 44 _ rfl rfl ⟨w5.heap.size, 0, none⟩ (by rfl) (pkC qq) _ Try.underlying44 rfl (by kernel_rfl) (HD7.out.at w5.heap.size (pkC qq) 44 (by simp)) ?_)
        | (refine step_own (by rfl) _ _ rfl (w.heap.size + 1) (pkC qq) (by rfl) (by rfl) [(w5.heap.size, pkC qq, 44), (w.heap.size + 1 + 1, smL sm0, 48)] [(w.heap.size, spC x, 46)] HD7.out ?_ (by kernel_rfl) rfl (pkC_one _) ?_; (have l5 := Hb5.out; intro b hb; simp at hb; rcases hb with rfl | rfl | rfl <;> first | (simp; done) | (simp; omega)); intro w8 hd8; have HD8 : Hid _ := hd8; clear hd8)
        | (refine step_own (by rfl) _ _ rfl (w.heap.size + 1 + 1) (smL sm0) (by rfl) (by rfl) [(w5.heap.size, pkC qq, 44)] [(w.heap.size + 1, pkC qq, 44), (w.heap.size, spC x, 46)] HD8.out ?_ (by kernel_rfl) rfl (smL_one _) ?_; (have l5 := Hb5.out; intro b hb; simp at hb; rcases hb with rfl | rfl | rfl <;> first | (simp; done) | (simp; omega)); intro w9 hd9; have HD9 : Hid _ := hd9; clear hd9))
      rw [hQ.out]
      rw [HE.out.1, HE.out.2.1, HE.out.2.2.1, HE.out.2.2.2.1, HE.out.2.2.2.2.1, HE.out.2.2.2.2.2.2, if_neg (fun h => h.2 hm)]
      refine bodyPost_ret (v := .tuple #[.agg (pkC qq).toArray, .bool true, .int .i64 0, .agg (smL sm0).toArray]) (results_4 Try.results13 _ _ (w.heap.size + 1) (w.heap.size + 1 + 1) _ _ (pkC qq) (smL sm0) _ _ _ _ (by rfl) (by rfl) (by rfl) (by rfl) (HD9.out.bl (w.heap.size + 1, pkC qq, 44) (by simp)).1 (HD9.out.bl (w.heap.size + 1 + 1, smL sm0, 48) (by simp)).1 Try.underlying44 rfl (by kernel_rfl) Try.underlying48 rfl (by kernel_rfl)) rfl ⟨rfl, HD9.out.pm, HD9.out.og, HD9.out.g2⟩
    · have hm' : (qq.mode != 5) = true := by simpa using hm
      go_wp2_with (first
        | (refine step_ldat 40 _ rfl rfl ⟨w.heap.size, 1, none⟩ (by rfl) (syL x.y) _ Try.underlying40 rfl (by kernel_rfl) HP.out ?_)
        | (go_at_call 33; refine (HH.out _ HD.out.pm).mono ?_; rintro e w5 ⟨rfl, hp5, hg5⟩; have HD5 : Hid _ := HD.out.grown hp5 hg5; clear hp5 hg5)
        | (refine step_own (by rfl) _ _ rfl w5.heap.size (pkC qq) (by rfl) (by rfl) [] _ (HD5.out.push (pkC pk0) 44) ?_ (by kernel_rfl) rfl (pkC_one _) ?_; (have l5 := HD5.out.g2.size; intro b hb; simp at hb; (rcases hb with rfl | rfl | rfl <;> (have l6 := (HD5.out.bl _ (by first | exact List.mem_cons_self .. | exact List.mem_cons_of_mem _ (List.mem_cons_self ..) | exact List.mem_cons_of_mem _ (List.mem_cons_of_mem _ (List.mem_cons_self ..)))).1.lt; simp at l6 ⊢; omega))); intro w6 hd6; have HD6 : Hid _ := hd6; clear hd6; have c2 : w6.cell? ⟨w5.heap.size, 2, none⟩ = some (.int .i64 qq.mode) := (HD6.out.bl (w5.heap.size, pkC qq, 44) (by simp)).1.cell 2; have c12 : w6.cell? ⟨w5.heap.size, 12, none⟩ = some (.int .u64 qq.xmt) := (HD6.out.bl (w5.heap.size, pkC qq, 44) (by simp)).1.cell 12; have o0 : w6.cell? ⟨o, 0, none⟩ = some (.int .u64 org) := HD6.out.og.cell 0; have of : w6.frozen? ⟨o, 0, none⟩ = false := HD6.out.og.frozen 0; have HD7 : Hid _ := HD6.out.org qq.xmt; have Hb5 : Hid (w.heap.size + 1 + 1 < w5.heap.size) := (HD5.out.bl (w.heap.size + 1 + 1, smL sm0, 48) (by simp)).1.lt)
        | (refine step_ldat 44 _ rfl rfl ⟨w5.heap.size, 0, none⟩ (by rfl) (pkC qq) _ Try.underlying44 rfl (by kernel_rfl) (HD7.out.at w5.heap.size (pkC qq) 44 (by simp)) ?_)
        | (refine step_own (by rfl) _ _ rfl (w.heap.size + 1) (pkC qq) (by rfl) (by rfl) [(w5.heap.size, pkC qq, 44), (w.heap.size + 1 + 1, smL sm0, 48)] [(w.heap.size, spC x, 46)] HD7.out ?_ (by kernel_rfl) rfl (pkC_one _) ?_; (have l5 := Hb5.out; intro b hb; simp at hb; rcases hb with rfl | rfl | rfl <;> first | (simp; done) | (simp; omega)); intro w8 hd8; have HD8 : Hid _ := hd8; clear hd8)
        | (refine step_own (by rfl) _ _ rfl (w.heap.size + 1 + 1) (smL sm0) (by rfl) (by rfl) [(w5.heap.size, pkC qq, 44)] [(w.heap.size + 1, pkC qq, 44), (w.heap.size, spC x, 46)] HD8.out ?_ (by kernel_rfl) rfl (smL_one _) ?_; (have l5 := Hb5.out; intro b hb; simp at hb; rcases hb with rfl | rfl | rfl <;> first | (simp; done) | (simp; omega)); intro w9 hd9; have HD9 : Hid _ := hd9; clear hd9))
      rw [hQ.out]
      rw [HE.out.1, HE.out.2.1, HE.out.2.2.1, HE.out.2.2.2.1, HE.out.2.2.2.2.1, HE.out.2.2.2.2.2.2, if_pos (by simp [hm])]
      refine bodyPost_ret (v := .tuple #[.agg (pkC qq).toArray, .bool true, .int .i64 0, .agg (smL sm0).toArray]) (results_4 Try.results13 _ _ (w.heap.size + 1) (w.heap.size + 1 + 1) _ _ (pkC qq) (smL sm0) _ _ _ _ (by rfl) (by rfl) (by rfl) (by rfl) (HD9.out.bl (w.heap.size + 1, pkC qq, 44) (by simp)).1 (HD9.out.bl (w.heap.size + 1 + 1, smL sm0, 48) (by simp)).1 Try.underlying44 rfl (by kernel_rfl) Try.underlying48 rfl (by kernel_rfl)) rfl ⟨rfl, HD9.out.pm, HD9.out.og, HD9.out.g2⟩
end Go.Proofs.Ytlggademcmkihaa
