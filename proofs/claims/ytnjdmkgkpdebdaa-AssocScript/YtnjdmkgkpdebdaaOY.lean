/- assoc: the reference's Heard and Hops. -/
import Derived.Test.YtnjdmkgkpdebdaaOX
import Derived.Test.YtnjdmkgkpdebdaaGP
namespace Go.Proofs.Ytnjdmkgkpdebdaa
open Go Go.RowKit Go.Sort
set_option linter.unusedVariables false
theorem flat_cell {k : Nat} {rows : List (List Value)} (h : ∀ r ∈ rows, r.length = k) (i j : Nat) (u : Value) (hi : i < rows.length) (hj : j < k) : rows.flatten.set (i * k + j) u = (rows.set i ((rows.getD i []).set j u)).flatten := by
  induction rows generalizing i with
  | nil => exact absurd hi (by simp)
  | cons s t ih =>
    have hs := h s (List.mem_cons_self ..)
    rw [List.flatten_cons]
    cases i with
    | zero =>
      rw [Nat.zero_mul, Nat.zero_add, List.set_append_left _ _ (by omega), List.set_cons_zero, List.flatten_cons]; rfl
    | succ i =>
      rw [List.set_cons_succ, List.flatten_cons, List.set_append_right _ _ (by rw [hs, Nat.add_mul]; omega), hs, show (i + 1) * k + j - k = i * k + j from by rw [Nat.add_mul]; omega, ih (fun x hx => h x (List.mem_cons_of_mem _ hx)) i (by simpa using hi)]
      rfl
/-- a row's cells, and what comes of it when one of them is another -/
theorem Rt.poke {w : World} {d B : Nat} {l : List Mb} (h : Rt w d B l) {i : Nat} {m : Mb} (hm : l[i]? = some m) : ∃ (g cap : Nat) (cs : List Value), Bk d w #[.slice (some ⟨g, 0, none⟩) l.length cap] 80 ∧ Bk g w cs.toArray 83 ∧ i * 16 + 16 ≤ cs.length ∧ B ≤ g ∧ g ≠ d ∧ (∀ j u, (mbL m)[j]? = some u → cs[i * 16 + j]? = some u) ∧ ∀ j u m' W, j < 16 → mbL m' = (mbL m).set j u → Bk g W (cs.set (i * 16 + j) u).toArray 83 → w.grownBy W (some g) → Rt W d B (l.set i m') := by
  obtain ⟨v, h1, h2, h3⟩ := h.ex
  have hil : i < l.length := by
    rcases Nat.lt_or_ge i l.length with h | h
    · exact h
    · rw [List.getElem?_eq_none h] at hm; cases hm
  rcases h2.row.2 with ⟨e1, e2⟩ | ⟨g, cap, cur, e1, e2, e3, e4, e5, e6, e7⟩
  · rw [List.length_map] at e2; omega
  rw [List.length_map] at e1 e4 e7
  have hcl : cur.toList.length = cap * 16 := by rw [Array.length_toList, e6]
  have hgd : g ≠ d := h3 g (by rw [e1]; rfl)
  have hflen : ((l.map mbL).flatten).length = l.length * 16 := by have := h2.row.1; rwa [List.length_map] at this
  refine ⟨g, cap, cur.toList, by rw [← e1]; exact h1, by rw [Array.toArray_toList]; exact e3, by omega, e2, hgd, fun j u hu => ?_, fun j u m' W hj hm' hb hg => ?_⟩
  · have hj : j < 16 := by
      rcases Nat.lt_or_ge j 16 with h | h
      · exact h
      · rw [List.getElem?_eq_none (by simpa [mbL] using h)] at hu; cases hu
    have h8 := flat_get h2.len i j (by rw [List.length_map]; exact hil) hj
    rw [← e7, List.getElem?_take_of_lt (by omega), List.getD_eq_getElem?_getD, List.getElem?_map, hm] at h8
    rw [h8]
    exact hu
  · refine ⟨⟨v, h1.kept (hg.block d h1.lt (fun e => hgd (Option.some.inj e).symm)), ⟨⟨?_, .inr ⟨g, cap, (cur.toList.set (i * 16 + j) u).toArray, ?_, e2, hb, ?_, e5, ?_, ?_⟩⟩, fun r hr => ?_⟩, h3⟩, by rw [List.length_set]; exact h.len⟩
    · rw [flat_len (k := 16) (fun r hr => by obtain ⟨x, _, rfl⟩ := List.mem_map.1 hr; rfl)]
    · rw [e1, List.length_map, List.length_set]
    · rw [List.length_map, List.length_set]; exact e4
    · simp [e6]
    · rw [List.length_map, List.length_set, List.take_set, e7, flat_cell h2.len i j u (by rw [List.length_map]; exact hil) hj, List.map_set, hm', List.getD_eq_getElem?_getD, List.getElem?_map, hm]
      rfl
    · obtain ⟨x, _, rfl⟩ := List.mem_map.1 hr; rfl
theorem ix_g (g n cap k : Nat) (hk : (k : Int) < n) (w : World) : Sem.run Try.prog (Instr.indexAt 78 (.slice (some ⟨g, 0, none⟩) n cap) (.int .i64 (k : Int))) w = .ok (.pointer (some ⟨g, k * 16, none⟩)) w := by
  rw [ix_rw n cap k rfl hk, own_add, Nat.zero_add]
set_option maxRecDepth 20000 in
set_option maxHeartbeats 2000000 in
theorem rheard_any (d B : Nat) (l : List Mb) (id now : Int) (w : World) (h : Rt w d B l) (hn : -9223372036854775808 ≤ now) : Calls Try.prog 27 #[.pointer (some ⟨d, 0, none⟩), .int .i64 id, .int .i64 now] w fun e w' => e = .returned (.bool (idM id l).isSome) ∧ Hid ((idM id l = none ∧ Rt w' d B l ∧ Below w.heap.size w w') ∨ ∃ (i : Nat) (m : Mb) (g : Nat) (cs : Array Value), l[i]? = some m ∧ m.id = id ∧ idM id l = some m ∧ Rt w' d B (l.set i (heM m now)) ∧ B ≤ g ∧ Bk g w cs 83 ∧ w.grownBy w' (some g)) := by
  have HH : Hid (Rt w d B l) := h
  have CA : Hid (Calls Try.prog 50 #[.pointer (some ⟨d, 0, none⟩), .int .i64 id] w fun e w' => e = .returned (.int .i64 (idF id l 0)) ∧ Below w.heap.size w w') := rat_any d B l id w h
  rcases idF_at id l 0 with ⟨h1, h2⟩ | ⟨i, m, h1, h2, h3, h4⟩
  · have HE : Hid (idM id l = none) := h2
    rw [h1] at CA
    clear h1 h2 h
    go_enter Try.func27, Try.ntmps27
    refine post_hid fun Q hQ => ?_
    go_wp2_with (go_at_call 50; refine CA.out.mono ?_; rintro e w1 ⟨rfl, hb1⟩; have HB1 : Hid (Below w.heap.size w w1) := hb1; clear hb1)
    rw [hQ.out]
    go_ret
    exact ⟨ret_bool' (by rw [HE.out]; rfl), .inl ⟨HE.out, HH.out.below HB1.out, HB1.out⟩⟩
  · have HE : Hid (l[i]? = some m ∧ m.id = id ∧ idM id l = some m) := ⟨h2, h4, h3⟩
    have hil : i < l.length := by
      rcases Nat.lt_or_ge i l.length with h | h
      · exact h
      · rw [List.getElem?_eq_none h] at h2; cases h2
    obtain ⟨g, cap, cs, p1, p2, p3, p4, p5, p6, p7⟩ := h.poke h2
    obtain ⟨n, hn'⟩ : ∃ n, l.length = n := ⟨_, rfl⟩
    rw [hn'] at p1 hil
    have HP : Hid (Bk d w #[.slice (some ⟨g, 0, none⟩) n cap] 80 ∧ Bk g w cs.toArray 83 ∧ i * 16 + 16 ≤ cs.length ∧ B ≤ g ∧ g ≠ d) := ⟨p1, p2, p3, p4, p5⟩
    have HP6 : Hid (∀ j u, (mbL m)[j]? = some u → cs[i * 16 + j]? = some u) := p6
    have HP7 : Hid (∀ j u m' W, j < 16 → mbL m' = (mbL m).set j u → Bk g W (cs.set (i * 16 + j) u).toArray 83 → w.grownBy W (some g) → Rt W d B (l.set i m')) := p7
    have hin : (i : Int) < n := by omega
    have hn16 : (n : Int) ≤ 16 := by have := h.len; omega
    have hi0 : (0 : Int) ≤ i := Int.natCast_nonneg i
    have hix := ix_g g n cap i hin
    rw [h1] at CA
    simp only [Int.natCast_zero, Int.zero_add] at CA
    clear h1 h2 h3 h4 h p1 p2 p3 p4 p5 p6 p7 hn' hil
    go_enter Try.func27, Try.ntmps27
    refine post_hid fun Q hQ => ?_
    go_upto_region 4 with (go_at_call 50; refine CA.out.mono ?_; rintro e w1 ⟨rfl, hb1⟩; have HB1 : Hid (Below w.heap.size w w1) := hb1; clear hb1)
    have HD1 : Hid (Bk d w1 #[.slice (some ⟨g, 0, none⟩) n cap] 80) := HP.out.1.kept (HB1.out.block _ HP.out.1.lt)
    have HG1 : Hid (Bk g w1 cs.toArray 83) := HP.out.2.1.kept (HB1.out.block _ HP.out.2.1.lt)
    have c0 : w1.cell? ⟨d, 0, none⟩ = some (.slice (some ⟨g, 0, none⟩) n cap) := HD1.out.cell 0
    have c14 : w1.cell? ⟨g, i * 16 + 14, none⟩ = some (.int .i64 m.ends) := by rw [HG1.out.cell, List.getElem?_toArray]; exact HP6.out 14 _ rfl
    by_cases h0 : m.ends = 0
    · rw [h0] at c14
      go_wp2_with fail
      rw [hQ.out]
      go_ret
      refine ⟨ret_bool' (by rw [HE.out.2.2]; rfl), .inr ⟨i, m, g, cs.toArray, HE.out.1, HE.out.2.1, HE.out.2.2, ?_, HP.out.2.2.2.1, HP.out.2.1, grownBy_below HB1.out _⟩⟩
      unfold heM
      rw [if_pos h0]
      refine (HH.out.below HB1.out).rgrown (w' := w1) ?_
      have e : l.set i m = l := by
        refine List.ext_getElem? fun j => ?_
        rw [List.getElem?_set]
        split
        · rename_i hj
          subst hj
          split
          · exact HE.out.1.symm
          · rename_i h; rw [List.getElem?_eq_none (by omega)]
        · rfl
      rw [e]
    · have h02 : (m.ends == 0) = false := by simpa using h0
      have h03 : (m.ends != 0) = true := by simpa using h0
      obtain ⟨E, hE⟩ : ∃ E, ltI now = E := ⟨_, rfl⟩
      have HEE : Hid (ltI now = E) := hE
      have CL : Hid (∀ q, Calls Try.prog 51 #[.int .i64 now] (w1.drewN q) fun e w' => e = .returned (.int .i64 E) ∧ w' = w1.drewN q) := fun q => by rw [← hE]; exact rlater_any now _ hn
      clear hE
      go_upto_region 5 with fail
      rename_i KK hKK
      have HKK : Hid _ := hKK
      clear hKK
      refine wp_region_lastW (by kernel_rfl) (by kernel_rfl) (by rfl) (by kernel_rfl) ?_
      simp only [idleLast, idle]
      repeat (refine qw_step (fun K hK => ?_); go_simp; first | (refine hK _ ?_; clear hK K) | (apply Exists.intro; refine ⟨fun _ => ?_, hK _ ?_⟩; (go_at_call 51; exact Calls.quiet_of_same (CL.out _)); clear hK K))
      refine qw_nil ?_
      intro _ hw'
      obtain ⟨nq, hw''⟩ := hw'
      subst hw''
      refine wpOp_stin1 _ (by rfl) rfl 3 _ _ rfl (p := g) (cs := cs) (T := 83) (show Bk g (w1.drewN nq) cs.toArray 83 from HG1.out) (i * 16 + 14) (.int .i64 E) (by rfl) (by rfl) rfl (by kernel_rfl) (by have := HP.out.2.2.1; omega) rfl ?_
      obtain ⟨W, hW⟩ : ∃ W, W = (w1.drewN nq).setRow g (cs.set (i * 16 + 14) (.int .i64 E)).toArray := ⟨_, rfl⟩
      have HW : Hid (Bk g W (cs.set (i * 16 + 14) (.int .i64 E)).toArray 83 ∧ w.grownBy W (some g)) := by
        rw [hW]
        exact ⟨Bk.row (show Bk g (w1.drewN nq) cs.toArray 83 from HG1.out) _, grownBy_trans (grownBy_below HB1.out _) (grownBy_trans (grownBy_drewN w1 nq _) (grownBy_row _ _ _))⟩
      rw [← hW]
      clear hW
      refine HKK.out _ _ ?_
      clear HKK CL
      go_wp2_with fail
      rw [hQ.out]
      go_ret
      refine ⟨ret_bool' (by rw [HE.out.2.2]; rfl), .inr ⟨i, m, g, cs.toArray, HE.out.1, HE.out.2.1, HE.out.2.2, ?_, HP.out.2.2.2.1, HP.out.2.1, HW.out.2⟩⟩
      refine HP7.out 14 (.int .i64 E) _ W (by omega) ?_ HW.out.1 HW.out.2
      unfold heM
      rw [if_neg h0, HEE.out]
      rfl
end Go.Proofs.Ytnjdmkgkpdebdaa
