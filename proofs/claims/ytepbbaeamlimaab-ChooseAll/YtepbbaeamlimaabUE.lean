/- choose: ends put in their order. -/
import Derived.Test.YtepbbaeamlimaabUD
import Derived.Scope
namespace Go.Proofs.Ytepbbaeamlimaab
open Go Go.RowKit Go.Sort Ch Pu
set_option linter.unusedVariables false
theorem OR.addr {w : World} {B : Nat} {e : TypeId} {k : Nat} {v : Value} {rows : List (List Value)} (h : OR w B e k v rows) : ∃ g cap, (v = .slice none 0 0 ∧ rows = []) ∨ (v = .slice (some ⟨g, 0, none⟩) rows.length cap ∧ B ≤ g ∧ g < w.heap.size) := by
  rcases h.row.2 with ⟨h1, h2⟩ | ⟨g, cap, cur, h1, h2, h3, _⟩
  · exact ⟨0, 0, .inl ⟨h1, List.length_eq_zero_iff.1 h2⟩⟩
  · refine ⟨g, cap, .inr ⟨h1, h2, ?_⟩⟩
    rcases Nat.lt_or_ge g w.heap.size with h | h
    · exact h
    · rw [Array.getElem?_eq_none h] at h3; cases h3
/-- an element of one cell is stored -/
theorem step_stE {ops : Array Oper} {rest : List Oper} {o : Oper} {a : Act} {w : World} {Q : Exit → Act → World → Prop} {e : TypeId} (hw : Region.wanted o (yielded ops a.tmps) = true) (x y : Operand) (ho : o.op = .store e x y)
    (B g n cap i : Nat) (u : Value) (hx : a.eval x = .pointer (some ⟨g, i, none⟩)) (hy : a.eval y = u) (hu : u.cells = #[u]) (h1 : u.oneCell' = true) (hi : (Try.prog.info? e).map (·.size) = some 1) (rows : List (List Value)) (hn : n = rows.length) (hir : i < rows.length) (h : OR w B e 1 (.slice (some ⟨g, 0, none⟩) n cap) rows)
    (hK : ∀ W, Hid (OR W B e 1 (.slice (some ⟨g, 0, none⟩) n cap) (rows.set i [u]) ∧ w.grownBy W (some g) ∧ W.heap.size = w.heap.size) → wpList Try.prog ops Q rest (a.put o.dst undef) W) : wpList Try.prog ops Q (o :: rest) a w := by
  subst hn
  obtain ⟨w', h2, h3, h4, h5⟩ := run_stk h hi i [u] hir rfl (by intro z hz; simp at hz; rw [hz]; exact h1)
  have e1 : storeVar e ⟨g, i * 1, none⟩ (.agg ([u] : List Value).toArray) = storeVar e ⟨g, i, none⟩ u := by
    unfold storeVar
    rw [Nat.mul_one, hu]
    rfl
  rw [e1] at h2
  exact wpList_step fun K hK' => by
    rw [if_pos hw]
    unfold Oper.wp execOp
    simp only [ho, hx, hy, Instr.storeAt, Instr.sureAddr, Sem.run_bind, Sem.run_pure, Result.andThen_ok, h2]
    exact hK' _ _ (hK w' ⟨h3, h4, h5⟩)
theorem ix_own (n cap k g : Nat) (hk : (k : Int) < n) (w : World) : Sem.run Try.prog (Instr.indexAt 33 (.slice (some ⟨g, 0, none⟩) n cap) (.int .i64 (k : Int))) w = .ok (.pointer (some ⟨g, k, none⟩)) w := by
  rw [ix_E n cap k rfl hk w, add_own]
theorem OR.enAt {w : World} {B g n cap : Nat} {e : TypeId} {es : List Int} (h : OR w B e 1 (.slice (some ⟨g, 0, none⟩) n cap) (enR es)) {i : Nat} {z : Int} (hi : es[i]? = some z) : w.cell? ⟨g, i, none⟩ = some (enV z) := by
  have hl : i < es.length := by
    rcases Nat.lt_or_ge i es.length with h | h
    · exact h
    · rw [List.getElem?_eq_none h] at hi; cases hi
  have := h.at i (by unfold enR; rw [List.length_map]; exact hl) 0 (enV z) (by unfold enR; rw [getD_map' _ _ _ hl]; rw [List.getElem?_eq_getElem hl] at hi; rw [Option.some.inj hi]; rfl)
  rw [Nat.mul_one] at this
  simpa [Addr.add] using this
theorem enR_set (es : List Int) (i : Nat) (z : Int) : (enR es).set i [enV z] = enR (es.set i z) := by unfold enR; rw [List.map_set]
theorem enR_len (es : List Int) : (enR es).length = es.length := by unfold enR; rw [List.length_map]
/-- how far one has been moved: p places are still ahead of it -/
def Mv (xs : List Int) (i p : Nat) (es : List Int) : Prop := ∃ x, es = (srt (xs.take i)).take p ++ x :: ((srt (xs.take i)).drop p ++ xs.drop (i + 1)) ∧ p ≤ i ∧ ∀ j, p ≤ j → j < i → xs.getD i 0 < (srt (xs.take i)).getD j 0
theorem srt_tl {xs : List Int} {i : Nat} (h : i < xs.length) : (srt (xs.take i)).length = i := by rw [srt_len, List.length_take]; omega
theorem Mv.start {xs : List Int} {i : Nat} (h : i < xs.length) : Mv xs i i (srt (xs.take i) ++ xs.drop i) := by
  have e := srt_tl h
  refine ⟨xs[i], ?_, Nat.le_refl _, fun j h1 h2 => by omega⟩
  rw [List.take_of_length_le (l := srt (xs.take i)) (by omega), List.drop_of_length_le (l := srt (xs.take i)) (by omega), List.nil_append, ← List.drop_eq_getElem_cons h]
theorem Mv.len {xs es : List Int} {i p : Nat} (h : i < xs.length) (hm : Mv xs i p es) : es.length = xs.length := by
  obtain ⟨x, h1, h2, _⟩ := hm
  have e := srt_tl h
  rw [h1]
  simp only [List.length_append, List.length_cons, List.length_take, List.length_drop]
  omega
theorem Mv.at {xs es : List Int} {i p q : Nat} (h : i < xs.length) (hm : Mv xs i p es) (hq : q < p) : es[q]? = some ((srt (xs.take i)).getD q 0) := by
  obtain ⟨x, h1, h2, _⟩ := hm
  have e := srt_tl h
  rw [h1, List.getElem?_append_left (by rw [List.length_take]; omega), List.getElem?_take_of_lt hq, List.getD_eq_getElem?_getD, List.getElem?_eq_getElem (by omega)]
  rfl
/-- one place down -/
theorem Mv.down {xs es : List Int} {i p q : Nat} (h : i < xs.length) (hm : Mv xs i p es) (hq : p = q + 1) (hlt : xs.getD i 0 < (srt (xs.take i)).getD q 0) : Mv xs i q (es.set p ((srt (xs.take i)).getD q 0)) := by
  obtain ⟨x, h1, h2, h3⟩ := hm
  have e := srt_tl h
  refine ⟨(srt (xs.take i)).getD q 0, ?_, by omega, fun j hj1 hj2 => ?_⟩
  · have hql : q < (srt (xs.take i)).length := by omega
    have e1 : (srt (xs.take i)).take p = (srt (xs.take i)).take q ++ [(srt (xs.take i)).getD q 0] := by
      rw [hq, List.take_succ_eq_append_getElem hql, List.getD_eq_getElem?_getD, List.getElem?_eq_getElem hql]; rfl
    have e2 : (srt (xs.take i)).drop q = (srt (xs.take i)).getD q 0 :: (srt (xs.take i)).drop p := by
      rw [hq, List.drop_eq_getElem_cons hql, List.getD_eq_getElem?_getD, List.getElem?_eq_getElem hql]; rfl
    have e3 : ((srt (xs.take i)).take p).length = p := by rw [List.length_take]; omega
    rw [h1, List.set_append_right _ _ (by omega), e3, Nat.sub_self, List.set_cons_zero, e2, e1]
    simp
  · rcases Nat.eq_or_lt_of_le hj1 with h4 | h4
    · rw [← h4]; exact hlt
    · exact h3 j (by omega) hj2
/-- put where it belongs -/
theorem Mv.put {xs es : List Int} {i p : Nat} (h : i < xs.length) (hm : Mv xs i p es) (hp : ∀ q, p = q + 1 → (srt (xs.take i)).getD q 0 ≤ xs.getD i 0) : es.set p (xs.getD i 0) = srt (xs.take (i + 1)) ++ xs.drop (i + 1) := by
  obtain ⟨x, h1, h2, h3⟩ := hm
  have e := srt_tl h
  have e3 : ((srt (xs.take i)).take p).length = p := by rw [List.length_take]; omega
  have ex : xs.take (i + 1) = xs.take i ++ [xs.getD i 0] := by
    rw [List.take_succ_eq_append_getElem h, List.getD_eq_getElem?_getD, List.getElem?_eq_getElem h]; rfl
  rw [ex, srt_ins (xs.take i) (xs.getD i 0) p (by rw [List.length_take]; omega) ?_ ?_, h1, List.set_append_right _ _ (by omega), e3, Nat.sub_self, List.set_cons_zero]
  · simp
  · intro j hj
    cases p with
    | zero => omega
    | succ q =>
      have h4 := hp q rfl
      have h5 := List.pairwise_iff_getElem.1 (srt_sorted (xs.take i))
      have hjl : j < (srt (xs.take i)).length := by omega
      have hql : q < (srt (xs.take i)).length := by omega
      rw [List.getD_eq_getElem?_getD, List.getElem?_eq_getElem hql] at h4
      rw [List.getD_eq_getElem?_getD, List.getElem?_eq_getElem hjl]
      simp only [Option.getD_some] at h4 ⊢
      rcases Nat.lt_or_ge j q with h6 | h6
      · exact Int.le_trans (h5 j q hjl hql h6) h4
      · have : j = q := by omega
        subst this; exact h4
  · intro hpl
    rw [List.length_take] at hpl
    exact h3 p (Nat.le_refl _) (by omega)
set_option maxRecDepth 20000 in
set_option maxHeartbeats 1000000 in
theorem sortEnds_any (B g n cap : Nat) (xs : List Int) (w : World) (h : OR w B 41 1 (.slice (some ⟨g, 0, none⟩) n cap) (enR xs)) (hok : ∀ z ∈ xs, okZ z) (hn : n = xs.length) (hl : n ≤ 1000000) :
    Calls Try.prog 18 #[.slice (some ⟨g, 0, none⟩) n cap] w fun e w' => e = .returned (.tuple #[]) ∧ Hid (OR w' B 41 1 (.slice (some ⟨g, 0, none⟩) n cap) (enR (srt xs))) ∧ Hid (w.grownBy w' (some g)) := by
  have H0 : Hid (OR w B 41 1 (.slice (some ⟨g, 0, none⟩) n cap) (enR xs)) := h
  have HN : Hid (n = xs.length) := hn
  have HO : Hid (∀ z ∈ xs, okZ z) := hok
  have hl2 : (n : Int) ≤ 1000000 := by omega
  clear h hok hn hl
  go_enter Try.func18, Try.ntmps18
  refine post_hid fun Q hQ => ?_
  refine wp_scope_straight ?_
  refine post_hid fun Q2 hQ2 => ?_
  go_wp2_with fail
  refine wp_label ?_
  go_wp2_with fail
  go_loopw [7] (fun i wr => ∃ (k : Nat), i = .int .i64 k ∧ (k : Int) ≤ n ∧ Hid (OR wr B 41 1 (.slice (some ⟨g, 0, none⟩) n cap) (enR (srt (xs.take k) ++ xs.drop k)) ∧ w.grownBy wr (some g))) (fun i _ => n - (intOf i).toNat)
  case atStart => 
    have e0 : srt (xs.take 0) ++ xs.drop 0 = xs := by rw [List.take_zero, List.drop_zero, (List.length_eq_zero_iff.1 (by rw [srt_len]; rfl) : srt [] = []), List.nil_append]
    refine ⟨0, rfl, by omega, ⟨?_, ⟨rfl, rfl, rfl, Nat.le_refl _, fun _ _ _ => rfl⟩⟩⟩
    rw [e0]
    exact H0.out
  case round =>
    obtain ⟨k, rfl, hk, HB⟩ := hrel
    obtain ⟨wa, hwa⟩ : ∃ wa, wa = wr := ⟨_, rfl⟩
    subst hwa
    by_cases hlt : (k : Int) < n
    · have hkx : k < xs.length := by have := HN.out; omega
      obtain ⟨m, hm⟩ : ∃ m, xs.getD k 0 = m := ⟨_, rfl⟩
      have HM : Hid (xs.getD k 0 = m ∧ k < xs.length ∧ okZ m) := ⟨hm, hkx, by rw [← hm, List.getD_eq_getElem?_getD, List.getElem?_eq_getElem hkx]; exact HO.out _ (List.getElem_mem hkx)⟩
      have c0 : wa.cell? ⟨g, k, none⟩ = some (enV m) := HB.out.1.enAt (by
        have e := srt_tl hkx
        rw [List.getElem?_append_right (by omega), e, Nat.sub_self, List.getElem?_drop, Nat.add_zero, ← hm, List.getD_eq_getElem?_getD, List.getElem?_eq_getElem hkx]; rfl)
      have hix := ix_own n cap k g hlt
      clear hm hkx
      go_wp2_with fail
      go_loopw [4] (fun p wi => ∃ (r : Nat) (es : List Int), p = .int .i64 r ∧ (r : Int) ≤ k ∧ Hid (Mv xs k r es ∧ OR wi B 41 1 (.slice (some ⟨g, 0, none⟩) n cap) (enR es) ∧ w.grownBy wi (some g))) (fun p _ => (intOf p).toNat)
      case atStart => exact ⟨k, _, rfl, by omega, ⟨Mv.start HM.out.2.1, HB.out.1, HB.out.2⟩⟩
      case round =>
        obtain ⟨r, es, rfl, hrk, HI⟩ := hrel
        clear c0 hix
        have hixr := ix_own n cap r g (by omega)
        have HL : Hid (n = (enR es).length ∧ r < (enR es).length) := by
          have := HI.out.1.len HM.out.2.1
          have := HN.out
          refine ⟨by rw [enR_len]; omega, by rw [enR_len]; omega⟩
        by_cases hr0 : (0 : Int) < r
        · obtain ⟨q, hq⟩ : ∃ q : Nat, (r : Int) - 1 = q := ⟨r - 1, by omega⟩
          have hixq := ix_own n cap q g (by omega)
          have c1 : wr.cell? ⟨g, q, none⟩ = some (enV ((srt (xs.take k)).getD q 0)) := HI.out.2.1.enAt (HI.out.1.at HM.out.2.1 (by omega))
          obtain ⟨y, hy⟩ : ∃ y, (srt (xs.take k)).getD q 0 = y := ⟨_, rfl⟩
          rw [hy] at c1
          have hyo : okZ y := by
            have e := srt_tl HM.out.2.1
            have hql : q < (srt (xs.take k)).length := by omega
            rw [← hy, List.getD_eq_getElem?_getD, List.getElem?_eq_getElem hql]
            exact HO.out _ (List.mem_of_mem_take (srt_mem.1 (List.getElem_mem hql)))
          have HQ : Hid ((srt (xs.take k)).getD q 0 = y ∧ r = q + 1) := ⟨hy, by omega⟩
          have HA : Hid (∀ u, Calls Try.prog 29 #[enV m, enV y] u fun e w' => e = .returned (.bool (decide (m < y))) ∧ w' = u) := fun u => isAhead_any m y HM.out.2.2 hyo u
          clear hy hyo
          by_cases hmy : m < y
          · rw [decide_eq_true hmy] at HA
            have HD : Hid (Mv xs k q (es.set r y)) := by
              have := HI.out.1.down HM.out.2.1 HQ.out.2 (by rw [HM.out.1, HQ.out.1]; exact hmy)
              rw [HQ.out.1] at this
              exact this
            clear hmy
            go_wp2_with (first
              | (go_at_call 29; refine (HA.out _).mono ?_; rintro e w' ⟨rfl, rfl⟩)
              | (refine step_stE (by rfl) _ _ rfl B g n cap r (enV y) (by rfl) (by rfl) rfl rfl (by kernel_rfl) _ HL.out.1 HL.out.2 HI.out.2.1 ?_; intro w2 H2))
            go_roundw
            case rel =>
              refine ⟨q, es.set r y, by go_num, by omega, ⟨HD.out, ?_, grownBy_trans HI.out.2.2 H2.out.2.1⟩⟩
              rw [← enR_set]; exact H2.out.1
            case measure => simp [intOf]; omega
          · rw [decide_eq_false hmy] at HA
            have HD : Hid (es.set r m = srt (xs.take (k + 1)) ++ xs.drop (k + 1)) := by
              have := HI.out.1.put HM.out.2.1 (fun q' hq' => by
                have : q' = q := by have := HQ.out.2; omega
                subst this
                rw [HM.out.1, HQ.out.1]; omega)
              rw [HM.out.1] at this
              exact this
            clear hmy
            go_wp2_with (first
              | (go_at_call 29; refine (HA.out _).mono ?_; rintro e w' ⟨rfl, rfl⟩)
              | (refine step_stE (by rfl) _ _ rfl B g n cap r (enV m) (by rfl) (by rfl) rfl rfl (by kernel_rfl) _ HL.out.1 HL.out.2 HI.out.2.1 ?_; intro w2 H2))
            go_roundw
            case rel =>
              refine ⟨k + 1, by go_num, by omega, ⟨?_, grownBy_trans HI.out.2.2 H2.out.2.1⟩⟩
              rw [← HD.out, ← enR_set]; exact H2.out.1
            case measure => simp [intOf]; omega
        · have hr00 : r = 0 := by omega
          subst hr00
          have hix0 : ∀ u, Sem.run Try.prog (Instr.indexAt 33 (.slice (some ⟨g, 0, none⟩) n cap) (.int .i64 0)) u = .ok (.pointer (some ⟨g, 0, none⟩)) u := fun u => ix_own n cap 0 g (by omega) u
          have HD : Hid (es.set 0 m = srt (xs.take (k + 1)) ++ xs.drop (k + 1)) := by
            have := HI.out.1.put HM.out.2.1 (fun q' hq' => by omega)
            rw [HM.out.1] at this
            exact this
          clear hixr
          go_wp2_with (refine step_stE (by rfl) _ _ rfl B g n cap 0 (enV m) (by rfl) (by rfl) rfl rfl (by kernel_rfl) _ HL.out.1 HL.out.2 HI.out.2.1 ?_; intro w2 H2)
          go_roundw
          case rel =>
            refine ⟨k + 1, by go_num, by omega, ⟨?_, grownBy_trans HI.out.2.2 H2.out.2.1⟩⟩
            rw [← HD.out, ← enR_set]; exact H2.out.1
          case measure => simp [intOf]; omega
    · have HE : Hid (xs.take k = xs ∧ xs.drop k = []) := ⟨List.take_of_length_le (by have := HN.out; omega), List.drop_of_length_le (by have := HN.out; omega)⟩
      go_wp2_with fail
      rw [hQ2.out]
      show Q _ _ _
      rw [hQ.out]
      go_end0
      have h1 := HB.out.1
      rw [HE.out.1, HE.out.2, List.append_nil] at h1
      exact ⟨rfl, h1, HB.out.2⟩
set_option maxRecDepth 20000 in
set_option maxHeartbeats 400000 in
theorem sortEnds_nil (w : World) : Calls Try.prog 18 #[.slice none 0 0] w fun e w' => e = .returned (.tuple #[]) ∧ w' = w := by
  go_enter Try.func18, Try.ntmps18
  refine post_hid fun Q hQ => ?_
  refine wp_scope_straight ?_
  refine post_hid fun Q2 hQ2 => ?_
  go_wp2_with fail
  refine wp_label ?_
  go_wp2_with fail
  go_loopw [7] (fun i wr => i = .int .i64 0 ∧ wr = w) (fun i _ => 0)
  case atStart => exact ⟨rfl, rfl⟩
  case round =>
    obtain ⟨rfl, rfl⟩ := hrel
    go_wp2_with fail
    rw [hQ2.out]
    show Q _ _ _
    rw [hQ.out]
    go_end0
    exact ⟨rfl, rfl⟩
end Go.Proofs.Ytepbbaeamlimaab
