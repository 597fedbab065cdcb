/- What the reference's get, clone and tail return. -/
import Derived.Test.YtdobghhjlfffpaaWL
import Derived.Test.YtdobghhjlfffpaaWJ
namespace Go.Proofs.Ytdobghhjlfffpaa
open Go.RowKit
set_option maxHeartbeats 1000000 in
theorem get_any (N : Nat) (v : Value) (T : List Int) (w : World) (h : Sv N w v T) (hl : T.length ≤ 8) :
    Calls Try.prog 43 #[v] w fun e w' => e = .returned (.int .u64 (gt T)) ∧ w' = w := by
  obtain ⟨ao, cap, rfl, hc, hcn, hrs, hok⟩ := h
  have HR : Hid (Rs N w ao T ∧ okb T) := ⟨hrs, hok⟩
  have hTl' : (T.length : Int) ≤ 8 := by omega
  have HTl : Hid (T.length ≤ 8) := hl
  clear hrs hok hc hcn hl
  go_enter Try.func43, Try.ntmps43
  go_wp2
  go_loop [3, 4] (fun x i => ∃ (k : Nat) (X : Int), x = .int .u64 X ∧ i = .int .i64 (k : Int) ∧ (k : Int) ≤ T.length ∧ Hid (X = gt (T.take k))) (fun _ i => (T.length - intOf i).toNat)
  case atStart => exact ⟨0, 0, rfl, rfl, by omega, by simp [gt, Hid]⟩
  case round =>
    obtain ⟨k, X, rfl, rfl, hk, hX⟩ := hrel
    by_cases hlt : (k : Int) < T.length
    · obtain ⟨ad, g1, g2⟩ := HR.out.1.at k (by omega)
      have hix : ∀ w, Sem.run Try.prog (Instr.indexAt 27 (.slice ao T.length cap) (.int .i64 (k : Int))) w = .ok (.pointer (some (ad.add k))) w := idx_run T.length cap k g1.out hlt
      obtain ⟨x0, x1⟩ := gt_lt HR.out.2 k (by have := HTl.out; omega)
      rw [← hX.out] at x0 x1
      obtain ⟨y0, y1⟩ := okb_at HR.out.2 k
      obtain ⟨b, hb⟩ : ∃ b, b = T.getD k 0 := ⟨_, rfl⟩
      rw [← hb] at y0 y1 g2
      have HB : Hid (b = T.getD k 0) := hb
      clear hb
      go_wp2
      refine ⟨⟨k + 1, _, rfl, by go_num, by omega, ?_⟩, by simp [intOf]; omega⟩
      show _ = _
      rw [take_snoc T k (by omega), gt_snoc, ← hX.out, ← HB.out]
    · go_wp2
      go_ret
      have : T.take k = T := List.take_of_length_le (by omega)
      rw [this] at hX
      exact ⟨by rw [← hX.out]; rfl, rfl⟩
set_option maxHeartbeats 1000000 in
theorem rclone_any (N : Nat) (v : Value) (cs : List Int) (w : World) (hl : cs.length ≤ 10000000) (h : Sv N w v cs) (hN : N ≤ w.heap.size) :
    Calls Try.prog 44 #[v] w fun e w' => ∃ v', e = .returned v' ∧ Below w.heap.size w w' ∧ Own w' w.heap.size v' cs := by
  have H : Hid (Sv N w v cs) := h
  clear h
  go_enter Try.func44, Try.ntmps44
  go_wp2_with (at_builtin; refine wpList_app8 (by rfl) _ _ 27 (by rfl) Try.underlying27 w.heap.size N _ _ [] cs (by rfl) (by rfl) (Own.fresh w w.heap.size (Nat.le_refl _)) (H.out.below ((Below.refl w.heap.size w).alloc (Nat.le_refl _) _) hN) (by simpa using hl) (by simp) ?_)
  intro v' w' ho hg hat
  have HO : Hid (Own w' w.heap.size v' cs ∧ Below w.heap.size w w') := ⟨by simpa using ho, ((Below.refl _ _).alloc (Nat.le_refl _) _).grown hg (by simp) (fun k e => by simp [Value.ownBlock] at e; omega)⟩
  obtain ⟨ao', cap', rfl, -⟩ := ho.rs
  clear ho hg hat
  go_wp2
  go_ret
  exact ⟨_, rfl, HO.out.2, by simpa using HO.out.1⟩
theorem Sv.take {N : Nat} {w : World} {ao : Option Addr} {cap n : Nat} {bs : List Int} (h : Sv N w (.slice ao n cap) bs) (j : Nat) (hj : j ≤ bs.length) : Sv N w (.slice ao j cap) (bs.take j) := by
  obtain ⟨ao', cap', hv, hc, hn, hr, ho⟩ := h
  injection hv with q1 q2 q3
  subst q1 q3
  exact ⟨_, _, by rw [List.length_take, Nat.min_eq_left hj], by rw [List.length_take]; omega, hn, hr.take j, okb_take ho j⟩
/-- what is left behind the first bytes: as the walk writes it -/
theorem Sv.dropA {N : Nat} {w : World} {ao : Option Addr} {cap n : Nat} {bs : List Int} (h : Sv N w (.slice ao n cap) bs) (j : Nat) : Sv N w (.slice (Option.map (fun x => x.add j) ao) (n - j) (cap - j)) (bs.drop j) := by
  obtain ⟨ao', cap', hv, hc, hn, hr, ho⟩ := h
  injection hv with q1 q2 q3
  subst q1 q3
  refine ⟨_, _, by rw [List.length_drop, q2], by rw [List.length_drop]; omega, fun e => ?_, hr.dropM j, okb_drop ho j⟩
  have := hn (by simpa using e)
  omega
theorem Sv.dropB {N : Nat} {w : World} {ao : Option Addr} {n cap : Nat} {bs : List Int} (h : Sv N w (.slice ao n cap) bs) : Sv N w (.slice ao (n - cap) 0) (bs.drop cap) := by
  obtain ⟨ao', cap', hv, hc, hn, hr, ho⟩ := h
  injection hv with q1 q2 q3
  subst q1 q3
  have : bs.drop cap = [] := List.drop_eq_nil_of_le hc
  rw [this]
  exact ⟨ao, 0, by rw [show n - cap = 0 by omega]; rfl, by simp, fun _ => rfl, Rs.nil _ _ _, okb_nil⟩
/-- what tail says -/
def TP (b : List Int) (k : Int) (mac : List Int) (ok : Value) : Prop := (ok = .bool true ∧ tG b ∧ k = tK b ∧ mac = b.drop 4) ∨ (ok = .bool false ∧ ¬ tG b)
set_option maxHeartbeats 2000000 in
theorem tail_any (N : Nat) (v : Value) (b : List Int) (w : World) (hl : b.length ≤ 10000000) (h : Sv N w v b) (hN : N ≤ w.heap.size) :
    Calls Try.prog 45 #[v] w fun e w' => ∃ (k : Int) (mv : Value) (mac : List Int) (ok : Value), e = .returned (.tuple #[.int .i64 k, mv, ok]) ∧ Below w.heap.size w w' ∧ Own w' w.heap.size mv mac ∧ TP b k mac ok := by
  have H : Hid (Sv N w v b) := h
  obtain ⟨ao, cap, rfl, hc, hcn, hrs, hok⟩ := h
  obtain ⟨L, hL⟩ : ∃ L, L = b.length := ⟨_, rfl⟩
  rw [← hL] at H ⊢
  have HL : Hid (L = b.length) := hL
  have hl' : (L : Int) ≤ 10000000 := by omega
  have hcL : (L : Int) ≤ cap := by omega
  have HB : Hid (okb b ∧ b.length ≤ 10000000) := ⟨hok, hl⟩
  clear hc hcn hrs hok hL hl
  by_cases l0 : L = 0
  · subst l0
    go_enter Try.func45, Try.ntmps45
    go_wp2
    go_ret3
    have hb : b = [] := List.length_eq_zero_iff.1 HL.out.symm
    subst hb
    exact ⟨0, _, [], _, rfl, Below.refl _ _, Own.nil _ _, .inl ⟨rfl, .inl rfl, rfl, rfl⟩⟩
  by_cases l20 : L = 20 ∨ L = 24
  · obtain ⟨X, hX⟩ : ∃ X, X = gt (b.take 4) := ⟨_, rfl⟩
    obtain ⟨g0, g1⟩ := gt4_bd (okb_take HB.out.1 4) (by rw [List.length_take]; omega)
    rw [← hX] at g0 g1
    have HX : Hid (X = fv b 0 4) := hX
    have HGt : Hid (∀ w', Sv N w' (.slice ao 4 cap) (b.take 4) → Calls Try.prog 43 #[.slice ao 4 cap] w' fun e w2 => e = .returned (.int .u64 X) ∧ w2 = w') := fun w' h => by
      rw [hX]; exact get_any N _ _ w' h (by rw [List.length_take]; omega)
    have hc4 : ¬ cap = 4 := by omega
    have HTG : Hid (tG b ↔ (1 ≤ X ∧ X ≤ 65535)) := by
      have := HL.out
      rw [this] at l20 l0
      show _ ↔ _
      unfold tG
      rw [HX.out]
      constructor
      · rintro (h | ⟨_, h⟩)
        · omega
        · exact h
      · intro h; exact .inr ⟨l20, h⟩
    have HTK : Hid (tK b = X) := by
      show _ = _
      unfold tK
      rw [if_neg (by rw [← HL.out]; exact l0), HX.out]
    clear hX l0
    have hX1 : X ≤ 65535 ∨ ¬ X ≤ 65535 := by omega
    have hX0 : 1 ≤ X ∨ ¬ 1 ≤ X := by omega
    rcases l20 with rfl | rfl
    all_goals
      rcases hX0 with hX0 | hX0
      all_goals
        rcases hX1 with hX1 | hX1
        all_goals
          go_enter Try.func45, Try.ntmps45
          go_wp2_with fail
          refine (HGt.out _ (H.out.take 4 (by have := HL.out; omega))).mono ?_
          rintro e' w1 ⟨rfl, hw⟩
          rw [hw]
          clear hw
          go_wp2_with fail
          refine (rclone_any N _ (b.drop 4) _ (by have := HB.out.2; rw [List.length_drop]; omega) (H.out.dropA 4) hN).mono ?_
          rintro e' w2 ⟨v2, rfl, hb2, ho2⟩
          have H2 : Hid (Below w.heap.size w w2 ∧ Own w2 w.heap.size v2 (b.drop 4)) := ⟨hb2, ho2⟩
          clear hb2 ho2
          go_wp2
          all_goals
            go_ret3
            refine ⟨X, v2, b.drop 4, _, rfl, H2.out.1, H2.out.2, ?_⟩
            first
            | exact .inl ⟨rfl, HTG.out.2 (by omega), HTK.out.symm, rfl⟩
            | exact .inr ⟨rfl, fun h => absurd (HTG.out.1 h) (by omega)⟩
            | exact .inr ⟨by show Value.bool (decide (X ≤ 65535)) = _; rw [decide_eq_false (show ¬ X ≤ 65535 by omega)], fun h => absurd (HTG.out.1 h) (by omega)⟩
            | exact .inl ⟨by show Value.bool (decide (X ≤ 65535)) = _; rw [decide_eq_true (show X ≤ 65535 by omega)], HTG.out.2 (by omega), HTK.out.symm, rfl⟩
  · have b0 : ((L : Int) == 0) = false := by rw [beq_eq_false_iff_ne]; omega
    have b2 : ((L : Int) != 20) = true := by rw [bne_iff_ne]; omega
    have b3 : ((L : Int) != 24) = true := by rw [bne_iff_ne]; omega
    have HT : Hid (¬ tG b) := by
      intro h
      have := HL.out
      rcases h with h | ⟨h, _⟩ <;> omega
    clear l0 l20
    go_enter Try.func45, Try.ntmps45
    go_wp2
    go_ret3
    exact ⟨0, _, [], _, rfl, Below.refl _ _, Own.nil _ _, .inr ⟨rfl, HT.out⟩⟩
end Go.Proofs.Ytdobghhjlfffpaa
