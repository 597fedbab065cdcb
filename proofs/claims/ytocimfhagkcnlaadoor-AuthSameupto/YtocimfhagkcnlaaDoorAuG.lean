/- Auth: what lent of the laws' package of layer 4 returns. -/
import Derived.Test.YtocimfhagkcnlaaDoorAuE
namespace Go.Proofs.YtocimfhagkcnlaaDoor
open Go Go.RowKit Go.Sort
set_option linter.unusedVariables false
theorem own_form {w : World} {B : Nat} {v : Value} {bs : List Int} (h : Own w B v bs) (h0 : 0 < bs.length) : ∃ g cap, v = .slice (some ⟨g, 0, none⟩) bs.length cap ∧ B ≤ g ∧ g < w.heap.size ∧ bs.length ≤ cap := by
  rcases h.2 with ⟨h1, h2⟩ | ⟨g, cap, cur, h1, h2, h3, h4, _⟩
  · omega
  · refine ⟨g, cap, h1, h2, ?_, h4⟩
    rcases Nat.lt_or_ge g w.heap.size with q | q
    · exact q
    · rw [Array.getElem?_eq_none q] at h3; cases h3
set_option maxRecDepth 20000 in
set_option maxHeartbeats 1000000 in
theorem lent04_any (N : Nat) (v : Value) (bs : List Int) (w : World) (hl : bs.length ≤ 2000000) (h : Sv N w v bs) (hN : N ≤ w.heap.size) :
    Calls Tryd.prog 9 #[v] w fun e w' => ∃ g cap, e = .returned (.slice (some ⟨g, 0, none⟩) bs.length cap) ∧ bs.length + 1 ≤ cap ∧ Hid (Own w' w.heap.size (.slice (some ⟨g, 0, none⟩) (bs.length + 1) cap) (bs ++ [167]) ∧ Below w.heap.size w w') := by
  have H : Hid (Sv N w v bs) := h
  have HL : Hid (bs.length ≤ 2000000) := hl
  obtain ⟨ao, c0, hv, _⟩ := h
  obtain ⟨n, hn⟩ : ∃ n, bs.length = n := ⟨_, rfl⟩
  have HNn : Hid (bs.length = n) := hn
  rw [hn] at hv ⊢
  subst hv
  clear hl hn
  go_enter Tryd.func9, Tryd.ntmps9
  refine post_hid fun Q hQ => ?_
  go_wp2_with (first
    | (at_builtin; refine wpList_app8 (by rfl) _ _ 23 (by rfl) Tryd.underlying23 w.heap.size N (.slice none 0 0) (.slice ao n c0) [] bs (by rfl) (by rfl) (Own.nil _ _) H.out (by have := HL.out; simp; omega) (Nat.le_refl _) ?_; intro v1 w1 ho hg hat; have HO : Hid (Own w1 w.heap.size v1 bs ∧ Below w.heap.size w w1) := ⟨by simpa using ho, (Below.refl _ _).grown hg (Nat.le_refl _) (fun k e => by simp [Value.ownBlock] at e)⟩; clear ho hg hat)
    | (at_builtin; refine wpList_app8 (by rfl) _ _ 23 (by rfl) Tryd.underlying23 w.heap.size (w1.heap.size + 1) v1 _ bs [167] (by rfl) (by rfl) (World.ownsRow.alloc HO.out.1 _) (Sv.one w1 167 (by decide) (by decide)) (by have := HL.out; simp; omega) (Nat.le_trans HO.out.2.size (by simp)) ?_; intro v2 w2 ho hg hat; have HO2 : Hid (Own w2 w.heap.size v2 (bs ++ [167]) ∧ Below w.heap.size w w2) := ⟨ho, (HO.out.2.alloc HO.out.2.size _).grown hg (Nat.le_trans HO.out.2.size (by simp)) (fun k e => own_lt' HO.out.1 k e)⟩; clear ho hg hat; obtain ⟨g, cp, hv2, _, _, hcp⟩ := own_form HO2.out.1 (by simp); rw [List.length_append, List.length_singleton, HNn.out] at hv2 hcp; subst hv2; have hcp2 : n ≤ cp := (by omega); have hcp3 : (n : Int) ≤ cp := (by omega)))
  rw [hQ.out]
  go_ret
  exact ⟨g, cp, rfl, hcp, HO2.out⟩
end Go.Proofs.YtocimfhagkcnlaaDoor
