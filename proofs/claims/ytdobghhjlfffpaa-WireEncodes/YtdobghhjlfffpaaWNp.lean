/- Fields of bytes. -/
import Derived.Test.YtdobghhjlfffpaaWJ
namespace Go.Proofs.Ytdobghhjlfffpaa
theorem gt_zero {T : List Int} (h : okb T) : gt T = 0 ↔ ∀ k, k < T.length → T.getD k 0 = 0 := by
  suffices H : ∀ j, j ≤ T.length → (gt (T.take j) = 0 ↔ ∀ k, k < j → T.getD k 0 = 0) by
    have := H T.length (Nat.le_refl _)
    rwa [List.take_length] at this
  intro j
  induction j with
  | zero => intro _; simp [gt]
  | succ j ih =>
    intro hj
    have h1 := ih (by omega)
    have h2 := okb_at h j
    have h3 := (gt_bd (okb_take h j)).1
    rw [take_snoc T j (by omega), gt_snoc]
    constructor
    · intro e k hk
      have e1 : gt (T.take j) = 0 := by omega
      rcases Nat.lt_or_ge k j with hl | hl
      · exact h1.1 e1 k hl
      · have : k = j := by omega
        subst this; omega
    · intro e
      rw [h1.2 (fun k hk => e k (by omega)), e j (by omega)]
      rfl
theorem fv1 (bs : List Int) (k : Nat) (h : k < bs.length) : fv bs k 1 = bs.getD k 0 := by
  unfold fv
  rw [List.drop_eq_getElem_cons h, List.getD_eq_getElem?_getD, List.getElem?_eq_getElem h]
  have : (bs[k] :: bs.drop (k + 1)).take 1 = [bs[k]] := rfl
  rw [this]
  show 0 * 256 + bs[k] = bs[k]
  omega
theorem fv2_bd {bs : List Int} (h : okb bs) (k : Nat) : 0 ≤ fv bs k 2 ∧ fv bs k 2 < 65536 := by
  have := gtn_bd (okb_take (okb_drop h k) 2) 2 (by rw [List.length_take]; omega) (by decide)
  exact ⟨this.1, this.2⟩
end Go.Proofs.Ytdobghhjlfffpaa
