/- Decode against Encode: in lists. Fields that Decode has made, as Encode reads them. -/
import Derived.Test.YtdobghhjlfffpaaYEb
import Derived.Test.YtdobghhjlfffpaaYF
namespace Go.Proofs.Ytdobghhjlfffpaa
open Go.RowKit
theorem dcE_ok {bs : List Int} (h : dcE bs = 0) : 48 ≤ bs.length ∧ bs.length ≤ 512 ∧ vmB bs = true ∧ (dL 4 (bs.drop 48)).1 = 0 ∧ enE (dL 4 (bs.drop 48)).2.2 0 = 0 := by
  unfold dcE at h
  split at h
  · exact absurd h (by decide)
  · split at h
    · exact absurd h (by decide)
    · split at h
      · rename_i h1 h2 h3
        split at h
        · rename_i h4; exact ⟨by omega, by omega, h3, h4, h⟩
        · rename_i h4; exact absurd h h4
      · exact absurd h (by decide)
theorem pxL_mem {ps : List (Int × List Int)} {p : Int × List Int} (hp : p ∈ ps) {b : Int} (hb : b ∈ p.2) : b ∈ pxL ps := by
  unfold pxL
  rw [List.mem_flatten]
  exact ⟨_, List.mem_map.2 ⟨p, hp, rfl⟩, List.mem_append.2 (.inr hb)⟩
/-- what is read is written as it was -/
theorem dc_fwd {bs : List Int} {h : Hd} {xs : List Xt} {key : Int} {nak : Bool} {mac : List Int} (ho : okb bs) (hE : dcE bs = 0) (hv : dcV bs h xs key nak mac) :
    ckE h xs key nak mac.length = 0 ∧ enB h xs key nak mac = bs ∧ 0 ≤ h.rid ∧ h.rid < 4294967296 ∧ (bs.length : Int) % 4 = 0 ∧ bs.length ≤ 512 ∧ 48 ≤ bs.length ∧ (∀ x ∈ xs, okb x.dat ∧ x.dat.length ≤ 512) ∧ okb mac ∧ xs.length ≤ 4 ∧ mac.length ≤ 20 := by
  obtain ⟨l48, l512, hvm, hL, hEn⟩ := dcE_ok hE
  obtain ⟨v1, v2, v3, v4, v5⟩ := hv
  unfold vmB at hvm
  rw [Bool.and_eq_true] at hvm
  obtain ⟨hf, r0, r1⟩ := hd_ok ho hvm.1 hvm.2
  have ho2 := okb_drop ho 48
  obtain ⟨e1, e2, e3, e4⟩ := dL_fwd 4 (bs.drop 48) ho2 hL
  obtain ⟨R, hR⟩ : ∃ R, R = (dL 4 (bs.drop 48)).2.2 := ⟨_, rfl⟩
  rw [← hR] at e1 e3 hEn v3 v4 v5
  rw [← v2] at e1 e2 e4
  have hoR : okb R := fun b hb => ho2 b (by rw [e1]; exact List.mem_append.2 (.inr hb))
  obtain ⟨n1, n2, n3, n4⟩ := en_fwd hoR hEn
  rw [← v3, ← v4, ← v5] at n1 n2 n3
  have hxl : xs.length ≤ 4 := by unfold prs at e2; simpa using e2
  have hxb := sumP xs e4
  have hX := xsL_len xs
  rw [pxL_prs] at e1
  have hlen : ((bs.drop 48).length : Int) = sumX xs + R.length := by
    rw [e1, List.length_append]; omega
  rw [List.length_drop] at hlen
  have hmac : okb mac := by
    rw [v4]
    unfold enM
    split
    · exact (tk_okb (tk_okb hoR).2).1
    · exact okb_nil
  have hm20 := (df_ok (kd_ok n2).1).2.2.1
  have hsz : szI xs key nak mac.length = bs.length := by
    unfold szI
    cases nak
    · simp at n3 ⊢; omega
    · simp at n3 ⊢; omega
  have hs4 : ∀ ys : List Xt, (∀ p ∈ prs ys, (0 ≤ p.1 ∧ p.1 ≤ 65535) ∧ 24 ≤ (p.2.length : Int) ∧ (p.2.length : Int) % 4 = 0) → sumX ys % 4 = 0 ∧ ∀ y ∈ ys, (y.dat.length : Int) ≤ sumX ys := by
    intro ys
    induction ys with
    | nil => intro _; exact ⟨rfl, fun y hy => by cases hy⟩
    | cons y r ih =>
      intro hh
      obtain ⟨i1, i2⟩ := ih (fun p hp => hh p (by unfold prs at hp ⊢; rw [List.map_cons]; exact List.mem_cons_of_mem _ hp))
      have hy : (0 ≤ y.ty ∧ y.ty ≤ 65535) ∧ 24 ≤ (y.dat.length : Int) ∧ (y.dat.length : Int) % 4 = 0 := hh (y.ty, y.dat) (by unfold prs; simp)
      have es : sumX (y :: r) = 4 + y.dat.length + sumX r := by
        have h1 := xsL_len (y :: r)
        have h2 := xsL_len r
        rw [← h1, ← h2]
        unfold xsL xtL
        simp only [List.map_cons, List.flatten_cons, List.length_append, be_len]
        omega
      have hp0 := xsL_len r
      refine ⟨by rw [es]; omega, fun z hz => ?_⟩
      rcases List.mem_cons.1 hz with rfl | hz
      · rw [es]; omega
      · have := i2 z hz; rw [es]; omega
  obtain ⟨q1, q2⟩ := hs4 xs e4
  refine ⟨?_, ?_, by rw [v1]; exact r0, by rw [v1]; exact r1, by omega, l512, l48, fun x hx => ⟨fun b hb => ?_, ?_⟩, hmac, hxl, hm20⟩
  · unfold ckE
    rw [v1, hf, if_pos rfl, if_neg (by omega), hxb, n2, if_pos (by decide : (true && true) = true), if_neg (by rw [hsz]; omega)]
  · unfold enB msB
    rw [v1, hd_fwd ho l48, List.append_assoc, ← n1, List.append_assoc, ← e1, List.take_append_drop]
  · refine ho2 b ?_
    rw [e1, ← pxL_prs]
    exact List.mem_append.2 (.inl (pxL_mem (List.mem_map.2 ⟨x, hx, rfl⟩ : (x.ty, x.dat) ∈ prs xs) hb))
  · have := q2 x hx; omega
/-- what is written is read -/
theorem dc_back {h : Hd} {xs : List Xt} {key : Int} {nak : Bool} {mac : List Int} (hC : ckE h xs key nak mac.length = 0) (t0 : 0 ≤ h.t3) (t1 : h.t3 < 18446744073709551616) :
    dcE (enB h xs key nak mac) = 0 ∧ ((enB h xs key nak mac).length : Int) ≤ 512 ∧ ∀ h' xs' key' nak' mac', dcV (enB h xs key nak mac) h' xs' key' nak' mac' → h'.t3 = h.t3 ∧ h'.mode = h.mode ∧ key' = key ∧ xs'.length = xs.length := by
  obtain ⟨hf, hl4, hxo, hkd, hsz⟩ := ck_ok hC
  obtain ⟨_, _, _, _, a, b, c, _⟩ := hf_ok hf
  obtain ⟨bs, hbs⟩ : ∃ bs, bs = enB h xs key nak mac := ⟨_, rfl⟩
  rw [← hbs]
  obtain ⟨T, hT⟩ : ∃ T, T = dg key mac ++ nkL nak := ⟨_, rfl⟩
  have hb1 : bs = hdB h ++ (xsL xs ++ T) := by rw [hbs, hT]; unfold enB msB; simp only [List.append_assoc]
  obtain ⟨n1, n2, n3⟩ := en_back hkd
  rw [← hT] at n1 n2 n3
  have hX := xsL_len xs
  have hdz := dsz_le key mac.length
  have hs464 : sumX xs ≤ 464 := by unfold szI at hsz; split at hsz <;> omega
  have hd : ∀ x ∈ xs, (x.dat.length : Int) ≤ 60000 := fun x hx => by
    obtain ⟨i, hi, rfl⟩ := List.mem_iff_getElem.1 hx
    have h1 := sumX_take_le xs (i + 1)
    have h2 := sumX_take_le xs i
    have h3 := sumX_take xs i hi
    omega
  have d48 : bs.drop 48 = xsL xs ++ T := by rw [hb1, List.drop_left' (hdB_len h)]
  have hL := dL_back T n1 xs 4 hl4 hxo hd
  have hlT : (T.length : Int) = dsz key mac.length + (if nak = true then 4 else 0) := by
    rw [hT, List.length_append]
    have := dg_len key mac
    unfold nkL
    cases nak
    · simp; omega
    · simp [be_len]; omega
  have hlen : (bs.length : Int) = szI xs key nak mac.length := by
    rw [hb1, List.length_append, List.length_append, hdB_len]
    unfold szI
    cases nak
    · simp at hlT ⊢; omega
    · simp at hlT ⊢; omega
  have f0 : fv bs 0 1 = 64 * h.leap + 8 * h.ver + h.mode := by
    have e : bs.drop 0 = be 1 (64 * h.leap + 8 * h.ver + h.mode) ++ ((bs.drop 1)) := by
      rw [hb1, hdB_list]
      simp only [List.append_assoc, List.drop_zero]
      rw [List.drop_left' (be_len _ _)]
    unfold fv
    rw [e, List.take_left' (be_len _ _)]
    exact gt_be 1 _ (by omega) (by have : (256 : Int) ^ 1 = 256 := rfl; omega)
  have f40 : fv bs 40 8 = h.t3 := by
    have e : bs.drop 40 = be 8 h.t3 ++ (xsL xs ++ T) := by
      rw [hb1, hdB_list, List.append_assoc, List.drop_left']
      simp [be_len]
    unfold fv
    rw [e, List.take_left' (be_len _ _)]
    exact gt_be 8 _ t0 t1
  refine ⟨?_, by omega, ?_⟩
  · unfold dcE vmB
    rw [if_neg (by omega), if_neg (by rw [hb1, List.length_append, hdB_len]; omega), d48, hL, f0, wiB_t (by omega), wiB_t (by omega)]
    simp only [Bool.and_self, if_true]
    exact n2
  · rintro h' xs' key' nak' mac' ⟨v1, v2, v3, v4, v5⟩
    rw [d48, hL] at v2 v3
    refine ⟨by rw [v1]; exact f40, ?_, by rw [v3]; exact n3, ?_⟩
    · rw [v1]
      show fv bs 0 1 % 8 = h.mode
      rw [f0]
      omega
    · have := congrArg List.length v2
      unfold prs at this
      simpa using this
theorem OX.es {w : World} {B : Nat} {v : Value} {xs : List Xt} (h : OX w B v xs) (hd : ∀ x ∈ xs, okb x.dat) : Es w.heap.size w v xs := by
  have hdat : ∀ i (hi : i < xs.length), Sv w.heap.size w xs[i].dv xs[i].dat := fun i hi => (h.dat _ (List.getElem_mem hi)).sv (hd _ (List.getElem_mem hi))
  have hl := h.row.lt
  have hc := fun g hg => h.row.cells (g := g) hg
  rcases h.row.2 with ⟨h1, h2⟩ | ⟨g, cap, cur, h1, h2, h3, h4, _⟩
  · refine ⟨none, 0, by rw [h1, h2], by omega, fun _ => rfl, fun i hi => absurd hi (by omega)⟩
  · have hgl := (hl g (by rw [h1]; rfl)).2
    refine ⟨some ⟨g, 0, none⟩, cap, h1, h4, fun e => (by cases e), fun i hi => ⟨_, rfl, hgl, ?_, ?_, hdat i hi⟩⟩
    · exact hc g (by rw [h1]; rfl) _ _ (XU_get xs i hi).1
    · exact hc g (by rw [h1]; rfl) _ _ (XU_get xs i hi).2
end Go.Proofs.Ytdobghhjlfffpaa
