/- Auth: AES walked. -/
import Derived.Test.YtocimfhagkcnlaaDoorAM
import Derived.Deep.RegionHeldLaw
namespace Go.Proofs.YtocimfhagkcnlaaDoor
open Go Go.RowKit Go.Sort
set_option linter.unusedVariables false
set_option linter.unusedSimpArgs false
/-- AES of a key and a block -/
def aes (key b : List Int) : List Int := ofR (ciL key 10) b 10
theorem aes_ok {key b : List Int} (hk : key.length = 16) (k8 : ∀ x ∈ key, U8 x) (hb : b.length = 16) (h8 : ∀ x ∈ b, U8 x) : (aes key b).length = 16 ∧ ∀ x ∈ aes key b, U8 x :=
  ofR_ok (ciL_ok hk k8 10 (by omega)).2 hb h8 10
theorem bk_setCells {b : Nat} {T : TypeId} (vs : List Value) (o : Nat) (w : World) (cs : Array Value) (h : Bk b w cs T) : Bk b (w.setCells b o vs) ((vs.zipIdx o).foldl (fun cs (x : Value × Nat) => cs.setIfInBounds x.2 x.1) cs) T := by
  induction vs generalizing o w cs with
  | nil => exact h
  | cons v t ih => rw [List.zipIdx_cons, List.foldl_cons]; exact ih (o + 1) _ _ (h.set v)
theorem bk_setAll {b : Nat} {T : TypeId} (vs : List Value) (w : World) (cs : Array Value) (h : Bk b w cs T) (hl : vs.length = cs.size) : Bk b (w.setCells b 0 vs) vs.toArray T := by
  have := bk_setCells vs 0 w cs h
  rw [fold_put vs 0 cs (by omega)] at this
  rw [List.take_zero, Nat.zero_add, List.nil_append, List.drop_of_length_le (by simp; omega), List.append_nil] at this
  exact this
theorem setCells_far {b i : Nat} (hne : i ≠ b) (vs : List Value) (o : Nat) (w : World) : (w.setCells b o vs).heap[i]? = w.heap[i]? := by
  induction vs generalizing o w with
  | nil => rfl
  | cons v t ih => exact (ih (o + 1) _).trans (Below.heap_setCell w ⟨b, o, none⟩ v i hne)
theorem below_setCells {B b : Nat} {w0 : World} (vs : List Value) (o : Nat) (w : World) (hb : Below B w0 w) (hB : B ≤ b) : Below B w0 (w.setCells b o vs) := by
  induction vs generalizing o w with
  | nil => exact hb
  | cons v t ih => exact ih (o + 1) _ (hb.setCell (p := ⟨b, o, none⟩) hB _)
structure Ew (w W : World) (k b : List Int) : Prop where
  b0 : Bk w.heap.size W (by' k).toArray 22
  b1 : Bk (w.heap.size + 1) W (by' b).toArray 22
  b2 : Bk (w.heap.size + 2) W #[.int .u8 0, .int .u8 0, .int .u8 0, .int .u8 0, .int .u8 0, .int .u8 0, .int .u8 0, .int .u8 0, .int .u8 0, .int .u8 0, .int .u8 0, .int .u8 0, .int .u8 0, .int .u8 0, .int .u8 0, .int .u8 0] 22
  bl : Below w.heap.size w W
theorem Ew.below {w W V : World} {k b : List Int} (h : Ew w W k b) (hb : Below W.heap.size W V) : Ew w V k b :=
  ⟨h.b0.kept (hb.block _ h.b0.lt), h.b1.kept (hb.block _ h.b1.lt), h.b2.kept (hb.block _ h.b2.lt), h.bl.trans (hb.mono h.bl.size)⟩
theorem Ew.r0 {w W : World} {k b : List Int} (h : Ew w W k b) : W.rangeAt w.heap.size 0 (by' k) := fun j v hv => by rw [Nat.zero_add, h.b0.cell, List.getElem?_toArray]; exact hv
theorem Ew.r1 {w W : World} {k b : List Int} (h : Ew w W k b) : W.rangeAt (w.heap.size + 1) 0 (by' b) := fun j v hv => by rw [Nat.zero_add, h.b1.cell, List.getElem?_toArray]; exact hv
theorem Ew.t2 {w W : World} {k b : List Int} (h : Ew w W k b) : W.there (w.heap.size + 2) 0 16 := fun j hj => by
  rw [Nat.zero_add, h.b2.cell]
  refine ⟨?_, h.b2.frozen j⟩
  rw [Array.getElem?_eq_getElem (by show j < 16; exact hj)]
  rfl
set_option maxRecDepth 20000 in
set_option maxHeartbeats 400000 in
theorem aes_any (k b : List Int) (hk : k.length = 16) (k8 : ∀ x ∈ k, U8 x) (hb : b.length = 16) (b8 : ∀ x ∈ b, U8 x) (w : World) :
    Calls Tryd.prog 12 #[.agg (by' k).toArray, .agg (by' b).toArray] w fun e w' => e = .returned (.agg (by' (aes k b)).toArray) ∧ Below w.heap.size w w' := by
  have HK : Hid (k.length = 16 ∧ ∀ x ∈ k, U8 x) := ⟨hk, k8⟩
  have HB : Hid (b.length = 16 ∧ ∀ x ∈ b, U8 x) := ⟨hb, b8⟩
  clear hk k8 hb b8
  obtain ⟨A, hA⟩ : ∃ A, A = (by' k).toArray := ⟨_, rfl⟩
  obtain ⟨B, hB⟩ : ∃ B, B = (by' b).toArray := ⟨_, rfl⟩
  rw [← hA, ← hB]
  have HAB : Hid (A = (by' k).toArray ∧ B = (by' b).toArray) := ⟨hA, hB⟩
  clear hA hB
  obtain ⟨CL, hCL⟩ : ∃ l, l = ciL k 10 := ⟨_, rfl⟩
  obtain ⟨R, hR⟩ : ∃ r, r = aes k b := ⟨_, rfl⟩
  have HR : Hid (R = aes k b ∧ R.length = 16 ∧ R = ofR CL b 10) := ⟨hR, by rw [hR]; exact (aes_ok HK.out.1 HK.out.2 HB.out.1 HB.out.2).1, by rw [hR, hCL]; rfl⟩
  have HCL : Hid (CL = ciL k 10) := hCL
  rw [← hR]
  clear hR hCL
  go_enter Tryd.func12, Tryd.ntmps12
  refine seq_hid fun R0 hR0 => ?_
  go_wp2_with fail
  refine world_hid fun W0 hW0 => ?_
  have K0 : Hid (Ew w W0 k b) := by
    show Ew _ _ _ _
    rw [hW0.out]
    refine ⟨by rw [← HAB.out.1]; exact bk_alloc (bk_alloc (Bk.new w _ _) _) _, ?_, ?_, (((Below.refl _ _).alloc (Nat.le_refl _) _).alloc (by simp) _).alloc (by simp; omega) _⟩
    · have := Bk.new (w.alloc (.cells A 22)) B 22
      rw [size_alloc1] at this
      rw [← HAB.out.2]
      exact bk_alloc this _
    · have := Bk.new ((w.alloc (.cells A 22)).alloc (.cells B 22)) #[.int .u8 0, .int .u8 0, .int .u8 0, .int .u8 0, .int .u8 0, .int .u8 0, .int .u8 0, .int .u8 0, .int .u8 0, .int .u8 0, .int .u8 0, .int .u8 0, .int .u8 0, .int .u8 0, .int .u8 0, .int .u8 0] 22
      rw [size_alloc1, size_alloc1] at this
      exact this
  rw [hR0.out]
  clear hW0 hR0
  have r0 := K0.out.r0
  have r1 := K0.out.r1
  have u22 := Tryd.underlying22
  have ik : (Tryd.prog.info? 22).map (·.size) = some (by' k).length := by rw [by_len, HK.out.1]; kernel_rfl
  have ib : (Tryd.prog.info? 22).map (·.size) = some (by' b).length := by rw [by_len, HB.out.1]; kernel_rfl
  have ir : (Tryd.prog.info? 22).map (·.size) = some (by' R).length := by rw [by_len, HR.out.2.1]; kernel_rfl
  have lr : (by' R).length = 16 := by rw [by_len, HR.out.2.1]
  have or' := by_one' R
  have HN : Hid (∀ W, Ew w W k b → Calls Tryd.prog 34 #[.agg (by' k).toArray] W fun e w' => ∃ c, e = .returned (.pointer (some ⟨c, 0, none⟩)) ∧ Ew w w' k b ∧ Cq w' c CL) := fun W hW =>
    (newCipher_any k HK.out.1 HK.out.2 W).mono fun e w' h => by
      obtain ⟨c, h1, _, h3, h4⟩ := h
      exact ⟨c, h1, hW.below h4, by rw [HCL.out]; exact h3⟩
  have HO : Hid (∀ W c, Ew w W k b → Cq W c CL → Calls Tryd.prog 35 #[.pointer (some ⟨c, 0, none⟩), .agg (by' b).toArray] W fun e w' => e = .returned (.agg (by' R).toArray) ∧ Ew w w' k b) := fun W c hW hc =>
    (of_any c CL b HB.out.1 HB.out.2 W hc).mono fun e w' h => ⟨by rw [HR.out.2.2]; exact h.1, hW.below h.2⟩
  have KD : Hid (Ew w W0.drew k b) := ⟨K0.out.b0, K0.out.b1, K0.out.b2, K0.out.bl.drew⟩
  refine seq_hid fun R1 hR1 => ?_
  go_wp2_with fail
  refine wp_region_held_drew (S := fun w' => w'.rangeAt w.heap.size 0 (by' k) ∧ w'.rangeAt (w.heap.size + 1) 0 (by' b)) (by kernel_rfl) ⟨r0, r1⟩ (fun hHeld => ?_)
  refine wpAnyH_take (i := 0) (v := .agg (by' k).toArray) rfl (by kernel_rfl) (by kernel_rfl) (by kernel_rfl) (fun _ _ _ h => h) (yieldsIf_load_mid (by rfl) 22 (.tmp 2) rfl w.heap.size 0 rfl _ _ (fun _ h => h.1) u22 rfl ik) (by assumption) ?_
  try simp only [Act.put, List.setIfInBounds_toArray, List.set_cons_zero, List.set_cons_succ]
  refine wpAnyH_take (i := 2) (v := .agg (by' b).toArray) rfl (by kernel_rfl) (by kernel_rfl) (by kernel_rfl) (fun _ _ _ h => h) (yieldsIf_load_mid (by rfl) 22 (.tmp 3) rfl (w.heap.size + 1) 0 rfl _ _ (fun _ h => h.2) u22 rfl ib) (by assumption) ?_
  try simp only [Act.put, List.setIfInBounds_toArray, List.set_cons_zero, List.set_cons_succ]
  refine wpAnyH_ready (rs := [1]) (by kernel_rfl) (by simp) ?_
  refine AllReadyH.cons rfl (fun K hK => ?_) AllReadyH.nil
  go_simp
  go_wp2_with ((go_at_call 34; refine (HN.out _ KD.out).mono ?_; rintro _ w4 ⟨c, rfl, hw4, hc4⟩; have K4 : Hid (Ew w w4 k b ∧ Cq w4 c CL) := ⟨hw4, hc4⟩; clear hw4 hc4))
  refine hK.out _ _ ⟨K4.out.1.r0, K4.out.1.r1⟩ (fun hHeld => ?_)
  clear hK K
  refine wpAnyH_ready (rs := [3]) (by kernel_rfl) (by simp) ?_
  refine AllReadyH.cons rfl (fun K hK => ?_) AllReadyH.nil
  go_simp
  go_wp2_with ((go_at_call 35; refine (HO.out _ _ K4.out.1 K4.out.2).mono ?_; rintro _ w5 ⟨rfl, hw5⟩; have K5 : Hid (Ew w w5 k b) := hw5; clear hw5))
  refine hK.out _ _ ⟨K5.out.r0, K5.out.r1⟩ (fun hHeld => ?_)
  clear hK K
  refine wpAnyH_ready (rs := [4]) (by kernel_rfl) (by simp) ?_
  refine AllReadyH.cons rfl (fun K hK => ?_) AllReadyH.nil
  rw [if_pos (by rfl)]
  have TT : w5.there (w.heap.size + 2) 0 (by' R).toArray.size := by
    have e : (by' R).toArray.size = 16 := by rw [List.size_toArray, lr]
    rw [e]
    exact K5.out.t2
  refine wp_store_mid 22 (.tmp 4) (.tmp 8) rfl (w.heap.size + 2) 0 (by' R).toArray rfl rfl TT (by rw [List.size_toArray]; exact ir) (by_one R) ?_
  have HS : Hid (Bk w.heap.size (w5.setCells (w.heap.size + 2) 0 (by' R)) (by' k).toArray 22 ∧ Bk (w.heap.size + 1) (w5.setCells (w.heap.size + 2) 0 (by' R)) (by' b).toArray 22 ∧ Bk (w.heap.size + 2) (w5.setCells (w.heap.size + 2) 0 (by' R)) (by' R).toArray 22 ∧ Below w.heap.size w (w5.setCells (w.heap.size + 2) 0 (by' R))) :=
    ⟨K5.out.b0.kept (setCells_far (by omega) _ _ _), K5.out.b1.kept (setCells_far (by omega) _ _ _), bk_setAll _ _ _ K5.out.b2 (by rw [lr]; rfl), below_setCells _ _ _ K5.out.bl (by omega)⟩
  refine hK.out _ _ ⟨fun j v hv => by rw [Nat.zero_add, HS.out.1.cell, List.getElem?_toArray]; exact hv, fun j v hv => by rw [Nat.zero_add, HS.out.2.1.cell, List.getElem?_toArray]; exact hv⟩ (fun hHeld => ?_)
  clear hK K
  refine wpAnyH_done (by kernel_rfl) ?_ _
  go_wp2_with fail
  rw [hR1.out]
  clear hR1
  go_wp2_with fail

  refine bodyPost_ret (v := .agg (by' R).toArray) ?_ rfl ⟨rfl, HS.out.2.2.2⟩
  exact res_arr Tryd.results12 Tryd.underlying22 _ _ (w.heap.size + 2) (by' R).toArray (by rfl) HS.out.2.2.1 (by rw [List.size_toArray]; exact ir)
end Go.Proofs.YtocimfhagkcnlaaDoor
