/- Auth: SHA. -/
import Derived.Test.YtocimfhagkcnlaaDoorAD
import Derived.Test.YtocimfhagkcnlaaDoorAX
import Derived.Laws.CopyRow
namespace Go.Proofs.YtocimfhagkcnlaaDoor
open Go Go.RowKit Go.Sort
set_option linter.unusedVariables false
def sh0 : S8 := ⟨1779033703, 3144134277, 1013904242, 2773480762, 1359893119, 2600822924, 528734635, 1541459225⟩
/-- the state behind so many whole blocks -/
def shF (bs : List Int) : Nat → S8
  | 0 => sh0
  | n + 1 => beh (shF bs n) ((bs.drop (64 * n)).take 64)
/-- what is left, filled, and marked -/
def fl0 (r : List Int) : List Int := r ++ List.replicate (64 - r.length) 0
def fl1 (r : List Int) : List Int := (fl0 r).set r.length 128
def shE (bs r : List Int) (s : S8) : List Int :=
  if 56 ≤ r.length then bB (s8L (beh (beh s (fl1 r)) (pB (List.replicate 64 0) (((bs.length : Int) * 8) % 18446744073709551616) 8))) 32
  else bB (s8L (beh s (pB (fl1 r) (((bs.length : Int) * 8) % 18446744073709551616) 8))) 32
def sha (bs : List Int) : List Int := shE bs (bs.drop (64 * (bs.length / 64))) (shF bs (bs.length / 64))
theorem fl0_len (r : List Int) (h : r.length ≤ 64) : (fl0 r).length = 64 := by unfold fl0; simp; omega
theorem fl1_len (r : List Int) (h : r.length ≤ 64) : (fl1 r).length = 64 := by unfold fl1; rw [List.length_set, fl0_len r h]
theorem fl0_ok (r : List Int) (h : okb r) : okb (fl0 r) := by
  unfold fl0
  refine okb_app h (fun b hb => ?_)
  have := List.eq_of_mem_replicate hb
  omega
theorem set_ok (r : List Int) (k : Nat) (x : Int) (h : okb r) (x0 : 0 ≤ x) (x1 : x < 256) : okb (r.set k x) := fun b hb => by
  rcases List.mem_or_eq_of_mem_set hb with q | q
  · exact h b q
  · omega
theorem pB_ok (xs : List Int) (c : Int) (n : Nat) (h : okb xs) : okb (pB xs c n) := by
  induction n with
  | zero => exact h
  | succ n ih => rw [pB]; exact set_ok _ _ _ ih (by omega) (by omega)
theorem behind_wd (s : S8) (b : List Int) (hb : b.length = 64) (h0 : okb b) (w : World) (hk : Kt w) :
    Calls Tryd.prog 28 #[.agg (wd (s8L s)).toArray, .agg (by' b).toArray] w fun e w' => e = .returned (.agg (wd (s8L (beh s b))).toArray) ∧ Below w.heap.size w w' := behind_any s b hb h0 w hk
/-- where SHA's own blocks lie -/
structure Zw (w wr : World) (s : S8) : Prop where
  b0 : Bk w.heap.size wr #[.int .u8 0, .int .u8 0, .int .u8 0, .int .u8 0, .int .u8 0, .int .u8 0, .int .u8 0, .int .u8 0, .int .u8 0, .int .u8 0, .int .u8 0, .int .u8 0, .int .u8 0, .int .u8 0, .int .u8 0, .int .u8 0, .int .u8 0, .int .u8 0, .int .u8 0, .int .u8 0, .int .u8 0, .int .u8 0, .int .u8 0, .int .u8 0, .int .u8 0, .int .u8 0, .int .u8 0, .int .u8 0, .int .u8 0, .int .u8 0, .int .u8 0, .int .u8 0] 26
  b1 : Bk (w.heap.size + 1) wr (wd (s8L s)).toArray 49
  bl : Below w.heap.size w wr
theorem Zw.below {w wr w' : World} {s : S8} (h : Zw w wr s) (hb : Below wr.heap.size wr w') : Zw w w' s :=
  ⟨h.b0.kept (hb.block _ h.b0.lt), h.b1.kept (hb.block _ h.b1.lt), h.bl.trans (hb.mono h.bl.size)⟩
theorem Zw.row {w wr : World} {s : S8} (h : Zw w wr s) (t : S8) : Zw w (wr.setRow (w.heap.size + 1) (wd (s8L t)).toArray) t :=
  ⟨bk_row h.b0 (by omega), h.b1.row _, below_row h.bl (by omega) _⟩
theorem hAP (ao : Option Addr) (n cap : Nat) (hn : 64 ≤ n) (u : World) : Sem.run Tryd.prog (Instr.arrayAt 51 (.slice ao n cap)) u = .ok (.pointer ao) u := by
  have h1 : ¬ n < 64 := by omega
  unfold Instr.arrayAt
  have r1 : ∀ w, Sem.run Tryd.prog (underlying 51) w = .ok (.array 64 5) w := run_underlying Tryd.underlying51
  go_simp
theorem info49 (s : S8) : (Tryd.prog.info? 49).map (·.size) = some (wd (s8L s)).toArray.size := by kernel_rfl
theorem info49L (s : S8) : (Tryd.prog.info? 49).map (·.size) = some (wd (s8L s)).length := by kernel_rfl
theorem info51 {l : List Int} (h : l.length = 64) : (Tryd.prog.info? 51).map (·.size) = some (by' l).toArray.size := by rw [List.size_toArray, by_len, h]; kernel_rfl
theorem info51L {l : List Int} (h : l.length = 64) : (Tryd.prog.info? 51).map (·.size) = some (by' l).length := by rw [by_len, h]; kernel_rfl
/-- beside the last block -/
structure Vw (w wr : World) (s : S8) (p5 : Nat) (l : List Int) : Prop where
  z : Zw w wr s
  b5 : Bk p5 wr (by' l).toArray 51
  ne : w.heap.size + 1 < p5
theorem Vw.below {w wr w' : World} {s : S8} {p5 : Nat} {l : List Int} (h : Vw w wr s p5 l) (hb : Below wr.heap.size wr w') : Vw w w' s p5 l :=
  ⟨h.z.below hb, h.b5.kept (hb.block _ h.b5.lt), h.ne⟩
theorem Vw.row {w wr : World} {s : S8} {p5 : Nat} {l : List Int} (h : Vw w wr s p5 l) (t : S8) : Vw w (wr.setRow (w.heap.size + 1) (wd (s8L t)).toArray) t p5 l :=
  ⟨h.z.row t, bk_row h.b5 (by have := h.ne; omega), h.ne⟩
theorem Vw.mod {w wr w' : World} {s : S8} {p5 : Nat} {l l' : List Int} (h : Vw w wr s p5 l) (hb : Bk p5 w' (by' l').toArray 51) (hg : wr.grownBy w' (some p5)) : Vw w w' s p5 l' := by
  have hn := h.ne
  have l0 := h.z.b0.lt
  have l1 := h.z.b1.lt
  exact ⟨⟨h.z.b0.kept (hg.block _ l0 (by intro e; injection e with e; omega)), h.z.b1.kept (hg.block _ l1 (by intro e; injection e with e; omega)), h.z.bl.grown hg (by omega) (fun q e => by injection e with e; omega)⟩, hb, hn⟩
theorem Vw.set5 {w wr : World} {s : S8} {p5 : Nat} {l : List Int} (h : Vw w wr s p5 l) (k : Nat) (x : Int) : Vw w (wr.setCell ⟨p5, k, none⟩ (.int .u8 x)) s p5 (l.set k x) :=
  h.mod (by have := h.b5.set (j := k) (.int .u8 x); rw [by_set] at this; exact this) (grownBy_set _ ⟨p5, k, none⟩ _)
theorem Vw.row5 {w wr : World} {s : S8} {p5 : Nat} {l : List Int} (h : Vw w wr s p5 l) (l' : List Int) : Vw w (wr.setRow p5 (by' l').toArray) s p5 l' :=
  h.mod (h.b5.row _) (grownBy_row _ _ _)
/-- what is left is copied to the beginning of the last block -/
theorem copy_last (N : Nat) (ao : Option Addr) (n cap : Nat) (r : List Int) (w : World) (h : Sv N w (.slice ao n cap) r) (hr : r.length ≤ 64) (hN : N ≤ w.heap.size) : ∃ w2, (Builtin.copy_ #[23, 23] 3 #[.slice (some ⟨w.heap.size, 0, none⟩) 64 64, .slice ao n cap]).run Tryd.prog (w.alloc (.cells #[.int .u8 0, .int .u8 0, .int .u8 0, .int .u8 0, .int .u8 0, .int .u8 0, .int .u8 0, .int .u8 0, .int .u8 0, .int .u8 0, .int .u8 0, .int .u8 0, .int .u8 0, .int .u8 0, .int .u8 0, .int .u8 0, .int .u8 0, .int .u8 0, .int .u8 0, .int .u8 0, .int .u8 0, .int .u8 0, .int .u8 0, .int .u8 0, .int .u8 0, .int .u8 0, .int .u8 0, .int .u8 0, .int .u8 0, .int .u8 0, .int .u8 0, .int .u8 0, .int .u8 0, .int .u8 0, .int .u8 0, .int .u8 0, .int .u8 0, .int .u8 0, .int .u8 0, .int .u8 0, .int .u8 0, .int .u8 0, .int .u8 0, .int .u8 0, .int .u8 0, .int .u8 0, .int .u8 0, .int .u8 0, .int .u8 0, .int .u8 0, .int .u8 0, .int .u8 0, .int .u8 0, .int .u8 0, .int .u8 0, .int .u8 0, .int .u8 0, .int .u8 0, .int .u8 0, .int .u8 0, .int .u8 0, .int .u8 0, .int .u8 0, .int .u8 0] 51)) = .ok (.int .i64 (n : Int)) w2 ∧ w2.heap.size = w.heap.size + 1 ∧ Bk w.heap.size w2 (by' (fl0 r)).toArray 51 ∧ Below w.heap.size w w2 := by
  have hZr : (#[.int .u8 0, .int .u8 0, .int .u8 0, .int .u8 0, .int .u8 0, .int .u8 0, .int .u8 0, .int .u8 0, .int .u8 0, .int .u8 0, .int .u8 0, .int .u8 0, .int .u8 0, .int .u8 0, .int .u8 0, .int .u8 0, .int .u8 0, .int .u8 0, .int .u8 0, .int .u8 0, .int .u8 0, .int .u8 0, .int .u8 0, .int .u8 0, .int .u8 0, .int .u8 0, .int .u8 0, .int .u8 0, .int .u8 0, .int .u8 0, .int .u8 0, .int .u8 0, .int .u8 0, .int .u8 0, .int .u8 0, .int .u8 0, .int .u8 0, .int .u8 0, .int .u8 0, .int .u8 0, .int .u8 0, .int .u8 0, .int .u8 0, .int .u8 0, .int .u8 0, .int .u8 0, .int .u8 0, .int .u8 0, .int .u8 0, .int .u8 0, .int .u8 0, .int .u8 0, .int .u8 0, .int .u8 0, .int .u8 0, .int .u8 0, .int .u8 0, .int .u8 0, .int .u8 0, .int .u8 0, .int .u8 0, .int .u8 0, .int .u8 0, .int .u8 0] : Array Value) = (List.replicate 64 (Value.int .u8 0)).toArray := rfl
  rw [hZr]
  obtain ⟨ao', cap', hv, h1, h2, h3, h4⟩ := h
  injection hv with p1 p2 p3
  subst p1 p3
  subst p2
  have hb0 : Below w.heap.size w (w.alloc (.cells (List.replicate 64 (Value.int .u8 0)).toArray 51)) := (Below.refl _ _).alloc (Nat.le_refl _) _
  cases ao with
  | none =>
    have h0 : r.length = 0 := by have := h2 rfl; omega
    have hrn : r = [] := List.eq_nil_of_length_eq_zero h0
    subst hrn
    have hc : cap = 0 := h2 rfl
    subst hc
    refine ⟨_, run_copy_nil (P := Tryd.prog) _ _ _ _ 5 _ 64 64 Tryd.underlying23 (by kernel_rfl), by simp, ?_, hb0⟩
    exact Bk.new w (List.replicate 64 (Value.int .u8 0)).toArray 51
  | some ad =>
    have hrun := run_copy_row (P := Tryd.prog) (w.alloc (.cells (List.replicate 64 (Value.int .u8 0)).toArray 51)) 23 23 3 5 w.heap.size 0 64 64 ad r.length cap (List.replicate 64 (Value.int .u8 0)).toArray 51 (U r) Tryd.underlying23 (by kernel_rfl) (heap_alloc_new w _) (by rw [U_len]; exact (Nat.min_eq_left hr).symm) (fun j u hu => ?_) (by rw [U_len]; simp; omega) (U_one r)
    · rw [U_len] at hrun
      refine ⟨_, hrun, by simp [World.setRow], ?_, below_row hb0 (Nat.le_refl _) _⟩
      have e : (((List.replicate 64 (Value.int .u8 0)).toArray : Array Value).toList.take 0 ++ U r ++ ((List.replicate 64 (Value.int .u8 0)).toArray : Array Value).toList.drop (0 + r.length)).toArray = (by' (fl0 r)).toArray := by
        unfold fl0 by' U
        rw [List.map_append, List.map_replicate]
        simp only [List.take_zero, List.nil_append, Nat.zero_add, List.drop_replicate]
      rw [e]
      exact (Bk.new w (List.replicate 64 (Value.int .u8 0)).toArray 51).row _
    · exact (h3.below ((Below.refl N w).alloc hN _) (Nat.le_refl _)).news j u hu
set_option maxRecDepth 20000 in
set_option maxHeartbeats 8000000 in
theorem sha_any (v : Value) (bs : List Int) (w : World) (h : Sv w.heap.size w v bs) (hl : bs.length ≤ 1000000000) (hk : Kt w) :
    Calls Tryd.prog 10 #[v] w fun e w' => e = .returned (.agg (by' (sha bs)).toArray) ∧ Below w.heap.size w w' := by
  have H : Hid (Sv w.heap.size w v bs) := h
  have HK : Hid (Kt w) := hk
  have hok : okb bs := by obtain ⟨_, _, _, _, _, _, q⟩ := h; exact q
  have HOK : Hid (okb bs ∧ bs.length ≤ 1000000000) := ⟨hok, hl⟩
  obtain ⟨ao, cap, rfl, -⟩ := h
  obtain ⟨L, hL⟩ : ∃ n, n = bs.length := ⟨_, rfl⟩
  have HL : Hid (L = bs.length) := hL
  rw [← hL] at H ⊢
  clear hL hl hk hok
  go_enter Tryd.func10, Tryd.ntmps10
  refine post_hid fun Q hQ => ?_
  refine seq_hid fun R0 hR0 => ?_
  go_wp2_with fail
  rw [hR0.out]
  clear hR0
  refine seq_hid fun R1 hR1 => ?_
  go_wp2_with fail
  obtain ⟨W1, hW1⟩ : ∃ W, W = (w.alloc (.cells #[.int .u8 0, .int .u8 0, .int .u8 0, .int .u8 0, .int .u8 0, .int .u8 0, .int .u8 0, .int .u8 0, .int .u8 0, .int .u8 0, .int .u8 0, .int .u8 0, .int .u8 0, .int .u8 0, .int .u8 0, .int .u8 0, .int .u8 0, .int .u8 0, .int .u8 0, .int .u8 0, .int .u8 0, .int .u8 0, .int .u8 0, .int .u8 0, .int .u8 0, .int .u8 0, .int .u8 0, .int .u8 0, .int .u8 0, .int .u8 0, .int .u8 0, .int .u8 0] 26)).alloc (.cells #[.int .u32 1779033703, .int .u32 3144134277, .int .u32 1013904242, .int .u32 2773480762, .int .u32 1359893119, .int .u32 2600822924, .int .u32 528734635, .int .u32 1541459225] 49) := ⟨_, rfl⟩
  have K1 : Hid (Zw w W1 sh0) := by
    rw [hW1]
    refine ⟨bk_alloc (Bk.new w _ _) _, ?_, ((Below.refl _ _).alloc (Nat.le_refl _) _).alloc (by simp) _⟩
    have := Bk.new (w.alloc (.cells #[.int .u8 0, .int .u8 0, .int .u8 0, .int .u8 0, .int .u8 0, .int .u8 0, .int .u8 0, .int .u8 0, .int .u8 0, .int .u8 0, .int .u8 0, .int .u8 0, .int .u8 0, .int .u8 0, .int .u8 0, .int .u8 0, .int .u8 0, .int .u8 0, .int .u8 0, .int .u8 0, .int .u8 0, .int .u8 0, .int .u8 0, .int .u8 0, .int .u8 0, .int .u8 0, .int .u8 0, .int .u8 0, .int .u8 0, .int .u8 0, .int .u8 0, .int .u8 0] 26)) #[.int .u32 1779033703, .int .u32 3144134277, .int .u32 1013904242, .int .u32 2773480762, .int .u32 1359893119, .int .u32 2600822924, .int .u32 528734635, .int .u32 1541459225] 49
    rw [size_alloc1] at this
    exact this
  rw [← hW1, hR1.out]
  clear hW1 hR1
  refine seq_hid fun R2 hR2 => ?_
  go_wp2_with fail
  rw [hR2.out]
  clear hR2
  refine seq_hid fun R3 hR3 => ?_
  go_wp2_with fail
  go_loopw [4] (fun r wr => ∃ (n : Nat) (ao2 : Option Addr) (L2 cap2 : Nat), r = .slice ao2 L2 cap2 ∧ Hid (64 * n + L2 = bs.length ∧ Sv w.heap.size w (.slice ao2 L2 cap2) (bs.drop (64 * n)) ∧ Zw w wr (shF bs n))) (fun r _ => match r with | .slice _ n _ => n | _ => 0)
  case atStart => exact ⟨0, ao, L, cap, rfl, by have := HL.out; omega, by simpa using H.out, K1.out⟩
  case round =>
    clear K1
    obtain ⟨n, ao2, L2, cap2, rfl, hK⟩ := hrel
    obtain ⟨LI, hLI⟩ : ∃ x : Int, (L2 : Int) = x := ⟨_, rfl⟩
    have HLI : Hid ((L2 : Int) = LI) := hLI
    by_cases h64 : 64 ≤ LI
    · have hl64 : 64 ≤ L2 := by omega
      have HL64 : Hid (64 ≤ L2 ∧ L2 = (bs.drop (64 * n)).length) := ⟨hl64, by rw [List.length_drop]; have := hK.out.1; omega⟩
      obtain ⟨st, hst⟩ : ∃ st, st = shF bs n := ⟨_, rfl⟩
      obtain ⟨bk, hbk⟩ : ∃ bk, bk = (bs.drop (64 * n)).take 64 := ⟨_, rfl⟩
      have HST : Hid (shF bs (n + 1) = beh st bk ∧ Zw w wr st ∧ bk.length = 64 ∧ okb bk) := by
        refine ⟨by rw [shF, hst, hbk], by rw [hst]; exact hK.out.2.2, by rw [hbk, List.length_take]; have := HL64.out; omega, by rw [hbk]; exact okb_take (okb_drop HOK.out.1 _) _⟩
      obtain ⟨ad, had, hRs⟩ : ∃ ad, ao2 = some ad ∧ Rs w.heap.size w (some ad) bk := by
        obtain ⟨ao', cap', hv, -, -, h3, -⟩ := hK.out.2.1
        injection hv with p1
        subst p1
        obtain ⟨ad, e, -⟩ := h3 0 (by have := HL64.out; omega)
        refine ⟨ad, e, ?_⟩
        rw [hbk, ← e]
        exact h3.take 64
      subst had
      have hap := hAP (some ad) L2 cap2 hl64
      obtain ⟨sd, rsd, qsd⟩ := sub_drop hK.out.2.1 64 64 rfl (by have := HL64.out; omega)
      obtain ⟨ao3, cap3, hsd, -⟩ := id qsd
      obtain ⟨L3, hL3⟩ : ∃ l, l = ((bs.drop (64 * n)).drop 64).length := ⟨_, rfl⟩
      rw [← hL3] at hsd
      subst hsd
      have HN : Hid (64 * (n + 1) + L3 = bs.length ∧ Sv w.heap.size w (.slice ao3 L3 cap3) (bs.drop (64 * (n + 1))) ∧ L3 < L2) := by
        refine ⟨by rw [hL3, List.length_drop, List.length_drop]; have := hK.out.1; omega, ?_, by rw [hL3, List.length_drop, ← HL64.out.2]; omega⟩
        rw [List.drop_drop] at qsd
        rw [show 64 * (n + 1) = 64 * n + 64 by omega]
        exact qsd
      have HC3 : Hid (∀ w', (∃ q : Regrown, w' = grow (redrawn wr q.d) q.os) → ∀ j u, (wd (s8L st))[j]? = some u → w'.cell? ((⟨w.heap.size + 1, 0, none⟩ : Addr).add j) = some u) := by
        rintro _ ⟨q, rfl⟩ j u hu
        refine cell_regrown ?_ _ _
        rw [add_own, HST.out.2.1.b1.cell, List.getElem?_toArray]
        exact hu
      have HC5 : Hid (∀ w', (∃ q : Regrown, w' = grow (redrawn wr q.d) q.os) → ∀ j u, (by' bk)[j]? = some u → w'.cell? (ad.add j) = some u) := by
        rintro _ ⟨q, rfl⟩ j u hu
        exact cell_regrown ((hRs.below HST.out.2.1.bl (Nat.le_refl _)).news j u hu) _ _
      have HOLD : Hid (∀ d os, Calls Tryd.prog 28 #[.agg (wd (s8L st)).toArray, .agg (by' bk).toArray] (grow (redrawn wr d) os) fun e w'' => e = .returned (.agg (wd (s8L (beh st bk))).toArray) ∧ ∃ p : Regrown, w'' = grow (redrawn wr p.d) p.os) := fun d os =>
        Calls.regrown_of (behind_wd st bk HST.out.2.2.1 HST.out.2.2.2 _ (HK.out.below (HST.out.2.1.bl.trans ((below_regrown wr d os).mono HST.out.2.1.bl.size)) HK.out.1))
      have I51 : Hid ((Tryd.prog.info? 51).map (·.size) = some (by' bk).length) := info51L HST.out.2.2.1
      clear hK hst hbk hRs qsd hL3 hl64
      go_wp2_with fail
      refine wp_region_last_belowT (by kernel_rfl) (by kernel_rfl) (by rfl) (by kernel_rfl) ?_
      simp only [idleLast, idle]
      repeat (first | (refine quiet_ld6 (by rfl) 49 _ rfl ⟨w.heap.size + 1, 0, none⟩ (by rfl) (wd (s8L st)) _ Tryd.underlying49 rfl (info49L st) HC3.out ?_) | (refine quiet_ld6 (by rfl) 51 _ rfl ad (by rfl) (by' bk) _ Tryd.underlying51 rfl I51.out HC5.out ?_) | (quiet_step (exact HOLD.out _ _)))
      refine wpQuiet_nil ?_
      intro _ hw'
      obtain ⟨⟨dq, osq⟩, hw''⟩ := hw'
      subst hw''
      have ZG : Hid (Zw w (grow (redrawn wr dq) osq) st) := HST.out.2.1.below (below_regrown wr dq osq)
      have HBH : Hid ((grow (redrawn wr dq) osq).heap[w.heap.size + 1]? = some (.cells (wd (s8L st)).toArray 49 (0, 0))) := ZG.out.b1
      refine wpOp_st _ (by rfl) rfl _ _ rfl (wd (s8L (beh st bk))).toArray (by rfl) (by rfl) _ HBH.out (info49 _) (by rfl) (wd_one _) ?_
      have ZN : Hid (Zw w ((grow (redrawn wr dq) osq).setRow (w.heap.size + 1) (wd (s8L (beh st bk))).toArray) (shF bs (n + 1))) := by show Zw _ _ _; rw [HST.out.1]; exact ZG.out.row _
      clear HC3 HC5 HOLD ZG HBH
      go_wp2_with fail
      exact ⟨⟨n + 1, ao3, L3, cap3, rfl, HN.out.1, HN.out.2.1, ZN.out⟩, HN.out.2.2⟩
    · have hl64 : L2 < 64 := by omega
      obtain ⟨st, hst⟩ : ∃ st, st = shF bs n := ⟨_, rfl⟩
      obtain ⟨r, hr⟩ : ∃ r, r = bs.drop (64 * n) := ⟨_, rfl⟩
      have HR : Hid (r.length = L2 ∧ L2 < 64 ∧ okb r ∧ Sv w.heap.size w (.slice ao2 L2 cap2) r ∧ Zw w wr st ∧ sha bs = shE bs r st) := by
        refine ⟨by rw [hr, List.length_drop]; have := hK.out.1; omega, hl64, by rw [hr]; exact okb_drop HOK.out.1 _, by rw [hr]; exact hK.out.2.1, by rw [hst]; exact hK.out.2.2, ?_⟩
        have e : bs.length / 64 = n := by have := hK.out.1; omega
        rw [sha, e, hr, hst]
      have HF1 : Hid (okb (fl1 r)) := set_ok _ _ _ (fl0_ok r HR.out.2.2.1) (by omega) (by omega)
      obtain ⟨w2, hcp, hs2, hb2, hbl2⟩ := copy_last w.heap.size ao2 L2 cap2 r wr (HR.out.2.2.2.1.below HR.out.2.2.2.2.1.bl (Nat.le_refl _)) (by have := HR.out; omega) HR.out.2.2.2.2.1.bl.size
      have V2 : Hid (Vw w w2 st wr.heap.size (fl0 r)) := ⟨HR.out.2.2.2.2.1.below hbl2, hb2, HR.out.2.2.2.2.1.b1.lt⟩
      have hix : ∀ u, Sem.run Tryd.prog (Instr.indexAt 51 (.pointer (some ⟨wr.heap.size, 0, none⟩)) (.int .i64 LI)) u = .ok (.pointer (some ⟨wr.heap.size, L2, none⟩)) u := fun u => by rw [← HLI.out]; exact aidxB Tryd.underlying51 _ L2 (by omega) u
      obtain ⟨y5, hy5⟩ : ∃ y, y = (fl0 r).getD L2 0 := ⟨_, rfl⟩
      have c5 : w2.cell? ⟨wr.heap.size, L2, none⟩ = some (.int .u8 y5) := by rw [V2.out.b5.cell, hy5]; exact by_get _ _ (by rw [fl0_len r (by have := HR.out; omega)]; omega)
      have f5 : w2.frozen? ⟨wr.heap.size, L2, none⟩ = false := V2.out.b5.frozen L2
      have V3 : Hid (Vw w (w2.setCell ⟨wr.heap.size, L2, none⟩ (.int .u8 128)) st wr.heap.size (fl1 r)) := by
        have := V2.out.set5 L2 128
        unfold fl1
        rw [HR.out.1]
        exact this
      obtain ⟨LB, hLB⟩ : ∃ x : Int, (L : Int) = x := ⟨_, rfl⟩
      obtain ⟨C, hC⟩ : ∃ C : Int, C = LB * 8 % 18446744073709551616 := ⟨_, rfl⟩
      have HC : Hid (((bs.length : Int) * 8) % 18446744073709551616 = C ∧ 0 ≤ C) := ⟨by rw [hC, ← hLB, HL.out], by omega⟩
      have b0 : 0 ≤ LB := by omega
      have b1 : LB ≤ 1000000000 := by have := HOK.out.2; have := HL.out; omega
      have e1 : IntKind.u64.wrap LB = LB := by rw [IntKind.wrap_u64]; omega
      have e2 : IntKind.u64.wrap (LB * 8) = C := by rw [IntKind.wrap_u64, hC]
      have J3 : Hid ((Tryd.prog.info? 51).map (·.size) = some (by' (fl1 r)).toArray.size) := info51 (fl1_len r (by have := HR.out; omega))
      have HL1 : Hid ((fl1 r).length = 64) := fl1_len r (by have := HR.out; omega)
      have hlt0 : LI < 64 := by omega
      have hge0 : 0 ≤ LI := by omega
      clear hK hst hr hs2 hb2 hbl2 hy5 hC hl64
      by_cases h56 : 56 ≤ LI
      · go_wp2_with fail
        rw [hR3.out]
        clear hR3
        go_wp2_with (first | (refine step_lda (by rfl) _ (by rfl) Tryd.underlying49 (w.heap.size + 1) (by rfl) _ V3.out.z.b1 (info49 _) ?_) | (refine step_lda (by rfl) _ (by rfl) Tryd.underlying51 wr.heap.size (by rfl) _ V3.out.b5 J3.out ?_))
        refine (behind_wd st (fl1 r) HL1.out HF1.out _ (HK.out.below V3.out.z.bl HK.out.1)).mono ?_
        rintro e' w4 ⟨rfl, hb4⟩
        have V4 : Hid (Vw w w4 st wr.heap.size (fl1 r)) := V3.out.below hb4
        have HBa : Hid (w4.heap[w.heap.size + 1]? = some (.cells (wd (s8L st)).toArray 49 (0, 0))) := V4.out.z.b1
        have HBb : Hid ((w4.setRow (w.heap.size + 1) (wd (s8L (beh st (fl1 r)))).toArray).heap[wr.heap.size]? = some (.cells (by' (fl1 r)).toArray 51 (0, 0))) := (V4.out.row (beh st (fl1 r))).b5
        have V6 : Hid (Vw w ((w4.setRow (w.heap.size + 1) (wd (s8L (beh st (fl1 r)))).toArray).setRow wr.heap.size #[.int .u8 0, .int .u8 0, .int .u8 0, .int .u8 0, .int .u8 0, .int .u8 0, .int .u8 0, .int .u8 0, .int .u8 0, .int .u8 0, .int .u8 0, .int .u8 0, .int .u8 0, .int .u8 0, .int .u8 0, .int .u8 0, .int .u8 0, .int .u8 0, .int .u8 0, .int .u8 0, .int .u8 0, .int .u8 0, .int .u8 0, .int .u8 0, .int .u8 0, .int .u8 0, .int .u8 0, .int .u8 0, .int .u8 0, .int .u8 0, .int .u8 0, .int .u8 0, .int .u8 0, .int .u8 0, .int .u8 0, .int .u8 0, .int .u8 0, .int .u8 0, .int .u8 0, .int .u8 0, .int .u8 0, .int .u8 0, .int .u8 0, .int .u8 0, .int .u8 0, .int .u8 0, .int .u8 0, .int .u8 0, .int .u8 0, .int .u8 0, .int .u8 0, .int .u8 0, .int .u8 0, .int .u8 0, .int .u8 0, .int .u8 0, .int .u8 0, .int .u8 0, .int .u8 0, .int .u8 0, .int .u8 0, .int .u8 0, .int .u8 0, .int .u8 0]) (beh st (fl1 r)) wr.heap.size (List.replicate 64 0)) := (V4.out.row (beh st (fl1 r))).row5 (List.replicate 64 0)
        clear hb4 c5 f5 hcp
        go_wp2_with (first | (refine step_stR (T := 49) (by rfl) _ _ (by rfl) (w.heap.size + 1) (wd (s8L (beh st (fl1 r)))).toArray (by rfl) (by rfl) (wd (s8L st)).toArray (info49 _) (by rfl) (wd_one _) HBa.out ?_) | (refine step_stR (T := 51) (by rfl) _ _ (by rfl) wr.heap.size #[.int .u8 0, .int .u8 0, .int .u8 0, .int .u8 0, .int .u8 0, .int .u8 0, .int .u8 0, .int .u8 0, .int .u8 0, .int .u8 0, .int .u8 0, .int .u8 0, .int .u8 0, .int .u8 0, .int .u8 0, .int .u8 0, .int .u8 0, .int .u8 0, .int .u8 0, .int .u8 0, .int .u8 0, .int .u8 0, .int .u8 0, .int .u8 0, .int .u8 0, .int .u8 0, .int .u8 0, .int .u8 0, .int .u8 0, .int .u8 0, .int .u8 0, .int .u8 0, .int .u8 0, .int .u8 0, .int .u8 0, .int .u8 0, .int .u8 0, .int .u8 0, .int .u8 0, .int .u8 0, .int .u8 0, .int .u8 0, .int .u8 0, .int .u8 0, .int .u8 0, .int .u8 0, .int .u8 0, .int .u8 0, .int .u8 0, .int .u8 0, .int .u8 0, .int .u8 0, .int .u8 0, .int .u8 0, .int .u8 0, .int .u8 0, .int .u8 0, .int .u8 0, .int .u8 0, .int .u8 0, .int .u8 0, .int .u8 0, .int .u8 0, .int .u8 0] (by rfl) (by rfl) (by' (fl1 r)).toArray (by kernel_rfl) ?_ (by kernel_rfl) HBb.out ?_; focus (rw [List.size_toArray, by_len, HL1.out]; rfl)))
        refine (putBits_any wr.heap.size (List.replicate 64 0) C (by simp) HC.out.2 _ V6.out.b5).mono ?_
        rintro e' w7 ⟨rfl, hb7, hg7⟩
        obtain ⟨l7, hl7⟩ : ∃ l, l = pB (List.replicate 64 0) C 8 := ⟨_, rfl⟩
        have HL7 : Hid (l7.length = 64 ∧ okb l7 ∧ l7 = pB (List.replicate 64 0) C 8) := ⟨by rw [hl7, pB_len]; simp, by rw [hl7]; exact pB_ok _ _ _ (fun b hb => by have := List.eq_of_mem_replicate hb; omega), hl7⟩
        have V7 : Hid (Vw w w7 (beh st (fl1 r)) wr.heap.size l7) := by show Vw _ _ _ _ _; rw [hl7]; exact V6.out.mod hb7 hg7
        clear hb7 hg7 hl7
        have J7 : Hid ((Tryd.prog.info? 51).map (·.size) = some (by' l7).toArray.size) := info51 HL7.out.1
        go_wp2_with (first | (refine step_lda (by rfl) _ (by rfl) Tryd.underlying49 (w.heap.size + 1) (by rfl) _ V7.out.z.b1 (info49 _) ?_) | (refine step_lda (by rfl) _ (by rfl) Tryd.underlying51 wr.heap.size (by rfl) _ V7.out.b5 J7.out ?_))
        refine (behind_wd (beh st (fl1 r)) l7 HL7.out.1 HL7.out.2.1 _ (HK.out.below V7.out.z.bl HK.out.1)).mono ?_
        rintro e' w8 ⟨rfl, hb8⟩
        have V8 : Hid (Vw w w8 (beh st (fl1 r)) wr.heap.size l7) := V7.out.below hb8
        clear hb8 V7
        go_wp2_with fail
        refine (bytes_any (s8L (beh (beh st (fl1 r)) l7)) rfl _).mono ?_
        rintro e' w9 ⟨rfl, hb9⟩
        have V9 : Hid (Vw w w9 (beh st (fl1 r)) wr.heap.size l7) := V8.out.below hb9
        clear hb9 V8
        obtain ⟨cs, hcs⟩ : ∃ cs, cs = (by' (bB (s8L (beh (beh st (fl1 r)) l7)) 32)).toArray := ⟨_, rfl⟩
        have hz : cs.size = 32 := by rw [hcs, List.size_toArray, by_len, bB_len]
        have HI9 : Hid ((Tryd.prog.info? 26).map (·.size) = some cs.size ∧ cs.all (·.oneCell') = true ∧ cs.size = 32) := ⟨by rw [hz]; kernel_rfl, by rw [hcs]; exact by_one _, hz⟩
        have HF : Hid (cs = (by' (sha bs)).toArray) := by show _ = _; rw [hcs, HR.out.2.2.2.2.2, shE, if_pos (by have := HR.out; have := HLI.out; omega), HC.out.1, ← HL7.out.2.2]
        have HB9 : Hid (w9.heap[w.heap.size]? = some (.cells #[.int .u8 0, .int .u8 0, .int .u8 0, .int .u8 0, .int .u8 0, .int .u8 0, .int .u8 0, .int .u8 0, .int .u8 0, .int .u8 0, .int .u8 0, .int .u8 0, .int .u8 0, .int .u8 0, .int .u8 0, .int .u8 0, .int .u8 0, .int .u8 0, .int .u8 0, .int .u8 0, .int .u8 0, .int .u8 0, .int .u8 0, .int .u8 0, .int .u8 0, .int .u8 0, .int .u8 0, .int .u8 0, .int .u8 0, .int .u8 0, .int .u8 0, .int .u8 0] 26 (0, 0))) := V9.out.z.b0
        rw [← hcs]
        clear hcs hz
        go_wp2_with (refine step_stR (T := 26) (by rfl) _ _ (by rfl) w.heap.size cs (by rfl) (by rfl) #[.int .u8 0, .int .u8 0, .int .u8 0, .int .u8 0, .int .u8 0, .int .u8 0, .int .u8 0, .int .u8 0, .int .u8 0, .int .u8 0, .int .u8 0, .int .u8 0, .int .u8 0, .int .u8 0, .int .u8 0, .int .u8 0, .int .u8 0, .int .u8 0, .int .u8 0, .int .u8 0, .int .u8 0, .int .u8 0, .int .u8 0, .int .u8 0, .int .u8 0, .int .u8 0, .int .u8 0, .int .u8 0, .int .u8 0, .int .u8 0, .int .u8 0, .int .u8 0] HI9.out.1 ?_ HI9.out.2.1 HB9.out ?_; focus (rw [HI9.out.2.2]; rfl))
        rw [hQ.out]
        refine bodyPost_ret (v := .agg (by' (sha bs)).toArray) ?_ rfl ⟨rfl, below_row V9.out.z.bl (Nat.le_refl _) _⟩
        rw [← HF.out]
        exact res_arr Tryd.results10 Tryd.underlying26 _ _ w.heap.size cs (by rfl) (V9.out.z.b0.row cs) HI9.out.1
      · go_wp2_with fail
        rw [hR3.out]
        clear hR3
        go_wp2_with fail
        clear c5 f5 hcp
        refine (putBits_any wr.heap.size (fl1 r) C (by rw [fl1_len r (by have := HR.out; omega)]) HC.out.2 _ V3.out.b5).mono ?_
        rintro e' w7 ⟨rfl, hb7, hg7⟩
        obtain ⟨l7, hl7⟩ : ∃ l, l = pB (fl1 r) C 8 := ⟨_, rfl⟩
        have HL7 : Hid (l7.length = 64 ∧ okb l7 ∧ l7 = pB (fl1 r) C 8) := ⟨by rw [hl7, pB_len]; rw [fl1_len r (by have := HR.out; omega)], by rw [hl7]; exact pB_ok _ _ _ HF1.out, hl7⟩
        have V7 : Hid (Vw w w7 (st) wr.heap.size l7) := by show Vw _ _ _ _ _; rw [hl7]; exact V3.out.mod hb7 hg7
        clear hb7 hg7 hl7
        have J7 : Hid ((Tryd.prog.info? 51).map (·.size) = some (by' l7).toArray.size) := info51 HL7.out.1
        go_wp2_with (first | (refine step_lda (by rfl) _ (by rfl) Tryd.underlying49 (w.heap.size + 1) (by rfl) _ V7.out.z.b1 (info49 _) ?_) | (refine step_lda (by rfl) _ (by rfl) Tryd.underlying51 wr.heap.size (by rfl) _ V7.out.b5 J7.out ?_))
        refine (behind_wd (st) l7 HL7.out.1 HL7.out.2.1 _ (HK.out.below V7.out.z.bl HK.out.1)).mono ?_
        rintro e' w8 ⟨rfl, hb8⟩
        have V8 : Hid (Vw w w8 (st) wr.heap.size l7) := V7.out.below hb8
        clear hb8 V7
        go_wp2_with fail
        refine (bytes_any (s8L (beh (st) l7)) rfl _).mono ?_
        rintro e' w9 ⟨rfl, hb9⟩
        have V9 : Hid (Vw w w9 (st) wr.heap.size l7) := V8.out.below hb9
        clear hb9 V8
        obtain ⟨cs, hcs⟩ : ∃ cs, cs = (by' (bB (s8L (beh (st) l7)) 32)).toArray := ⟨_, rfl⟩
        have hz : cs.size = 32 := by rw [hcs, List.size_toArray, by_len, bB_len]
        have HI9 : Hid ((Tryd.prog.info? 26).map (·.size) = some cs.size ∧ cs.all (·.oneCell') = true ∧ cs.size = 32) := ⟨by rw [hz]; kernel_rfl, by rw [hcs]; exact by_one _, hz⟩
        have HF : Hid (cs = (by' (sha bs)).toArray) := by show _ = _; rw [hcs, HR.out.2.2.2.2.2, shE, if_neg (by have := HR.out; have := HLI.out; omega), HC.out.1, ← HL7.out.2.2]
        have HB9 : Hid (w9.heap[w.heap.size]? = some (.cells #[.int .u8 0, .int .u8 0, .int .u8 0, .int .u8 0, .int .u8 0, .int .u8 0, .int .u8 0, .int .u8 0, .int .u8 0, .int .u8 0, .int .u8 0, .int .u8 0, .int .u8 0, .int .u8 0, .int .u8 0, .int .u8 0, .int .u8 0, .int .u8 0, .int .u8 0, .int .u8 0, .int .u8 0, .int .u8 0, .int .u8 0, .int .u8 0, .int .u8 0, .int .u8 0, .int .u8 0, .int .u8 0, .int .u8 0, .int .u8 0, .int .u8 0, .int .u8 0] 26 (0, 0))) := V9.out.z.b0
        rw [← hcs]
        clear hcs hz
        go_wp2_with (refine step_stR (T := 26) (by rfl) _ _ (by rfl) w.heap.size cs (by rfl) (by rfl) #[.int .u8 0, .int .u8 0, .int .u8 0, .int .u8 0, .int .u8 0, .int .u8 0, .int .u8 0, .int .u8 0, .int .u8 0, .int .u8 0, .int .u8 0, .int .u8 0, .int .u8 0, .int .u8 0, .int .u8 0, .int .u8 0, .int .u8 0, .int .u8 0, .int .u8 0, .int .u8 0, .int .u8 0, .int .u8 0, .int .u8 0, .int .u8 0, .int .u8 0, .int .u8 0, .int .u8 0, .int .u8 0, .int .u8 0, .int .u8 0, .int .u8 0, .int .u8 0] HI9.out.1 ?_ HI9.out.2.1 HB9.out ?_; focus (rw [HI9.out.2.2]; rfl))
        rw [hQ.out]
        refine bodyPost_ret (v := .agg (by' (sha bs)).toArray) ?_ rfl ⟨rfl, below_row V9.out.z.bl (Nat.le_refl _) _⟩
        rw [← HF.out]
        exact res_arr Tryd.results10 Tryd.underlying26 _ _ w.heap.size cs (by rfl) (V9.out.z.b0.row cs) HI9.out.1
end Go.Proofs.YtocimfhagkcnlaaDoor
