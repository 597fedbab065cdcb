/- List, out of what sorts senders (SortOk: shown in LB). -/
import Derived.Test.YtmgphfdieekpdaaLA
import Derived.Test.YtmgphfdieekpdaaRN
namespace Go.Proofs.Ytmgphfdieekpdaa
open Go Go.RowKit
def SortOk : Prop := ∀ (B : Nat) (v : Value) (xs : List Sn) (w : World), OR w B 75 6 v (xs.map snL) → B ≤ w.heap.size → xs.length ≤ 100000 →
  Calls Try.prog 39 #[v, .func (.func 40) #[] #[]] w fun e w' => e = .returned (.tuple #[]) ∧ ∃ ys : List Sn, ys.Perm xs ∧ ys.Pairwise (fun a b => b.turn ≤ a.turn) ∧ OR w' B 75 6 v (ys.map snL) ∧ Below B w w'
theorem tiEn : TI 55 52 5 40 := by
  refine ⟨Try.underlying55, ?_, by decide⟩
  have h : (Try.prog.info? 52).map (fun i => (i.zero, i.size, i.bytes)) = some (some (.agg #[.int .u32 0, .int .i64 0, .int .i64 0, .int .i64 0, .int .i64 0]), 5, 40) := by kernel_rfl
  cases hi : Try.prog.info? 52 with
  | none => rw [hi] at h; cases h
  | some i =>
    rw [hi] at h
    simp at h
    exact ⟨i, _, rfl, h.1, h.2.1, h.2.2, rfl⟩
theorem rk_one5 (U : World) (a b c d e : Value) (o : TypeId) : Rk (U.heap.size + 1) (U.alloc (.cells #[a, b, c, d, e] o)) 5 (.slice (some ⟨U.heap.size, 0, none⟩) 1 1) [[a, b, c, d, e]] := by
  refine ⟨some ⟨U.heap.size, 0, none⟩, 1, rfl, by simp, fun i hi => ⟨_, rfl, by simp, fun j u hu => ?_⟩⟩
  have hi0 : i = 0 := by simp at hi; omega
  subst hi0
  rw [add_own, Nat.zero_mul, Nat.zero_add, (Bk.new U _ o).cell j]
  have : (#[a, b, c, d, e] : Array Value)[j]? = [a, b, c, d, e][j]? := by simp
  rw [this]; exact hu
theorem ra_oneS (U : Nat) : Ra (.slice (some ⟨U, 0, none⟩) 1 1) := by intro n c hh; cases hh
theorem one5 (x0 x1 x2 x3 x4 : Int) : ∀ u ∈ ([.int .u32 x0, .int .i64 x1, .int .i64 x2, .int .i64 x3, .int .i64 x4] : List Value), u.oneCell' = true := fun u hu => by
  simp at hu
  rcases hu with rfl | rfl | rfl | rfl | rfl <;> rfl
set_option maxHeartbeats 2000000 in
theorem list_any (hS : SortOk) (B g : Nat) (sv : Value) (xs : List Sn) (cost mn now turns : Int) (w : World) (hM : Mm w B g sv cost mn now turns xs) (hlen : xs.length ≤ 32) :
    Calls Try.prog 23 #[.pointer (some ⟨g, 0, none⟩)] w fun e w' => ∃ (v : Value) (ys : List Sn), e = .returned v ∧ ys.Perm xs ∧ ys.Pairwise (fun a b => b.turn ≤ a.turn) ∧ OR w' w.heap.size 52 5 v (ys.map enL) ∧ Below w.heap.size w w' := by
  have c4 := hM.blk.cell 4
  simp at c4
  have HCl : Hid (Calls Try.prog 38 #[sv] w fun e w' => ∃ v', e = .returned v' ∧ OR w' w.heap.size 75 6 v' (xs.map snL) ∧ Below w.heap.size w w') := cloneS_any w.heap.size sv xs w (Nat.le_refl _) hM.row.rk hM.row.ra (by omega)
  have HS : Hid (SortOk ∧ xs.length ≤ 32) := ⟨hS, hlen⟩
  clear hM hS hlen
  go_enter Try.func23, Try.ntmps23
  go_wp2_with fail
  refine HCl.out.mono ?_
  rintro e w1 ⟨v1, rfl, ho1, hb1⟩
  have HO1 : Hid (OR w1 w.heap.size 75 6 v1 (xs.map snL) ∧ Below w.heap.size w w1) := ⟨ho1, hb1⟩
  clear ho1 hb1 HCl c4
  go_wp2_with fail
  refine (HS.out.1 w.heap.size v1 xs w1 HO1.out.1 HO1.out.2.size (by have := HS.out.2; omega)).mono ?_
  rintro e w2 ⟨rfl, ys, hp, hs, ho2, hb2⟩
  obtain ⟨ao, cap, hv, hc, hcell⟩ := ho2.rk.sn
  subst hv
  obtain ⟨L, hL⟩ : ∃ L, L = ys.length := ⟨_, rfl⟩
  have l1 : (L : Int) ≤ 32 := by have := hp.length_eq; have := HS.out.2; omega
  have HY : Hid (ys.Perm xs ∧ ys.Pairwise (fun a b => b.turn ≤ a.turn) ∧ Below w.heap.size w w2) := ⟨hp, hs, HO1.out.2.trans hb2⟩
  have HL : Hid (L = ys.length) := hL
  rw [← hL]
  have HH : Hid (∀ i (hi : i < ys.length), ∃ ad, ao = some ad ∧ ad.block < w2.heap.size ∧ ∀ j u, (snL ys[i])[j]? = some u → w2.cell? ((ad.add (i * 6)).add j) = some u) := hcell
  clear hp hs ho2 hb2 hc hcell hL HO1 HS
  go_wp2_with fail
  go_loopw [4, 16] (fun ev i wr => ∃ (k : Nat) (jo : Option Addr) (jc : Nat), i = .int .i64 (k : Int) ∧ ev = .slice jo k jc ∧ (k : Int) ≤ L ∧ Hid (OR wr w2.heap.size 52 5 (.slice jo k jc) ((ys.take k).map enL)) ∧ Hid (Below w2.heap.size w2 wr)) (fun _ i _ => (L - intOf i).toNat)
  case atStart => exact ⟨0, none, 0, rfl, rfl, by omega, OR.nil _ _ _ _, Below.refl _ _⟩
  case round =>
    obtain ⟨k, jo, jc, rfl, rfl, hk, hO, hB⟩ := hrel
    by_cases hlt : (k : Int) < L
    · have hkx : k < ys.length := by have := HL.out; omega
      obtain ⟨ad, g1, g2, g3⟩ := HH.out k hkx
      have hix : ∀ w, Sem.run Try.prog (Instr.indexAt 64 (.slice ao L cap) (.int .i64 (k : Int))) w = .ok (.pointer (some (ad.add (k * 6)))) w := ix_sn L cap k g1 hlt
      have HC : Hid (∀ j u, (snL ys[k])[j]? = some u → wr.cell? ((ad.add (k * 6)).add j) = some u) := fun j u hu => by
        rw [hB.out.cell (p := (ad.add (k * 6)).add j) (by rw [add_block, add_block]; exact g2)]
        exact g3 j u hu
      obtain ⟨E, hE⟩ : ∃ E, E = ys[k] := ⟨_, rfl⟩
      obtain ⟨A, hA0⟩ : ∃ A, A = ad.add (k * 6) := ⟨_, rfl⟩
      rw [← hA0] at hix HC
      rw [← hE] at HC
      have HT : Hid ((ys.take (k + 1)).map enL = (ys.take k).map enL ++ [enL E]) := by
        show _ = _
        rw [List.take_succ_eq_append_getElem hkx, List.map_append, hE]; rfl
      clear hA0 g1 g2 g3 hE
      obtain ⟨x0, x1, x2, x3, x4, x5⟩ := E
      unfold snL at HC
      simp only at HC
      have HT2 : Hid ((ys.take (k + 1)).map enL = (ys.take k).map enL ++ [[.int .u32 x0, .int .i64 x1, .int .i64 x2, .int .i64 x3, .int .i64 x4]]) := HT
      clear HT
      have HB1 : Hid (∀ o, Below w2.heap.size w2 (wr.alloc o)) := fun o => hB.out.alloc hB.out.size o
      have HLN : Hid (((ys.take k).map enL).length + 1 ≤ 33 ∧ ((ys.take k).map enL).length = k) := by
        have hk' : ((ys.take k).map enL).length = k := by rw [List.length_map, List.length_take]; omega
        exact ⟨by omega, hk'⟩
      obtain ⟨U, hU⟩ : ∃ U, (wr.alloc (.cells #[.int .u32 x0, .int .i64 x1, .int .i64 x2, .int .i64 x3, .int .i64 x4, .int .i64 x5] 75)).alloc (.cells #[.int .u32 x0, .int .i64 x1, .int .i64 x2, .int .i64 x3, .int .i64 x4] 52) = U := ⟨_, rfl⟩
      have HR5 : Hid (Rk (wr.heap.size + 1 + 1) ((wr.alloc (.cells #[.int .u32 x0, .int .i64 x1, .int .i64 x2, .int .i64 x3, .int .i64 x4, .int .i64 x5] 75)).alloc (.cells #[.int .u32 x0, .int .i64 x1, .int .i64 x2, .int .i64 x3, .int .i64 x4] 52)) 5 (.slice (some ⟨wr.heap.size + 1, 0, none⟩) 1 1) [[.int .u32 x0, .int .i64 x1, .int .i64 x2, .int .i64 x3, .int .i64 x4]]) := by
        have h := rk_one5 (wr.alloc (.cells #[.int .u32 x0, .int .i64 x1, .int .i64 x2, .int .i64 x3, .int .i64 x4, .int .i64 x5] 75)) (.int .u32 x0) (.int .i64 x1) (.int .i64 x2) (.int .i64 x3) (.int .i64 x4) 52
        rw [size_alloc1] at h
        exact h
      have HOR : Hid (OR ((wr.alloc (.cells #[.int .u32 x0, .int .i64 x1, .int .i64 x2, .int .i64 x3, .int .i64 x4, .int .i64 x5] 75)).alloc (.cells #[.int .u32 x0, .int .i64 x1, .int .i64 x2, .int .i64 x3, .int .i64 x4] 52)) w2.heap.size 52 5 (.slice jo k jc) ((ys.take k).map enL)) := (hO.out.alloc _).alloc _
      have HBU : Hid (Below w2.heap.size w2 ((wr.alloc (.cells #[.int .u32 x0, .int .i64 x1, .int .i64 x2, .int .i64 x3, .int .i64 x4, .int .i64 x5] 75)).alloc (.cells #[.int .u32 x0, .int .i64 x1, .int .i64 x2, .int .i64 x3, .int .i64 x4] 52))) := (HB1.out _).alloc (HB1.out _).size _
      rw [hU] at HR5 HOR HBU
      have HU : Hid ((wr.alloc (.cells #[.int .u32 x0, .int .i64 x1, .int .i64 x2, .int .i64 x3, .int .i64 x4, .int .i64 x5] 75)).alloc (.cells #[.int .u32 x0, .int .i64 x1, .int .i64 x2, .int .i64 x3, .int .i64 x4] 52) = U) := hU
      clear hU
      go_wp2_with (first | (refine step_ldat 75 _ (by rfl) (by rfl) A (by rfl) [.int .u32 x0, .int .i64 x1, .int .i64 x2, .int .i64 x3, .int .i64 x4, .int .i64 x5] _ Try.underlying75 (by rfl) sn_info ?_ ?_; exact HC.out) | (rw [HU.out]; refine wpList_appk tiEn (by rfl) _ _ (by rfl) w2.heap.size (wr.heap.size + 1 + 1) (.slice jo k jc) (.slice (some ⟨wr.heap.size + 1, 0, none⟩) 1 1) ((ys.take k).map enL) [[.int .u32 x0, .int .i64 x1, .int .i64 x2, .int .i64 x3, .int .i64 x4]] (by rfl) (by rfl) HOR.out HR5.out (ra_oneS _) (by intro r hr; rw [List.mem_singleton] at hr; rw [hr]; rfl) (by intro r hr u hu; rw [List.mem_singleton] at hr; rw [hr] at hu; exact one5 _ _ _ _ _ u hu) (Nat.le_trans HLN.out.1 (by unfold maxLen; omega)) (Nat.le_trans (Nat.mul_le_mul_right 40 HLN.out.1) (by omega)) HBU.out.size ?_))
      intro v3 w3 ho3 hg3 hv3
      have hB3 : Below w2.heap.size w2 w3 := HBU.out.grown hg3 HBU.out.size (fun q hq => (HOR.out.row.lt q hq).1)
      rw [← List.map_take, ← HT2.out] at ho3
      obtain ⟨jo2, jc2, hv4, -, -⟩ := ho3.rk
      have hk1 : ((ys.take (k + 1)).map enL).length = k + 1 := by rw [List.length_map, List.length_take]; omega
      rw [hk1] at hv4
      subst hv4
      have H3 : Hid (OR w3 w2.heap.size 52 5 (.slice jo2 (k + 1) jc2) ((ys.take (k + 1)).map enL) ∧ Below w2.heap.size w2 w3) := ⟨ho3, hB3⟩
      clear ho3 hg3 hv3 hB3 hk1 HU HR5 HOR HBU HT2 HLN HB1 HC hix
      go_wp2_with fail
      exact ⟨⟨k + 1, jo2, jc2, by go_num, rfl, by omega, H3.out.1, H3.out.2⟩, by simp [intOf]; omega⟩
    · have hke : k = ys.length := by have := HL.out; omega
      have HF : Hid (OR wr w.heap.size 52 5 (.slice jo k jc) (ys.map enL) ∧ Below w.heap.size w wr) := by
        have h := hO.out.mono HY.out.2.2.size
        rw [hke, List.take_length] at h
        rw [hke]
        exact ⟨h, HY.out.2.2.trans (hB.out.mono HY.out.2.2.size)⟩
      clear hke
      go_wp2_with fail
      go_ret
      first | exact ⟨_, ys, rfl, HY.out.1, HY.out.2.1, HF.out.1, HF.out.2⟩ | exact ⟨_, rfl, ys, HY.out.1, HY.out.2.1, HF.out.1, HF.out.2⟩
end Go.Proofs.Ytmgphfdieekpdaa
