/- The reference's memory: gap, New, Find. -/
import Derived.Test.YtmgphfdieekpdaaLC
namespace Go.Proofs.Ytmgphfdieekpdaa
open Go Go.RowKit
set_option maxHeartbeats 400000 in
theorem rgap_any (a b : Int) (w : World) (h : a ≤ b) (h0 : -9223372036854775808 ≤ a) (h1 : b ≤ 9223372036854775807) : Calls Try.prog 36 #[.int .i64 a, .int .i64 b] w fun e w' => e = .returned (.int .i64 (min (b - a) 1099511627776)) ∧ w' = w := by
  have e1 : IntKind.u64.wrap (IntKind.u64.wrap b - IntKind.u64.wrap a) = b - a := by rw [IntKind.wrap_u64, IntKind.wrap_u64, IntKind.wrap_u64]; omega
  go_enter Try.func36, Try.ntmps36
  go_wp2
  · go_ret
    rename_i hh
    rw [show min (b - a) 1099511627776 = 1099511627776 by omega]
    exact ⟨rfl, rfl⟩
  · go_ret
    rename_i hh
    rw [show min (b - a) 1099511627776 = b - a by omega]
    exact ⟨rfl, rfl⟩
set_option maxHeartbeats 1000000 in
theorem rnew_bad (a b : Int) (w : World) (h : ¬ (0 ≤ a ∧ a ≤ 10 ∧ 0 ≤ b ∧ b ≤ 1024)) : Calls Try.prog 18 #[.int .i64 a, .int .i64 b] w fun e w' => e = .returned (.tuple #[.pointer none, .int .i64 1]) ∧ w' = w := by
  have hc : a < 0 ∨ (0 ≤ a ∧ 10 < a) ∨ (0 ≤ a ∧ a ≤ 10 ∧ b < 0) ∨ (0 ≤ a ∧ a ≤ 10 ∧ 0 ≤ b ∧ 1024 < b) := by omega
  clear h
  rcases hc with h2 | ⟨h2, h3⟩ | ⟨h2, h3, h4⟩ | ⟨h2, h3, h4, h5⟩
  all_goals
    go_enter Try.func18, Try.ntmps18
    go_wp2
    go_ret2
    exact ⟨rfl, rfl⟩
set_option maxHeartbeats 1000000 in
theorem rnew_ok (a b : Int) (w : World) (h0 : 0 ≤ a) (h1 : a ≤ 10) (h2 : 0 ≤ b) (h3 : b ≤ 1024) : Calls Try.prog 18 #[.int .i64 a, .int .i64 b] w fun e w' => e = .returned (.tuple #[.pointer (some ⟨w.heap.size, 0, none⟩), .int .i64 0]) ∧ w' = w.alloc (.cells #[.slice none 0 0, .int .i64 a, .int .i64 b, .int .i64 0, .bool false] 69) := by
  go_enter Try.func18, Try.ntmps18
  go_wp2
  go_ret2
  exact ⟨rfl, rfl⟩
theorem ren_info : (Try.prog.info? 76).map (·.size) = some 5 := by kernel_rfl
theorem ix_re {ao : Option Addr} {ad : Addr} (n cap k : Nat) (h : ao = some ad) (hk : (k : Int) < n) (w : World) : Sem.run Try.prog (Instr.indexAt 67 (.slice ao n cap) (.int .i64 (k : Int))) w = .ok (.pointer (some (ad.add (k * 5)))) w := by
  subst h
  have u := Try.underlying67
  have c3 : Try.prog.cellsOf 76 = 5 := by kernel_rfl
  have h0 : (0 : Int) ≤ k := Int.natCast_nonneg k
  go_simp
theorem Rk.en {N : Nat} {w : World} {v : Value} {xs : List Sn} (h : Rk N w 5 v (xs.map enL)) : ∃ ao cap, v = .slice ao xs.length cap ∧ xs.length ≤ cap ∧ ∀ i (hi : i < xs.length), ∃ ad, ao = some ad ∧ ad.block < N ∧ ∀ j u, (enL xs[i])[j]? = some u → w.cell? ((ad.add (i * 5)).add j) = some u := by
  obtain ⟨ao, cap, hv, hc, hcell⟩ := h
  rw [List.length_map] at hv hc hcell
  refine ⟨ao, cap, hv, hc, fun i hi => ?_⟩
  obtain ⟨ad, h1, h2, h3⟩ := hcell i hi
  refine ⟨ad, h1, h2, fun j u hu => ?_⟩
  have e : (xs.map enL).getD i [] = enL xs[i] := by rw [List.getD_eq_getElem?_getD, List.getElem?_map, List.getElem?_eq_getElem hi]; rfl
  rw [e] at h3
  rw [show (ad.add (i * 5)).add j = ad.add (i * 5 + j) by rcases i with _ | i <;> rcases j with _ | j <;> simp [Addr.add] <;> omega]
  exact h3 j u hu
set_option maxRecDepth 20000 in
set_option maxHeartbeats 2000000 in
theorem rfind_any (N g : Nat) (lv : Value) (ss : List Sn) (a : Int) (w : World) (hN : N ≤ w.heap.size) (h : Rk N w 5 lv (ss.map enL)) (hg : w.cell? ⟨g, 0, none⟩ = some lv) (hl : ss.length ≤ 100000) :
    Calls Try.prog 35 #[.pointer (some ⟨g, 0, none⟩), .int .u32 a] w fun e w' => ∃ s b, e = .returned (.tuple #[.agg (enL s).toArray, .bool b]) ∧ ((b = true ∧ s ∈ ss ∧ s.addr = a) ∨ (b = false ∧ s = zS ∧ ∀ x ∈ ss, x.addr ≠ a)) ∧ Below w.heap.size w w' := by
  obtain ⟨ao, cap, hv, hc, hcell⟩ := h.en
  subst hv
  obtain ⟨L, hL⟩ : ∃ L, L = ss.length := ⟨_, rfl⟩
  rw [← hL] at hg
  have HL : Hid (L = ss.length) := hL
  have l1 : (L : Int) ≤ 100000 := by omega
  have hglt := World.block_lt_of_cell? _ _ hg
  have HH : Hid (∀ i (hi : i < ss.length), ∃ ad, ao = some ad ∧ ad.block < w.heap.size ∧ ∀ j u, (enL ss[i])[j]? = some u → w.cell? ((ad.add (i * 5)).add j) = some u) := fun i hi => by
    obtain ⟨ad, h1, h2, h3⟩ := hcell i hi
    exact ⟨ad, h1, Nat.lt_of_lt_of_le h2 hN, h3⟩
  clear h hcell hN hc hl hL
  go_enter Try.func35, Try.ntmps35
  go_wp2_with fail
  obtain ⟨W1, hW1⟩ : ∃ W, W = w.alloc (.cells #[.int .u32 0, .int .i64 0, .int .i64 0, .int .i64 0, .int .i64 0] 76) := ⟨_, rfl⟩
  have HW1 : Hid (Bk w.heap.size W1 #[.int .u32 0, .int .i64 0, .int .i64 0, .int .i64 0, .int .i64 0] 76 ∧ Below w.heap.size w W1 ∧ w.heap.size < W1.heap.size) := by rw [hW1]; exact ⟨Bk.new w _ _, (Below.refl _ _).alloc (Nat.le_refl _) _, by simp⟩
  go_loopw [13] (fun iv wr => ∃ k : Nat, iv = .int .i64 (k : Int) ∧ (k : Int) ≤ L ∧ Hid (∀ j (hj : j < ss.length), j < k → ss[j].addr ≠ a) ∧ Hid (Below W1.heap.size W1 wr)) (fun iv _ => (L - intOf iv).toNat)
  case atStart => exact ⟨0, rfl, by omega, fun j _ hj => absurd hj (by omega), by rw [hW1]; exact Below.refl _ _⟩
  case round =>
    obtain ⟨k, rfl, hk, HO, hB⟩ := hrel
    clear hW1 hg
    have HEb : Hid (Bk w.heap.size wr #[.int .u32 0, .int .i64 0, .int .i64 0, .int .i64 0, .int .i64 0] 76 ∧ Below w.heap.size w wr) := ⟨HW1.out.1.kept (hB.out.block _ HW1.out.2.2), HW1.out.2.1.trans (hB.out.mono (Nat.le_of_lt HW1.out.2.2))⟩
    by_cases hlt : (k : Int) < L
    · have hkx : k < ss.length := by have := HL.out; omega
      obtain ⟨ad, g1, g2, g3⟩ := HH.out k hkx
      have hix : ∀ w, Sem.run Try.prog (Instr.indexAt 67 (.slice ao L cap) (.int .i64 (k : Int))) w = .ok (.pointer (some (ad.add (k * 5)))) w := ix_re L cap k g1 hlt
      have HC : Hid (∀ j u, (enL ss[k])[j]? = some u → wr.cell? ((ad.add (k * 5)).add j) = some u) := fun j u hu => by
        rw [HEb.out.2.cell (p := (ad.add (k * 5)).add j) (by rw [add_block, add_block]; exact g2)]
        exact g3 j u hu
      obtain ⟨E, hE⟩ : ∃ E, E = ss[k] := ⟨_, rfl⟩
      obtain ⟨A, hA0⟩ : ∃ A, A = ad.add (k * 5) := ⟨_, rfl⟩
      rw [← hA0] at hix HC
      rw [← hE] at HC
      have HT : Hid (E ∈ ss ∧ E = ss[k]) := ⟨by rw [hE]; exact List.getElem_mem hkx, hE⟩
      clear hA0 g1 g2 g3 hE
      obtain ⟨x0, x1, x2, x3, x4, x5⟩ := E
      unfold enL at HC
      simp only at HC
      have HE2 : Hid (Bk w.heap.size (wr.alloc (.cells #[.int .u32 x0, .int .i64 x1, .int .i64 x2, .int .i64 x3, .int .i64 x4] 76)) #[.int .u32 0, .int .i64 0, .int .i64 0, .int .i64 0, .int .i64 0] 76 ∧ Below w.heap.size w (wr.alloc (.cells #[.int .u32 x0, .int .i64 x1, .int .i64 x2, .int .i64 x3, .int .i64 x4] 76))) := ⟨HEb.out.1.kept (Below.block ((Below.refl _ wr).alloc (Nat.le_refl _) _) _ HEb.out.1.lt), HEb.out.2.alloc HEb.out.2.size _⟩
      by_cases hx : x0 = a
      · subst hx
        go_wp2_with (first | (refine step_ldat 76 _ (by rfl) (by rfl) A (by rfl) [.int .u32 x0, .int .i64 x1, .int .i64 x2, .int .i64 x3, .int .i64 x4] _ Try.underlying76 (by rfl) ren_info ?_ ?_; exact HC.out) | (refine step_stR (by rfl) _ _ rfl w.heap.size #[.int .u32 x0, .int .i64 x1, .int .i64 x2, .int .i64 x3, .int .i64 x4] (by rfl) (by rfl) #[.int .u32 0, .int .i64 0, .int .i64 0, .int .i64 0, .int .i64 0] (by kernel_rfl) (by rfl) (by kernel_rfl) HE2.out.1 ?_))
        refine bodyPost_ret (v := .tuple #[.agg #[.int .u32 x0, .int .i64 x1, .int .i64 x2, .int .i64 x3, .int .i64 x4], .bool true]) (res_row2 Try.results35 _ _ w.heap.size _ _ (by rfl) (by rfl) (setRow_heap _ _ _ _ _ _ HE2.out.1) Try.underlying76 ren_info) rfl ?_
        exact ⟨⟨x0, x1, x2, x3, x4, x5⟩, true, rfl, .inl ⟨rfl, HT.out.1, rfl⟩, below_row HE2.out.2 (Nat.le_refl _) _⟩
      · go_wp2_with (refine step_ldat 76 _ (by rfl) (by rfl) A (by rfl) [.int .u32 x0, .int .i64 x1, .int .i64 x2, .int .i64 x3, .int .i64 x4] _ Try.underlying76 (by rfl) ren_info ?_ ?_; exact HC.out)
        refine ⟨⟨k + 1, by go_num, by omega, fun j hj hjk => ?_, hB.out.alloc hB.out.size _⟩, by simp [intOf]; omega⟩
        by_cases hj2 : j < k
        · exact HO.out j hj hj2
        · obtain rfl : j = k := by omega
          rw [← HT.out.2]
          exact hx
    · have HNO : Hid (∀ x ∈ ss, x.addr ≠ a) := fun x hx => by
        obtain ⟨j, hj, rfl⟩ := List.getElem_of_mem hx
        exact HO.out j hj (by have := HL.out; omega)
      clear HO
      go_wp2_with (refine step_stR (by rfl) _ _ rfl w.heap.size #[.int .u32 0, .int .i64 0, .int .i64 0, .int .i64 0, .int .i64 0] (by rfl) (by rfl) #[.int .u32 0, .int .i64 0, .int .i64 0, .int .i64 0, .int .i64 0] (by kernel_rfl) (by rfl) (by kernel_rfl) HEb.out.1 ?_)
      refine bodyPost_ret (v := .tuple #[.agg #[.int .u32 0, .int .i64 0, .int .i64 0, .int .i64 0, .int .i64 0], .bool false]) (res_row2 Try.results35 _ _ w.heap.size _ _ (by rfl) (by rfl) (setRow_heap _ _ _ _ _ _ HEb.out.1) Try.underlying76 ren_info) rfl ?_
      exact ⟨zS, .inl ⟨rfl, ⟨rfl, HNO.out⟩, below_row HEb.out.2 (Nat.le_refl _) _⟩⟩
end Go.Proofs.Ytmgphfdieekpdaa
