/- Match of both. -/
import Derived.Test.YtmgphfdieekpdaaRB
namespace Go.Proofs.Ytmgphfdieekpdaa
open Go Go.RowKit
theorem getD_map {α : Type} (f : α → List Value) (l : List α) (i : Nat) (h : i < l.length) : (l.map f).getD i [] = f l[i] := by
  rw [List.getD_eq_getElem?_getD, List.getElem?_map, List.getElem?_eq_getElem h]; rfl
theorem ru_info : (Try.prog.info? 26).map (·.size) = some 3 := by kernel_rfl
theorem ix_ru {ao : Option Addr} {ad : Addr} (n cap k : Nat) (h : ao = some ad) (hk : (k : Int) < n) (w : World) : Sem.run Try.prog (Instr.indexAt 22 (.slice ao n cap) (.int .i64 (k : Int))) w = .ok (.pointer (some (ad.add (k * 3)))) w := by
  subst h
  have u := Try.underlying22
  have c3 : Try.prog.cellsOf 26 = 3 := by kernel_rfl
  have h0 : (0 : Int) ≤ k := Int.natCast_nonneg k
  go_simp
/-- an element, and where it lies -/
theorem Rk.ru {N : Nat} {w : World} {v : Value} {xs : List Ru} (h : Rk N w 3 v (xs.map ruL)) : ∃ ao cap, v = .slice ao xs.length cap ∧ xs.length ≤ cap ∧ ∀ i (hi : i < xs.length), ∃ ad, ao = some ad ∧ ad.block < N ∧ ∀ j u, (ruL xs[i])[j]? = some u → w.cell? ((ad.add (i * 3)).add j) = some u := by
  obtain ⟨ao, cap, h1, h2, h3⟩ := h
  rw [List.length_map] at h1 h2 h3
  refine ⟨ao, cap, h1, h2, fun i hi => ?_⟩
  obtain ⟨ad, g1, g2, g3⟩ := h3 i hi
  refine ⟨ad, g1, g2, fun j u hu => ?_⟩
  rw [add_add]
  exact g3 j u (by rw [getD_map ruL xs i hi]; exact hu)
theorem mt_take (x : Int) (s : Int × Int) (xs : List Ru) (k : Nat) (h : k < xs.length) : (xs.take (k + 1)).foldl (mtS x) s = mtS x ((xs.take k).foldl (mtS x) s) xs[k] := by
  rw [List.take_succ_eq_append_getElem h, List.foldl_append]; rfl
set_option maxHeartbeats 2000000 in
theorem match_any (N : Nat) (v : Value) (xs : List Ru) (x : Int) (w : World) (hN : N ≤ w.heap.size) (ha : Rk N w 3 v (xs.map ruL)) (la : xs.length ≤ 140737488355328) (hw : ∀ a ∈ xs, 0 ≤ a.addr ∧ a.addr < 4294967296) (x0 : 0 ≤ x) (x1 : x < 4294967296) :
    Calls Try.prog 9 #[v, .int .u32 x] w fun e w' => e = .returned (.int .i64 (mtF x xs)) ∧ Below w.heap.size w w' := by
  obtain ⟨ao, cap, hav, hc, hcell⟩ := ha.ru
  subst hav
  obtain ⟨L, hL⟩ : ∃ L, L = xs.length := ⟨_, rfl⟩
  rw [← hL]
  have HL : Hid (L = xs.length) := hL
  have l1 : (L : Int) ≤ 140737488355328 := by omega
  obtain ⟨R, hR⟩ : ∃ R, R = mtF x xs := ⟨_, rfl⟩
  rw [← hR]
  have HR : Hid (R = (xs.foldl (mtS x) (0, 0)).2) := by show _ = _; rw [hR]; rfl
  have HH : Hid ((∀ i (hi : i < xs.length), ∃ ad, ao = some ad ∧ ad.block < N ∧ ∀ j u, (ruL xs[i])[j]? = some u → w.cell? ((ad.add (i * 3)).add j) = some u) ∧ N ≤ w.heap.size ∧ (∀ a ∈ xs, 0 ≤ a.addr ∧ a.addr < 4294967296)) := ⟨hcell, hN, hw⟩
  clear hcell hN ha hw hc la hL hR
  go_enter Try.func9, Try.ntmps9
  go_wp2
  go_loopw [5, 6, 11] (fun b f i wr => ∃ (k : Nat) (B F : Int), i = .int .i64 (k : Int) ∧ b = .int .i64 B ∧ f = .int .i64 F ∧ (k : Int) ≤ L ∧ -1 ≤ B ∧ B ≤ 32 ∧ 0 ≤ F ∧ F ≤ 255 ∧ Hid ((xs.take k).foldl (mtS x) (0, 0) = (B, F)) ∧ Hid (Below w.heap.size w wr)) (fun _ _ i _ => (L - intOf i).toNat)
  case atStart => exact ⟨0, 0, 0, rfl, rfl, rfl, by omega, by omega, by omega, by omega, by omega, rfl, Below.refl _ _⟩
  case round =>
    obtain ⟨k, B, F, rfl, rfl, rfl, hk, B0, B1, F0, F1, hA, hB⟩ := hrel
    by_cases hlt : (k : Int) < L
    · have hkx : k < xs.length := by have := HL.out; omega
      obtain ⟨ad, g1, g2, g3⟩ := HH.out.1 k hkx
      have hix : ∀ w, Sem.run Try.prog (Instr.indexAt 22 (.slice ao L cap) (.int .i64 (k : Int))) w = .ok (.pointer (some (ad.add (k * 3)))) w := ix_ru L cap k g1 hlt
      have HC : Hid (∀ j u, (ruL xs[k])[j]? = some u → wr.cell? ((ad.add (k * 3)).add j) = some u) := fun j u hu => by
        rw [hB.out.cell (p := (ad.add (k * 3)).add j) (by rw [add_block, add_block]; have := HH.out.2.1; omega)]
        exact g3 j u hu
      obtain ⟨E, hE⟩ : ∃ E, E = xs[k] := ⟨_, rfl⟩
      have HD : Hid ((xs.take (k + 1)).foldl (mtS x) (0, 0) = mtS x (B, F) E) := by
        show _ = _
        rw [mt_take x _ xs k hkx, hA.out, ← hE]
      obtain ⟨A, hA0⟩ : ∃ A, A = ad.add (k * 3) := ⟨_, rfl⟩
      rw [← hA0] at hix HC
      rw [← hE] at HC
      have hab := HH.out.2.2 xs[k] (List.getElem_mem hkx)
      rw [← hE] at hab
      obtain ⟨a0, a1⟩ := hab
      clear hA0 g3 hE g1
      obtain ⟨addr, bits, flags⟩ := E
      unfold ruL at HC
      simp only at HC HD a0 a1
      have HB1 : Hid (∀ o, Below w.heap.size w (wr.alloc o)) := fun o => hB.out.alloc hB.out.size o
      obtain ⟨C, hC⟩ : ∃ C, C = ckR ⟨addr, bits, flags⟩ := ⟨_, rfl⟩
      have HK : Hid (∀ u, Calls Try.prog 12 #[.agg #[.int .u32 addr, .int .i64 bits, .int .i64 flags]] u fun e w' => e = .returned (.int .i64 C) ∧ Below u.heap.size u w') := fun u => by rw [hC]; exact check_any addr bits flags u a0
      by_cases hok : okB ⟨addr, bits, flags⟩ = true
      · have hC0 : C = 0 := by rw [hC]; exact ckR_pos hok
        subst hC0
        obtain ⟨b0, b1, f0, f1⟩ := ok_bd hok
        simp only at b0 b1 f0 f1
        have HOK : Hid (okB ⟨addr, bits, flags⟩ = true) := hok
        clear hC hok
        obtain ⟨S, hS⟩ : ∃ S, S = spB ⟨addr, bits, flags⟩ x := ⟨_, rfl⟩
        have HS : Hid (∀ u, Calls Try.prog 24 #[.agg #[.int .u32 addr, .int .i64 bits, .int .i64 flags], .int .u32 x] u fun e w' => e = .returned (.bool S) ∧ Below u.heap.size u w') := fun u => by rw [hS]; exact speaksOf_any addr bits flags x u a0 a1 x0 x1 b0 b1
        have HM : Hid (mtS x (B, F) ⟨addr, bits, flags⟩ = if S = true then (if B < bits then (bits, flags) else if bits < B then (B, F) else (B, orI F flags)) else (B, F)) := by
          show _ = _
          unfold mtS
          rw [← hS]
          simp only [HOK.out, true_and]
        clear hS
        have HO : Hid (0 ≤ orI F flags ∧ orI F flags ≤ 255) := orI_bd F flags F0 F1 f0 f1
        have HZ : Hid (orI 0 flags = flags) := orI_zero flags f0 f1
        cases S
        all_goals
          rcases Int.lt_trichotomy bits B with c1 | rfl | c1
        all_goals
          go_wp2_with (first
            | (refine step_ldat 26 _ (by rfl) (by rfl) A (by rfl) [.int .u32 addr, .int .i64 bits, .int .i64 flags] _ Try.underlying26 (by rfl) ru_info ?_ ?_; exact HC.out)
            | (go_at_call 12; refine (HK.out _).mono ?_; rintro e w3 ⟨rfl, hb3⟩
               have HB3 : Hid (Below w.heap.size w w3) := (HB1.out _).trans (hb3.mono (HB1.out _).size)
               have c0 : w3.cell? ⟨wr.heap.size, 0, none⟩ = some (.int .u32 addr) := by rw [hb3.cell (p := ⟨wr.heap.size, 0, none⟩) (by simp)]; simp
               have c1' : w3.cell? ⟨wr.heap.size, 1, none⟩ = some (.int .i64 bits) := by rw [hb3.cell (p := ⟨wr.heap.size, 1, none⟩) (by simp)]; simp
               have c2' : w3.cell? ⟨wr.heap.size, 2, none⟩ = some (.int .i64 flags) := by rw [hb3.cell (p := ⟨wr.heap.size, 2, none⟩) (by simp)]; simp
               have hsz : wr.heap.size < w3.heap.size := Nat.lt_of_lt_of_le (by simp) hb3.size
               clear hb3)
            | (go_at_call 24; refine (HS.out _).mono ?_; rintro e w4 ⟨rfl, hb4⟩
               have HB4 : Hid (Below w.heap.size w w4) := HB3.out.trans (hb4.mono HB3.out.size)
               have hcb := fun (j : Nat) => hb4.cell (p := ⟨wr.heap.size, j, none⟩) (by have := hsz; simp; omega)
               have d0 : w4.cell? ⟨wr.heap.size, 0, none⟩ = some (.int .u32 addr) := by rw [hcb 0]; exact c0
               have d1 : w4.cell? ⟨wr.heap.size, 1, none⟩ = some (.int .i64 bits) := by rw [hcb 1]; exact c1'
               have d2 : w4.cell? ⟨wr.heap.size, 2, none⟩ = some (.int .i64 flags) := by rw [hcb 2]; exact c2'
               clear hcb hb4))
        all_goals
          refine ⟨⟨k + 1, _, _, by go_num, rfl, rfl, by omega, ?_, ?_, ?_, ?_, ?_, by first | exact HB4 | exact HB3⟩, by simp [intOf]; omega⟩
        all_goals first
          | omega
          | (show _ = _; rw [HD.out, HM.out]; first | (rw [if_neg (by decide)]; done) | (rw [if_pos (by trivial), if_neg (by omega), if_pos (by omega)]; done) | (rw [if_pos (by trivial), if_pos (by omega)]; exact Prod.ext rfl HZ.out.symm) | (rw [if_pos (by trivial), if_neg (by omega), if_neg (by omega)]; first | rfl | (refine Prod.ext ?_ rfl; show _ = _; omega)))
          | (have h9 := HO.out; unfold orI at h9; omega)
          | (have h9 := HZ.out; unfold orI at h9; rw [h9]; omega)
      · have hok' : okB ⟨addr, bits, flags⟩ = false := by simpa using hok
        have hC0 : C = 60 := by rw [hC]; exact ckR_neg hok'
        subst hC0
        have HM : Hid (mtS x (B, F) ⟨addr, bits, flags⟩ = (B, F)) := by
          show _ = _
          unfold mtS
          rw [if_neg (fun h => hok h.1)]
        clear hC hok hok'
        go_wp2_with (first
            | (refine step_ldat 26 _ (by rfl) (by rfl) A (by rfl) [.int .u32 addr, .int .i64 bits, .int .i64 flags] _ Try.underlying26 (by rfl) ru_info ?_ ?_; exact HC.out)
            | (go_at_call 12; refine (HK.out _).mono ?_; rintro e w3 ⟨rfl, hb3⟩
               have HB3 : Hid (Below w.heap.size w w3) := (HB1.out _).trans (hb3.mono (HB1.out _).size)
               clear hb3))
        exact ⟨⟨k + 1, _, _, by go_num, rfl, rfl, by omega, B0, B1, F0, F1, by show _ = _; rw [HD.out, HM.out], HB3⟩, by simp [intOf]; omega⟩
    · have HE : Hid (R = F) := by
        show _ = _
        rw [HR.out]
        have := hA.out
        rw [List.take_of_length_le (by have := HL.out; omega)] at this
        rw [this]
      go_wp2
      go_ret
      exact ⟨ret_int' HE.out.symm, hB.out⟩
set_option maxHeartbeats 2000000 in
theorem rmatch_any (N : Nat) (v : Value) (xs : List Ru) (x : Int) (w : World) (hN : N ≤ w.heap.size) (ha : Rk N w 3 v (xs.map ruL)) (la : xs.length ≤ 140737488355328) (hw : ∀ a ∈ xs, 0 ≤ a.addr ∧ a.addr < 4294967296) (x0 : 0 ≤ x) (x1 : x < 4294967296) :
    Calls Try.prog 10 #[v, .int .u32 x] w fun e w' => e = .returned (.int .i64 (mtF x xs)) ∧ Below w.heap.size w w' := by
  obtain ⟨ao, cap, hav, hc, hcell⟩ := ha.ru
  subst hav
  obtain ⟨L, hL⟩ : ∃ L, L = xs.length := ⟨_, rfl⟩
  rw [← hL]
  have HL : Hid (L = xs.length) := hL
  have l1 : (L : Int) ≤ 140737488355328 := by omega
  obtain ⟨R, hR⟩ : ∃ R, R = mtF x xs := ⟨_, rfl⟩
  rw [← hR]
  have HR : Hid (R = (xs.foldl (mtS x) (-1, 0)).2) := by show _ = _; rw [hR, ← mtF_neg]
  have HH : Hid ((∀ i (hi : i < xs.length), ∃ ad, ao = some ad ∧ ad.block < N ∧ ∀ j u, (ruL xs[i])[j]? = some u → w.cell? ((ad.add (i * 3)).add j) = some u) ∧ N ≤ w.heap.size ∧ (∀ a ∈ xs, 0 ≤ a.addr ∧ a.addr < 4294967296)) := ⟨hcell, hN, hw⟩
  clear hcell hN ha hw hc la hL hR
  go_enter Try.func10, Try.ntmps10
  go_wp2
  go_loopw [5, 6, 11] (fun b f i wr => ∃ (k : Nat) (B F : Int), i = .int .i64 (k : Int) ∧ b = .int .i64 B ∧ f = .int .i64 F ∧ (k : Int) ≤ L ∧ -1 ≤ B ∧ B ≤ 32 ∧ 0 ≤ F ∧ F ≤ 255 ∧ Hid ((xs.take k).foldl (mtS x) (-1, 0) = (B, F)) ∧ Hid (Below w.heap.size w wr)) (fun _ _ i _ => (L - intOf i).toNat)
  case atStart => exact ⟨0, -1, 0, rfl, rfl, rfl, by omega, by omega, by omega, by omega, by omega, rfl, Below.refl _ _⟩
  case round =>
    obtain ⟨k, B, F, rfl, rfl, rfl, hk, B0, B1, F0, F1, hA, hB⟩ := hrel
    by_cases hlt : (k : Int) < L
    · have hkx : k < xs.length := by have := HL.out; omega
      obtain ⟨ad, g1, g2, g3⟩ := HH.out.1 k hkx
      have hix : ∀ w, Sem.run Try.prog (Instr.indexAt 22 (.slice ao L cap) (.int .i64 (k : Int))) w = .ok (.pointer (some (ad.add (k * 3)))) w := ix_ru L cap k g1 hlt
      have HC : Hid (∀ j u, (ruL xs[k])[j]? = some u → wr.cell? ((ad.add (k * 3)).add j) = some u) := fun j u hu => by
        rw [hB.out.cell (p := (ad.add (k * 3)).add j) (by rw [add_block, add_block]; have := HH.out.2.1; omega)]
        exact g3 j u hu
      obtain ⟨E, hE⟩ : ∃ E, E = xs[k] := ⟨_, rfl⟩
      have HD : Hid ((xs.take (k + 1)).foldl (mtS x) (-1, 0) = mtS x (B, F) E) := by
        show _ = _
        rw [mt_take x _ xs k hkx, hA.out, ← hE]
      obtain ⟨A, hA0⟩ : ∃ A, A = ad.add (k * 3) := ⟨_, rfl⟩
      rw [← hA0] at hix HC
      rw [← hE] at HC
      have hab := HH.out.2.2 xs[k] (List.getElem_mem hkx)
      rw [← hE] at hab
      obtain ⟨a0, a1⟩ := hab
      clear hA0 g3 hE g1
      obtain ⟨addr, bits, flags⟩ := E
      unfold ruL at HC
      simp only at HC HD a0 a1
      have HB1 : Hid (∀ o, Below w.heap.size w (wr.alloc o)) := fun o => hB.out.alloc hB.out.size o
      obtain ⟨C, hC⟩ : ∃ C, C = ckR ⟨addr, bits, flags⟩ := ⟨_, rfl⟩
      have HK : Hid (∀ u, Calls Try.prog 13 #[.agg #[.int .u32 addr, .int .i64 bits, .int .i64 flags]] u fun e w' => e = .returned (.int .i64 C) ∧ Below u.heap.size u w') := fun u => by rw [hC]; exact rcheck_any addr bits flags u a0 a1
      by_cases hok : okB ⟨addr, bits, flags⟩ = true
      · have hC0 : C = 0 := by rw [hC]; exact ckR_pos hok
        subst hC0
        obtain ⟨b0, b1, f0, f1⟩ := ok_bd hok
        simp only at b0 b1 f0 f1
        have HOK : Hid (okB ⟨addr, bits, flags⟩ = true) := hok
        clear hC hok
        obtain ⟨S, hS⟩ : ∃ S, S = spB ⟨addr, bits, flags⟩ x := ⟨_, rfl⟩
        have HS : Hid (∀ u, Calls Try.prog 25 #[.agg #[.int .u32 addr, .int .i64 bits, .int .i64 flags], .int .u32 x] u fun e w' => e = .returned (.bool S) ∧ Below u.heap.size u w') := fun u => by rw [hS]; exact speaks_any addr bits flags x u a0 a1 x0 x1 b0 b1
        have HM : Hid (mtS x (B, F) ⟨addr, bits, flags⟩ = if S = true then (if B < bits then (bits, flags) else if bits < B then (B, F) else (B, orI F flags)) else (B, F)) := by
          show _ = _
          unfold mtS
          rw [← hS]
          simp only [HOK.out, true_and]
        clear hS
        have HO : Hid (0 ≤ orI F flags ∧ orI F flags ≤ 255) := orI_bd F flags F0 F1 f0 f1
        have HZ : Hid (orI 0 flags = flags) := orI_zero flags f0 f1
        cases S
        all_goals
          rcases Int.lt_trichotomy bits B with c1 | rfl | c1
        all_goals
          go_wp2_with (first
            | (refine step_ldat 26 _ (by rfl) (by rfl) A (by rfl) [.int .u32 addr, .int .i64 bits, .int .i64 flags] _ Try.underlying26 (by rfl) ru_info ?_ ?_; exact HC.out)
            | (go_at_call 13; refine (HK.out _).mono ?_; rintro e w3 ⟨rfl, hb3⟩
               have HB3 : Hid (Below w.heap.size w w3) := (HB1.out _).trans (hb3.mono (HB1.out _).size)
               have c0 : w3.cell? ⟨wr.heap.size, 0, none⟩ = some (.int .u32 addr) := by rw [hb3.cell (p := ⟨wr.heap.size, 0, none⟩) (by simp)]; simp
               have c1' : w3.cell? ⟨wr.heap.size, 1, none⟩ = some (.int .i64 bits) := by rw [hb3.cell (p := ⟨wr.heap.size, 1, none⟩) (by simp)]; simp
               have c2' : w3.cell? ⟨wr.heap.size, 2, none⟩ = some (.int .i64 flags) := by rw [hb3.cell (p := ⟨wr.heap.size, 2, none⟩) (by simp)]; simp
               have hsz : wr.heap.size < w3.heap.size := Nat.lt_of_lt_of_le (by simp) hb3.size
               clear hb3)
            | (go_at_call 25; refine (HS.out _).mono ?_; rintro e w4 ⟨rfl, hb4⟩
               have HB4 : Hid (Below w.heap.size w w4) := HB3.out.trans (hb4.mono HB3.out.size)
               have hcb := fun (j : Nat) => hb4.cell (p := ⟨wr.heap.size, j, none⟩) (by have := hsz; simp; omega)
               have d0 : w4.cell? ⟨wr.heap.size, 0, none⟩ = some (.int .u32 addr) := by rw [hcb 0]; exact c0
               have d1 : w4.cell? ⟨wr.heap.size, 1, none⟩ = some (.int .i64 bits) := by rw [hcb 1]; exact c1'
               have d2 : w4.cell? ⟨wr.heap.size, 2, none⟩ = some (.int .i64 flags) := by rw [hcb 2]; exact c2'
               clear hcb hb4))
        all_goals
          refine ⟨⟨k + 1, _, _, by go_num, rfl, rfl, by omega, ?_, ?_, ?_, ?_, ?_, by first | exact HB4 | exact HB3⟩, by simp [intOf]; omega⟩
        all_goals first
          | omega
          | (show _ = _; rw [HD.out, HM.out]; first | (rw [if_neg (by decide)]; done) | (rw [if_pos (by trivial), if_neg (by omega), if_pos (by omega)]; done) | (rw [if_pos (by trivial), if_pos (by omega)]; exact Prod.ext rfl HZ.out.symm) | (rw [if_pos (by trivial), if_neg (by omega), if_neg (by omega)]; first | rfl | (refine Prod.ext ?_ rfl; show _ = _; omega)))
          | (have h9 := HO.out; unfold orI at h9; omega)
          | (have h9 := HZ.out; unfold orI at h9; rw [h9]; omega)
      · have hok' : okB ⟨addr, bits, flags⟩ = false := by simpa using hok
        have hC0 : C = 60 := by rw [hC]; exact ckR_neg hok'
        subst hC0
        have HM : Hid (mtS x (B, F) ⟨addr, bits, flags⟩ = (B, F)) := by
          show _ = _
          unfold mtS
          rw [if_neg (fun h => hok h.1)]
        clear hC hok hok'
        go_wp2_with (first
            | (refine step_ldat 26 _ (by rfl) (by rfl) A (by rfl) [.int .u32 addr, .int .i64 bits, .int .i64 flags] _ Try.underlying26 (by rfl) ru_info ?_ ?_; exact HC.out)
            | (go_at_call 13; refine (HK.out _).mono ?_; rintro e w3 ⟨rfl, hb3⟩
               have HB3 : Hid (Below w.heap.size w w3) := (HB1.out _).trans (hb3.mono (HB1.out _).size)
               clear hb3))
        exact ⟨⟨k + 1, _, _, by go_num, rfl, rfl, by omega, B0, B1, F0, F1, by show _ = _; rw [HD.out, HM.out], HB3⟩, by simp [intOf]; omega⟩
    · have HE : Hid (R = F) := by
        show _ = _
        rw [HR.out]
        have := hA.out
        rw [List.take_of_length_le (by have := HL.out; omega)] at this
        rw [this]
      go_wp2
      go_ret
      exact ⟨ret_int' HE.out.symm, hB.out⟩
end Go.Proofs.Ytmgphfdieekpdaa
