/- RestrictRecent. -/
import Derived.Test.YtmgphfdieekpdaaLR
namespace Go.Proofs.Ytmgphfdieekpdaa
open Go Go.RowKit
theorem coS3 : coS 3 = 8 := by decide
theorem or_oneU (w : World) (B : Nat) (a : Int) (hB : B ≤ w.heap.size) : OR (w.alloc (.cells #[.int .u32 a] 24)) B 24 1 (.slice (some ⟨w.heap.size, 0, none⟩) 1 1) ([a].map uL) := by
  refine ⟨⟨by simp [uL], .inr ⟨w.heap.size, 1, #[.int .u32 a], rfl, hB, heap_alloc_new w _, Nat.le_refl _, by unfold maxLen; omega, rfl, by simp [uL]⟩⟩, fun r hr => ?_⟩
  simp at hr
  rw [hr]
  rfl
theorem filt_step (us : List Int) (a : Int) (j : Nat) (hj : j < us.length) : a :: (us.take (j + 1)).filter (fun x => decide (x ≠ a)) = (a :: (us.take j).filter (fun x => decide (x ≠ a))) ++ (if us[j] = a then [] else [us[j]]) := by
  rw [List.take_succ_eq_append_getElem hj, List.filter_append]
  by_cases h : us[j] = a <;> simp [h]
theorem rk_oneU (U : World) (a : Value) (o : TypeId) : Rk (U.heap.size + 1) (U.alloc (.cells #[a] o)) 1 (.slice (some ⟨U.heap.size, 0, none⟩) 1 1) [[a]] := by
  refine ⟨some ⟨U.heap.size, 0, none⟩, 1, rfl, by simp, fun i hi => ⟨_, rfl, by simp, fun j u hu => ?_⟩⟩
  have hi0 : i = 0 := by simp at hi; omega
  subst hi0
  rw [add_own, Nat.zero_mul, Nat.zero_add, (Bk.new U _ o).cell j]
  have : (#[a] : Array Value)[j]? = [a][j]? := by simp
  rw [this]; exact hu
theorem nowK_succ (k : Nat) : nowK ((k : Int) + 1) = k := by unfold nowK; split <;> omega
theorem Rec.take {w : World} {g : Nat} {sv : Value} {ro : Option Addr} {rs : List Int} (h : Rec w g sv ro rs) (n : Nat) : Rec w g sv ro (rs.take n) := fun i hi => by
  have hi' : i < rs.length := by rw [List.length_take] at hi; omega
  rw [List.getElem_take]
  exact h i hi'
theorem add_two (ad : Addr) (m j : Nat) : (⟨(ad.add m).block, (ad.add m).off + (j + 1), none⟩ : Addr) = ad.add (m + (j + 1)) := by
  rcases m with _ | m
  · simp [Addr.add]
  · simp [Addr.add]; omega
set_option maxRecDepth 20000 in
set_option maxHeartbeats 2000000 in
theorem RestrictRecent_walk (hS : SortOk) (v : Value) (us : List Int) (w : World) (ha : Rk w.heap.size w 1 v (us.map fun p => [Value.int .u32 p])) (hl : us.length * 4 ≤ 140737488351232) :
    Calls Try.prog 8 #[v] w fun e w' => e = .returned (.bool true) ∧ Below w.heap.size w w' := by
  obtain ⟨ao, cap, hv, hc, hcell⟩ := ha
  rw [List.length_map] at hv hc hcell
  subst hv
  have HA : Hid (∀ i (hi : i < us.length), ∃ ad, ao = some ad ∧ ad.block < w.heap.size ∧ w.cell? (ad.add i) = some (.int .u32 us[i])) := fun i hi => by
    obtain ⟨ad, h1, h2, h3⟩ := hcell i hi
    refine ⟨ad, h1, h2, ?_⟩
    have := h3 0 (.int .u32 us[i]) (by rw [List.getD_eq_getElem?_getD, List.getElem?_map, List.getElem?_eq_getElem hi]; rfl)
    simpa using this
  obtain ⟨L, hL⟩ : ∃ L, L = us.length := ⟨_, rfl⟩
  rw [← hL]
  have HL : Hid (L = us.length ∧ SortOk) := ⟨hL, hS⟩
  have l1 : (L : Int) ≤ 140737488351232 := by omega
  clear hc hcell hL hS hl
  go_enter Try.func8, Try.ntmps8
  go_wp2_with fail
  refine (shown_any _).mono ?_
  rintro e w1 ⟨rfl, hb1⟩
  have HB1 : Hid (Below w.heap.size w w1) := hb1
  clear hb1
  go_wp2_with fail
  refine (new_ok 3 2 w1 (by omega) (by omega) (by omega) (by omega)).mono ?_
  rintro e w2 ⟨rfl, hw2⟩
  obtain ⟨g, hg⟩ : ∃ g, w1.heap.size = g := ⟨_, rfl⟩
  have HM2 : Hid (Mm w2 g g (.slice none 0 0) 8 2 (-9223372036854775808) 0 []) := by
    have h := Mm.fresh w1 8 2
    rw [hw2, coS3, ← hg]
    exact h
  have HB2 : Hid (Below w.heap.size w w2 ∧ w.heap.size ≤ g) := ⟨by rw [hw2]; exact HB1.out.alloc HB1.out.size _, hg ▸ HB1.out.size⟩
  rw [hg]
  clear hw2 hg HB1
  go_wp2_with fail
  go_loopw [5, 29] (fun rv iv wr => ∃ (k M : Nat) (ro : Option Addr) (rc : Nat) (sv : Value) (xs : List Sn) (rs : List Int), iv = .int .i64 (k : Int) ∧ rv = .slice ro M rc ∧ (k : Int) ≤ L ∧ (M : Int) ≤ 32 ∧ (M : Int) ≤ rc ∧ Hid (M = rs.length ∧ Ri k xs rs ∧ Mm wr g g sv 8 2 (nowK k) k xs ∧ Rec wr g sv ro rs ∧ Below w.heap.size w wr)) (fun _ iv _ => (L - intOf iv).toNat)
  case atStart => exact ⟨0, 0, none, 0, .slice none 0 0, [], [], rfl, rfl, by omega, by omega, by omega, rfl, Ri.nil, HM2.out, (fun i hi => absurd hi (by simp)), HB2.out.1⟩
  case round =>
    obtain ⟨k, M, ro, rc, sv, xs, rs, rfl, rfl, hk, hM, hMc, HI⟩ := hrel
    by_cases hlt : (k : Int) < L
    · have hkx : k < us.length := by have := HL.out.1; omega
      obtain ⟨ad, g1, g2, g3⟩ := HA.out k hkx
      have hix : ∀ w, Sem.run Try.prog (Instr.indexAt 36 (.slice ao L cap) (.int .i64 (k : Int))) w = .ok (.pointer (some (ad.add k))) w := ix_u L cap k g1 hlt
      obtain ⟨a, haE⟩ : ∃ a, a = us[k] := ⟨_, rfl⟩
      rw [← haE] at g3
      have hca : wr.cell? (ad.add k) = some (.int .u32 a) := by rw [HI.out.2.2.2.2.cell (p := ad.add k) (by rw [add_block]; exact g2)]; exact g3
      obtain ⟨A, hA0⟩ : ∃ A, A = ad.add k := ⟨_, rfl⟩
      rw [← hA0] at hix hca
      clear hA0 g1 g2 g3 haE
      go_wp2_with fail
      refine (heard_step g g sv xs rs k a wr HI.out.2.2.1 (Nat.le_of_lt HI.out.2.2.1.blk.lt) HI.out.2.1 (by omega) (by omega)).mono ?_
      rintro e w3 ⟨sv3, xs3, v3, rfl, hr3, hm3, hf3, hs3⟩
      have H3 : Hid ((Ri (k + 1) xs3 (rcS rs a) ∧ (∃ s ∈ xs3, s.addr = a) ∧ ∀ s ∈ xs3, s.addr = a → s.last = k ∧ 1 ≤ s.count) ∧ Mm w3 g g sv3 8 2 k (k + 1) xs3 ∧ Rec w3 g sv3 ro rs ∧ Below w.heap.size w w3 ∧ M = rs.length) :=
        ⟨hr3, hm3, HI.out.2.2.2.1.fm hf3 hs3, HI.out.2.2.2.2.trans (hf3.below HI.out.2.2.2.2.size HB2.out.2 (fun q e => Nat.le_trans HB2.out.2 (HI.out.2.2.1.row.row.lt q e).1)), HI.out.1⟩
      clear hr3 hm3 hf3 hs3 HI hix hca
      go_wp2_with fail
      go_loopw [8, 42] (fun nv jv wq => ∃ (j N : Nat) (no : Option Addr) (nc : Nat), jv = .int .i64 (j : Int) ∧ nv = .slice no N nc ∧ (j : Int) ≤ M ∧ (N : Int) ≤ j + 1 ∧ (N : Int) ≤ nc ∧ Hid (OR wq w3.heap.size 24 1 (.slice no N nc) ((a :: (rs.take j).filter (fun x => decide (x ≠ a))).map uL) ∧ N = (a :: (rs.take j).filter (fun x => decide (x ≠ a))).length ∧ Below w3.heap.size w3 wq)) (fun _ jv _ => (M - intOf jv).toNat)
      case atStart => exact ⟨0, 1, _, 1, rfl, rfl, by omega, by omega, by omega, or_oneU w3 _ a (Nat.le_refl _), rfl, (Below.refl _ _).alloc (Nat.le_refl _) _⟩
      case round =>
        obtain ⟨j, N, no, nc, rfl, rfl, hj, hN, hNc, HJ⟩ := hrel
        by_cases hjt : (j : Int) < M
        · have hjx : j < rs.length := by have := H3.out.2.2.2.2; omega
          obtain ⟨ad, g1, g2, g3, g4, g5⟩ := H3.out.2.2.1 j hjx
          have hix : ∀ w, Sem.run Try.prog (Instr.indexAt 36 (.slice ro M rc) (.int .i64 (j : Int))) w = .ok (.pointer (some (ad.add j))) w := ix_u M rc j g1 hjt
          obtain ⟨x, hxE⟩ : ∃ x, x = rs[j] := ⟨_, rfl⟩
          rw [← hxE] at g5
          have hcx : wr.cell? (ad.add j) = some (.int .u32 x) := by rw [HJ.out.2.2.cell (p := ad.add j) (by rw [add_block]; exact g2)]; exact g5
          obtain ⟨A, hA0⟩ : ∃ A, A = ad.add j := ⟨_, rfl⟩
          rw [← hA0] at hix hcx
          have HF : Hid (a :: (rs.take (j + 1)).filter (fun x => decide (x ≠ a)) = (a :: (rs.take j).filter (fun x => decide (x ≠ a))) ++ (if x = a then [] else [x])) := by rw [hxE]; exact filt_step rs a j hjx
          clear hA0 g1 g2 g3 g4 g5 hxE hjx
          by_cases hxa : x = a
          · have HF2 : Hid (a :: (rs.take (j + 1)).filter (fun x => decide (x ≠ a)) = a :: (rs.take j).filter (fun x => decide (x ≠ a))) := by
              have h := HF.out
              rw [if_pos hxa, List.append_nil] at h
              exact h
            clear HF
            subst hxa
            go_wp2_with fail
            refine ⟨⟨j + 1, N, no, nc, by go_num, rfl, by omega, by omega, by omega, ?_⟩, by simp [intOf]; omega⟩
            show _ ∧ _ ∧ _
            rw [HF2.out]
            exact HJ.out
          · have HF2 : Hid (a :: (rs.take (j + 1)).filter (fun x => decide (x ≠ a)) = (a :: (rs.take j).filter (fun x => decide (x ≠ a))) ++ [x]) := by
              have h := HF.out
              rw [if_neg hxa] at h
              exact h
            clear HF
            have HR1 : Hid (Rk (wr.heap.size + 1) (wr.alloc (.cells #[.int .u32 x] 24)) 1 (.slice (some ⟨wr.heap.size, 0, none⟩) 1 1) [[.int .u32 x]]) := rk_oneU wr _ _
            have HOR : Hid (OR (wr.alloc (.cells #[.int .u32 x] 24)) w3.heap.size 24 1 (.slice no N nc) ((a :: (rs.take j).filter (fun x => decide (x ≠ a))).map uL)) := HJ.out.1.alloc _
            have HBU : Hid (Below w3.heap.size w3 (wr.alloc (.cells #[.int .u32 x] 24))) := HJ.out.2.2.alloc HJ.out.2.2.size _
            obtain ⟨rows, hrows⟩ : ∃ rows, rows = (a :: (rs.take j).filter (fun x => decide (x ≠ a))).map uL := ⟨_, rfl⟩
            rw [← hrows] at HOR
            have HLN : Hid (rows.length + 1 ≤ 34 ∧ rows = (a :: (rs.take j).filter (fun x => decide (x ≠ a))).map uL) := ⟨by rw [hrows, List.length_map, ← HJ.out.2.1]; omega, hrows⟩
            clear hrows
            go_wp2_with (refine wpList_appk tiU (by rfl) _ _ (by rfl) w3.heap.size (wr.heap.size + 1) (.slice no N nc) (.slice (some ⟨wr.heap.size, 0, none⟩) 1 1) rows [[.int .u32 x]] (by rfl) (by rfl) HOR.out HR1.out (ra_oneS _) (by intro r hr; rw [List.mem_singleton] at hr; rw [hr]; rfl) (by intro r hr u hu; rw [List.mem_singleton] at hr; rw [hr, List.mem_singleton] at hu; rw [hu]; rfl) (Nat.le_trans HLN.out.1 (by unfold maxLen; omega)) (Nat.le_trans (Nat.mul_le_mul_right 4 HLN.out.1) (by omega)) HBU.out.size ?_)
            intro v5 w5 ho5 hg5 hv5
            have hB5 : Below w3.heap.size w3 w5 := HBU.out.grown hg5 HBU.out.size (fun q hq => (HOR.out.row.lt q hq).1)
            have ho6 : OR w5 w3.heap.size 24 1 v5 ((a :: (rs.take (j + 1)).filter (fun x => decide (x ≠ a))).map uL) := by
              rw [HF2.out, List.map_append, ← HLN.out.2]
              exact ho5
            obtain ⟨no6, nc6, hv6, hc6, -⟩ := ho6.rk
            rw [List.length_map] at hv6 hc6
            obtain ⟨N6, hN6⟩ : ∃ N6, N6 = (a :: (rs.take (j + 1)).filter (fun x => decide (x ≠ a))).length := ⟨_, rfl⟩
            rw [← hN6] at hv6 hc6
            have hNN : N6 = N + 1 := by
              have h1 := HJ.out.2.1
              rw [hN6, HF2.out, List.length_append, ← h1]
              rfl
            subst hv6
            have H6 : Hid (OR w5 w3.heap.size 24 1 (.slice no6 N6 nc6) ((a :: (rs.take (j + 1)).filter (fun x => decide (x ≠ a))).map uL) ∧ N6 = (a :: (rs.take (j + 1)).filter (fun x => decide (x ≠ a))).length ∧ Below w3.heap.size w3 w5) := ⟨ho6, hN6, hB5⟩
            clear ho5 hg5 hv5 hB5 ho6 hN6 HF2 HR1 HOR HBU HLN HJ hix hcx
            go_wp2_with fail
            exact ⟨⟨j + 1, N6, no6, nc6, by go_num, rfl, by omega, by omega, by omega, H6⟩, by simp [intOf]; omega⟩
        · have HO : Hid (OR wr w3.heap.size 24 1 (.slice no N nc) ((a :: rs.filter (fun x => decide (x ≠ a))).map uL) ∧ N = (a :: rs.filter (fun x => decide (x ≠ a))).length ∧ Below w3.heap.size w3 wr) := by
            have hje : j = rs.length := by have := H3.out.2.2.2.2; omega
            have h := HJ.out
            rw [hje, List.take_length] at h
            exact h
          obtain ⟨P, hP⟩ : ∃ P : Nat, P = min 32 N := ⟨_, rfl⟩
          have hPI : (if (32 : Int) < N then 32 else (N : Int)) = P := by rw [hP]; split <;> omega
          have hmin : ∀ u, (Builtin.min_ #[3, 3] 3 #[.int .i64 (N : Int), .int .i64 32]).run Try.prog u = .ok (.int .i64 (P : Int)) u := fun u => by rw [← hPI]; exact run_mn _ _ u
          have p1 : (P : Int) ≤ 32 := by omega
          have p2 : (P : Int) ≤ nc := by omega
          have p3 : (0 : Int) ≤ P := by omega
          have H7 : Hid (P = (rcS rs a).length ∧ Rec wr g sv3 no (rcS rs a) ∧ Mm wr g g sv3 8 2 k (k + 1) xs3 ∧ Below w.heap.size w wr) := by
            refine ⟨?_, ?_, H3.out.2.1.below HO.out.2.2, H3.out.2.2.2.1.trans (HO.out.2.2.mono H3.out.2.2.2.1.size)⟩
            · unfold rcS; rw [List.length_take, ← HO.out.2.1]; exact hP
            · exact (HO.out.1.recU H3.out.2.1.blk.lt (fun q e => (H3.out.2.1.row.row.lt q e).2)).take 32
          clear HO HJ hP hPI
          go_wp2_with fail
          refine (find_any g g sv3 xs3 8 2 k (k + 1) a wr H7.out.2.2.1 H3.out.1.1.len).mono ?_
          rintro e w7 ⟨s, b, rfl, hsb, hb7⟩
          rcases hsb with ⟨rfl, hs1, hs2⟩ | ⟨rfl, rfl, hno⟩
          · obtain ⟨hs3, hs4⟩ := H3.out.1.2.2 s hs1 hs2
            have H8 : Hid (Ri (k + 1) xs3 (rcS rs a) ∧ P = (rcS rs a).length ∧ Mm w7 g g sv3 8 2 k (k + 1) xs3 ∧ Rec w7 g sv3 no (rcS rs a) ∧ Below w.heap.size w w7) :=
              ⟨H3.out.1.1, H7.out.1, H7.out.2.2.1.below hb7, H7.out.2.1.below hb7, H7.out.2.2.2.trans (hb7.mono H7.out.2.2.2.size)⟩
            clear hb7 H7 hs1 H3 hmin
            obtain ⟨x0, x1, x2, x3, x4, x5⟩ := s
            unfold enL
            simp only at hs2 hs3 hs4 ⊢
            subst hs2
            subst hs3
            go_wp2_with fail
            have hkc : ((k + 1 : Nat) : Int) = (k : Int) + 1 := by omega
            refine ⟨⟨k + 1, P, no, nc, sv3, xs3, rcS rs x0, by go_num, rfl, by omega, by omega, by omega, ?_⟩, by simp [intOf]; omega⟩
            show _ ∧ _ ∧ _ ∧ _ ∧ _
            rw [hkc, nowK_succ]
            exact ⟨H8.out.2.1, H8.out.1, H8.out.2.2.1.below ((Below.refl _ _).alloc (Nat.le_refl _) _), H8.out.2.2.2.1.below ((Below.refl _ _).alloc (Nat.le_refl _) _), H8.out.2.2.2.2.alloc H8.out.2.2.2.2.size _⟩
          · obtain ⟨s, h1, h2⟩ := H3.out.1.2.1
            exact absurd h2 (hno s h1)
    · go_wp2_with fail
      refine (list_any HL.out.2 g g sv xs 8 2 (nowK k) k wr HI.out.2.2.1 HI.out.2.1.len).mono ?_
      rintro e w8 ⟨v8, ys, rfl, hp8, hs8, ho8, hb8⟩
      obtain ⟨hr1, hr2, hr3⟩ := HI.out.2.1.list hp8 hs8
      have hMl : ys.length = M := by rw [HI.out.1, hr1, List.length_map]
      obtain ⟨lo, lc, hv8, hc8, hcell8⟩ := ho8.rk
      rw [List.length_map, hMl] at hv8 hc8
      subst hv8
      have HE : Hid (∀ i (hi : i < ys.length), ∃ ad A, lo = some ad ∧ A = ad.add (i * 5) ∧ w8.cell? A = some (.int .u32 ys[i].addr) ∧ w8.cell? ⟨A.block, A.off + 1, none⟩ = some (.int .i64 ys[i].first) ∧ w8.cell? ⟨A.block, A.off + 2, none⟩ = some (.int .i64 ys[i].last)) := fun i hi => by
        obtain ⟨ad, h1, h2, h3⟩ := hcell8 i (by rw [List.length_map]; exact hi)
        have e : (ys.map enL).getD i [] = enL ys[i] := by rw [List.getD_eq_getElem?_getD, List.getElem?_map, List.getElem?_eq_getElem hi]; rfl
        rw [e] at h3
        exact ⟨ad, _, h1, rfl, h3 0 _ rfl, by rw [add_two ad (i * 5) 0]; exact h3 1 _ rfl, by rw [add_two ad (i * 5) 1]; exact h3 2 _ rfl⟩
      have HG : Hid (Rec w8 g sv ro rs ∧ rs = ys.map (·.addr) ∧ (∀ x ∈ ys, x.first ≤ x.last) ∧ ys.Pairwise (fun a b => b.last ≤ a.last) ∧ ys.length = M ∧ Below w.heap.size w w8) := ⟨HI.out.2.2.2.1.below hb8, hr1, hr2, hr3, hMl, HI.out.2.2.2.2.trans (hb8.mono HI.out.2.2.2.2.size)⟩
      clear hp8 hs8 ho8 hb8 hr1 hr2 hr3 hMl hc8 hcell8 HI
      go_wp2_with fail
      go_loopw [94] (fun iv wr => ∃ i n : Nat, iv = .int .i64 (i : Int) ∧ (i : Int) ≤ M ∧ wr = w8.drewN n) (fun iv _ => (M - intOf iv).toNat)
      case atStart => exact ⟨0, 0, rfl, by omega, rfl⟩
      case round =>
        obtain ⟨i, n, rfl, hi, rfl⟩ := hrel
        by_cases hit : (i : Int) < M
        · have hiy : i < ys.length := by have := HG.out.2.2.2.2.1; omega
          obtain ⟨ad, A, g1, g2, c0, c1, c2⟩ := HE.out i hiy
          have hix : ∀ w, Sem.run Try.prog (Instr.indexAt 55 (.slice lo M lc) (.int .i64 (i : Int))) w = .ok (.pointer (some A)) w := by rw [g2]; exact ix_en M lc i g1 hit
          obtain ⟨ad', f1, -, -, -, f5⟩ := HG.out.1 i (by rw [HG.out.2.1, List.length_map]; exact hiy)
          have hiu : ∀ w, Sem.run Try.prog (Instr.indexAt 36 (.slice ro M rc) (.int .i64 (i : Int))) w = .ok (.pointer (some (ad'.add i))) w := ix_u M rc i f1 hit
          have hra : rs[i]'(by rw [HG.out.2.1, List.length_map]; exact hiy) = ys[i].addr := by have h := HG.out.2.1; subst h; simp
          rw [hra] at f5
          have hfl : ys[i].first ≤ ys[i].last := HG.out.2.2.1 _ (List.getElem_mem hiy)
          obtain ⟨y0, hy0⟩ : ∃ y, y = ys[i].addr := ⟨_, rfl⟩
          obtain ⟨y1, hy1⟩ : ∃ y, y = ys[i].first := ⟨_, rfl⟩
          obtain ⟨y2, hy2⟩ : ∃ y, y = ys[i].last := ⟨_, rfl⟩
          rw [← hy0] at c0 f5
          rw [← hy1] at c1 hfl
          rw [← hy2] at c2 hfl
          obtain ⟨U, hU⟩ : ∃ U, U = ad'.add i := ⟨_, rfl⟩
          rw [← hU] at f5 hiu
          clear hra hU f1 g1 g2 hy0 hy1
          by_cases h0 : 0 < i
          · have hip : i - 1 < ys.length := by omega
            have h0' : (0 : Int) < i := by omega
            obtain ⟨ad1, A1, k1, k2, -, -, e2⟩ := HE.out (i - 1) hip
            have ec : ((i - 1 : Nat) : Int) = (i : Int) - 1 := by omega
            have hix1 : ∀ w, Sem.run Try.prog (Instr.indexAt 55 (.slice lo M lc) (.int .i64 ((i : Int) - 1))) w = .ok (.pointer (some A1)) w := by rw [k2, ← ec]; exact ix_en M lc (i - 1) k1 (by omega)
            have hle : ys[i].last ≤ ys[i - 1].last := List.pairwise_iff_getElem.1 HG.out.2.2.2.1 (i - 1) i hip hiy (by omega)
            obtain ⟨z2, hz2⟩ : ∃ z, z = ys[i - 1].last := ⟨_, rfl⟩
            rw [← hz2] at e2 hle
            rw [← hy2] at hle
            have hwr : IntKind.i64.wrap ((i : Int) - 1) = (i : Int) - 1 := by rw [IntKind.wrap_i64]; omega
            clear k1 k2 hz2 hy2 ec hip
            go_wp2_with fail
            go_quiet (fail)
            go_wp2_with fail
            exact ⟨⟨i + 1, n + nq, by go_num, by omega, by rfl⟩, by simp [intOf]; omega⟩
          · have h0' : ¬ (0 : Int) < i := by omega
            clear hy2
            go_wp2_with fail
            go_quiet (fail)
            go_wp2_with fail
            exact ⟨⟨i + 1, n + nq, by go_num, by omega, by rfl⟩, by simp [intOf]; omega⟩
        · have HBf : Hid (Below w.heap.size w (w8.drewN n)) := below_drewN HG.out.2.2.2.2.2 n
          go_wp2_with fail
          go_ret
          exact ⟨rfl, HBf.out⟩
end Go.Proofs.Ytmgphfdieekpdaa
