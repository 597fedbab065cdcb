/- Auth: the statements' examples. -/
import Derived.Test.YtocimfhagkcnlaaDoorAuL
import Derived.Test.YtocimfhagkcnlaaDoorAuV
import Derived.Test.YtocimfhagkcnlaaDoorAQ
import Derived.Lib.SlBytesConst
namespace Go.Proofs.YtocimfhagkcnlaaDoor
open Go Go.RowKit Go.Sort
set_option linter.unusedVariables false
/-- a fresh row of bytes -/
theorem Sv.row (w : World) (l : List Int) (p : Nat × Nat) (ok : okb l) : Sv (w.heap.size + 1) (w.alloc (.cells (by' l).toArray 5 p)) (.slice (some ⟨w.heap.size, 0, none⟩) l.length l.length) l := by
  refine ⟨_, _, rfl, Nat.le_refl _, (fun q => by cases q), fun k hk => ⟨_, rfl, by simp, ?_⟩, ok⟩
  have e : (⟨w.heap.size, 0, none⟩ : Addr).add k = ⟨w.heap.size, k, none⟩ := by unfold Addr.add; split <;> simp_all
  rw [e]
  have := by_get l k hk
  simp only [World.alloc, World.cell?, Array.getElem?_push, if_true]
  simpa using this
theorem cv_const (w : World) (l : List Int) (n : Nat) (hn : l.length = n) : (convert 23 23 (.slice (some ⟨w.heap.size, 0, none⟩) n n)).run Tryd.prog (w.alloc (.cells (by' l).toArray 5)) = .ok (.slice (some ⟨w.heap.size, 0, none⟩) n n) (w.alloc (.cells (by' l).toArray 5 (n, n + 1))) := by
  have := Lib.run_convert_bytes_const (P := Tryd.prog) w 23 5 (by' l).toArray n n Tryd.underlying23 Tryd.underlying5
  simpa [by_len, hn] using this
def kE (n : Nat) : List Int := (List.range 16).map fun j => if j < n then (j : Int) else 0
def bE (n : Nat) : List Int := (List.range 16).map fun j => if j < n then (j : Int) * 17 else 0
theorem kE_set (n : Nat) (h : n < 16) : (kE n).set n (n : Int) = kE (n + 1) ∧ (bE n).set n ((n : Int) * 17) = bE (n + 1) := by
  have : ∀ n : Fin 16, (kE n.val).set n.val (n.val : Int) = kE (n.val + 1) ∧ (bE n.val).set n.val ((n.val : Int) * 17) = bE (n.val + 1) := by decide +kernel
  exact this ⟨n, h⟩
theorem kE_len (n : Nat) : (kE n).length = 16 ∧ (bE n).length = 16 := by unfold kE bE; simp
theorem kE_16 : kE 16 = [0, 1, 2, 3, 4, 5, 6, 7, 8, 9, 10, 11, 12, 13, 14, 15] ∧ bE 16 = [0, 17, 34, 51, 68, 85, 102, 119, 136, 153, 170, 187, 204, 221, 238, 255] := by decide +kernel
structure Sh (Z W : World) (k b : List Int) : Prop where
  b0 : Bk Z.heap.size W (by' k).toArray 22
  b1 : Bk (Z.heap.size + 1) W (by' b).toArray 22
  bl : Below Z.heap.size Z W
theorem Sh.st {Z W : World} {k b : List Int} (h : Sh Z W k b) (n : Nat) (x y : Int) : Sh Z ((W.setCell ⟨Z.heap.size, n, none⟩ (.int .u8 x)).setCell ⟨Z.heap.size + 1, n, none⟩ (.int .u8 y)) (k.set n x) (b.set n y) := by
  refine ⟨?_, ?_, (h.bl.setCell (p := ⟨Z.heap.size, n, none⟩) (Nat.le_refl _) _).setCell (p := ⟨Z.heap.size + 1, n, none⟩) (by simp) _⟩
  · have := h.b0.set (j := n) (.int .u8 x)
    rw [by_set] at this
    exact bk_far this (by omega) _
  · have := (bk_far h.b1 (by omega) (.int .u8 x) : Bk (Z.heap.size + 1) (W.setCell ⟨Z.heap.size, n, none⟩ (.int .u8 x)) _ _).set (j := n) (.int .u8 y)
    rw [by_set] at this
    exact this
theorem sha_abc_len : (sha [97, 98, 99]).length = 32 := by unfold sha shE; split <;> exact bB_len _ _
theorem row_cell {w : World} {B size n : Nat} {e : TypeId} {v : Value} {xs : List Value} (h : w.ownsRow B e size v (n + 1) xs) : ∃ g cap, v = .slice (some ⟨g, 0, none⟩) (n + 1) cap ∧ g < w.heap.size ∧ ∀ i x, xs[i]? = some x → w.cell? ⟨g, i, none⟩ = some x := by
  rcases h.2 with ⟨_, h0⟩ | ⟨g, cap, cur, h1, h2, h3, h4, h5, h6, h7⟩
  · omega
  · refine ⟨g, cap, h1, ?_, fun i x hx => ?_⟩
    · rcases Nat.lt_or_ge g w.heap.size with q | q
      · exact q
      · rw [Array.getElem?_eq_none q] at h3; cases h3
    · rw [← h7, List.getElem?_take] at hx
      rw [cell_of_row w g i cur e (0, 0) h3]
      split at hx
      · simpa using hx
      · cases hx
theorem shown_aes (u : World) : ∃ C : List Int, C.length = 16 ∧ C.getD 0 0 = 105 ∧ C.getD 15 0 = 90 ∧ ∀ u : World, Calls Tryd.prog 12 #[.agg (by' (kE 16)).toArray, .agg (by' (bE 16)).toArray] u fun e w' => e = .returned (.agg (by' C).toArray) ∧ Below u.heap.size u w' := by
  have h8 : (∀ x ∈ kE 16, U8 x) ∧ ∀ x ∈ bE 16, U8 x := by
    rw [kE_16.1, kE_16.2]
    constructor <;> (intro x hx; simp only [List.mem_cons, List.not_mem_nil, or_false] at hx; unfold U8; omega)
  refine ⟨aes (kE 16) (bE 16), (aes_ok (kE_len 16).1 h8.1 (kE_len 16).2 h8.2).1, ?_, ?_, fun u => aes_any _ _ (kE_len 16).1 h8.1 (kE_len 16).2 h8.2 u⟩
  · rw [kE_16.1, kE_16.2]; exact aes_ex.1
  · rw [kE_16.1, kE_16.2]; exact aes_ex.2
set_option maxRecDepth 20000 in
set_option maxHeartbeats 2000000 in
theorem shown_any (mx : Int) (w : World) (hk : Kt w) (hm : w.cell? ⟨1, 0, none⟩ = some (.int .i64 mx)) : Calls Tryd.prog 8 #[] w fun e w' => e = .returned (.bool true) ∧ Below w.heap.size w w' := by
  have HK : Hid (Kt w ∧ w.cell? ⟨1, 0, none⟩ = some (.int .i64 mx)) := ⟨hk, hm⟩
  clear hk hm
  obtain ⟨D, hD⟩ : ∃ D, D = sha [97, 98, 99] := ⟨_, rfl⟩
  have HD : Hid (D.length = 32 ∧ D.getD 0 0 = 186 ∧ D.getD 1 0 = 120 ∧ D.getD 31 0 = 173 ∧ D = sha [97, 98, 99]) := by
    rw [hD]; exact ⟨sha_abc_len, sha_abc.1, sha_abc.2.1, sha_abc.2.2, rfl⟩
  have HS : Hid (∀ u v, Sv u.heap.size u v [97, 98, 99] → Kt u → Calls Tryd.prog 10 #[v] u fun e w' => e = .returned (.agg (by' D).toArray) ∧ Below u.heap.size u w') := fun u v hv hk => by
    rw [hD]; exact sha_any v [97, 98, 99] u hv (by decide) hk
  clear hD
  obtain ⟨C, hC1, hC2, hC3, hC4⟩ := shown_aes w
  have HC : Hid (C.length = 16 ∧ C.getD 0 0 = 105 ∧ C.getD 15 0 = 90 ∧ ∀ u : World, Calls Tryd.prog 12 #[.agg (by' (kE 16)).toArray, .agg (by' (bE 16)).toArray] u fun e w' => e = .returned (.agg (by' C).toArray) ∧ Below u.heap.size u w') := ⟨hC1, hC2, hC3, hC4⟩
  clear hC1 hC2 hC3 hC4
  obtain ⟨z32, hz32⟩ : ∃ z : Array Value, z = (by' (List.replicate 32 0)).toArray := ⟨_, rfl⟩
  have hal : ∀ u : World, (Instr.alloc 26 true (.tuple #[])).run Tryd.prog u = .ok (.pointer (some ⟨u.heap.size, 0, none⟩)) (u.alloc (.cells z32 26)) := fun u => by rw [hz32]; kernel_rfl
  have hzs : z32.size = 32 := by rw [hz32]; rfl
  clear hz32
  have hsz : (by' D).toArray.size = 32 := by rw [List.size_toArray, by_len]; exact HD.out.1
  have kc : Sem.run Tryd.prog (convert 23 23 (.slice (some ⟨w.heap.size, 0, none⟩) 3 3)) (w.alloc (.cells #[.int .u8 97, .int .u8 98, .int .u8 99] 5)) = .ok (.slice (some ⟨w.heap.size, 0, none⟩) 3 3) (w.alloc (.cells #[.int .u8 97, .int .u8 98, .int .u8 99] 5 (3, 4))) := cv_const w [97, 98, 99] 3 rfl
  have hb1 : Below w.heap.size w (w.alloc (.cells #[.int .u8 97, .int .u8 98, .int .u8 99] 5 (3, 4))) := (Below.refl w.heap.size w).alloc (Nat.le_refl _) _
  have hsv : Sv (w.alloc (.cells #[.int .u8 97, .int .u8 98, .int .u8 99] 5 (3, 4))).heap.size (w.alloc (.cells #[.int .u8 97, .int .u8 98, .int .u8 99] 5 (3, 4))) (.slice (some ⟨w.heap.size, 0, none⟩) 3 3) [97, 98, 99] := Sv.mono (Sv.row w [97, 98, 99] (3, 4) (by intro b hb; simp at hb; omega)) (by simp)
  have HS1 : Hid (Calls Tryd.prog 10 #[.slice (some ⟨w.heap.size, 0, none⟩) 3 3] (w.alloc (.cells #[.int .u8 97, .int .u8 98, .int .u8 99] 5 (3, 4))) fun e w' => e = .returned (.agg (by' D).toArray) ∧ Below (w.alloc (.cells #[.int .u8 97, .int .u8 98, .int .u8 99] 5 (3, 4))).heap.size (w.alloc (.cells #[.int .u8 97, .int .u8 98, .int .u8 99] 5 (3, 4))) w') := HS.out _ _ hsv (HK.out.1.below hb1 HK.out.1.1)
  go_enter Tryd.func8, Tryd.ntmps8
  refine post_hid fun Q hQ => ?_
  go_upto_region 2 with (first
    | (go_at_call 10; refine HS1.out.mono ?_; rintro e W3 ⟨rfl, hb3⟩)
    | (refine step_alL (by rfl) 26 rfl z32 hal ?_; intro W4 g4 H4)
    | (refine step_stL (by rfl) _ _ rfl g4 (by' D).toArray (by rfl) (by rfl) z32 (by rw [hsz]; kernel_rfl) (by rw [hzs, hsz]) (by_one D) H4.out.bk ?_; intro Z H5))
  have H6 : Hid (Below w.heap.size w Z ∧ Bk g4 Z (by' D).toArray 26) := by
    have hb := H5.out.below H4.out.be H4.out.be.size (Nat.le_of_eq H4.out.at'.symm)
    exact ⟨below_thru (below_thru hb1 hb3) hb, H5.out.bk⟩
  clear kc hsv HS1 H4 H5 hb1 hb3 hal hzs hsz HS
  go_upto_region 3 with fail
  refine world_hid fun W0 hW0 => ?_
  have K0 : Hid (Sh Z W0 (kE 0) (bE 0)) := by
    show Sh _ _ _ _
    rw [hW0.out]
    refine ⟨bk_alloc (Bk.new Z _ _) _, ?_, ((Below.refl _ _).alloc (Nat.le_refl _) _).alloc (by simp) _⟩
    have := Bk.new (Z.alloc (.cells (by' (kE 0)).toArray 22)) (by' (bE 0)).toArray 22
    rw [size_alloc1] at this
    exact this
  clear hW0
  go_upto_region 4 with fail
  go_loopw [13] (fun i wr => ∃ (n : Nat) (NI : Int), i = .int .i64 NI ∧ 0 ≤ NI ∧ NI ≤ 16 ∧ Hid (NI = (n : Int) ∧ Sh Z wr (kE n) (bE n))) (fun i _ => (16 - intOf i).toNat)
  case atStart => exact ⟨0, 0, rfl, by omega, by omega, rfl, K0.out⟩
  case round =>
    clear K0
    obtain ⟨n, NI, rfl, n0, n1, hN⟩ := hrel
    by_cases hge : NI < 16
    · have u22 := Tryd.underlying22
      have j0 : ∀ p u, Sem.run Tryd.prog (Instr.indexAt 22 (.pointer (some ⟨p, 0, none⟩)) (.int .i64 NI)) u = .ok (.pointer (some ⟨p, n, none⟩)) u := fun p u => by rw [hN.out.1]; exact aidxB u22 _ n (by have := hN.out.1; omega) u
      have e1 : IntKind.u8.wrap NI = NI := by rw [IntKind.wrap_u8]; omega
      have e2 : IntKind.i64.wrap (NI * 17) = NI * 17 := by rw [IntKind.wrap_i64]; omega
      have e3 : IntKind.u8.wrap (NI * 17) = NI * 17 := by rw [IntKind.wrap_u8]; omega
      have hn16 : n < 16 := by have := hN.out.1; omega
      have e5 : IntKind.i64.wrap (NI + 1) = NI + 1 := by rw [IntKind.wrap_i64]; omega
      have KN : Hid (NI = (n : Int) ∧ Sh Z ((wr.setCell ⟨Z.heap.size, n, none⟩ (.int .u8 NI)).setCell ⟨Z.heap.size + 1, n, none⟩ (.int .u8 (NI * 17))) (kE (n + 1)) (bE (n + 1))) := by
        refine ⟨hN.out.1, ?_⟩
        rw [← (kE_set n hn16).1, ← (kE_set n hn16).2, hN.out.1]
        exact hN.out.2.st n _ _
      have c0 : wr.cell? ⟨Z.heap.size, n, none⟩ = some (.int .u8 ((kE n).getD n 0)) := by rw [hN.out.2.b0.cell]; exact by_get _ _ (by rw [(kE_len n).1]; exact hn16)
      have f0 : wr.frozen? ⟨Z.heap.size, n, none⟩ = false := hN.out.2.b0.frozen n
      have c1 : wr.cell? ⟨Z.heap.size + 1, n, none⟩ = some (.int .u8 ((bE n).getD n 0)) := by rw [hN.out.2.b1.cell]; exact by_get _ _ (by rw [(kE_len n).2]; exact hn16)
      have f1 : wr.frozen? ⟨Z.heap.size + 1, n, none⟩ = false := hN.out.2.b1.frozen n
      clear hN
      go_wp2_with fail
      exact ⟨⟨n + 1, NI + 1, rfl, by omega, by omega, by have := KN.out.1; omega, KN.out.2⟩, by simp [intOf]; omega⟩
    · have KE : Hid (Sh Z wr (kE 16) (bE 16)) := by
        have e : n = 16 := by have := hN.out.1; omega
        have := hN.out.2
        rw [e] at this
        exact this
      clear hN
      have HZ : Hid (Below w.heap.size w wr ∧ Bk g4 wr (by' D).toArray 26 ∧ Kt wr ∧ wr.cell? ⟨1, 0, none⟩ = some (.int .i64 mx)) := by
        have hb := below_thru H6.out.1 KE.out.bl
        have h1 : 1 < w.heap.size := World.block_lt_of_cell? w _ HK.out.2
        exact ⟨hb, H6.out.2.kept (KE.out.bl.block _ H6.out.2.lt), HK.out.1.below hb HK.out.1.1, (hb.cell (p := ⟨1, 0, none⟩) h1).trans HK.out.2⟩
      obtain ⟨kk, hkk⟩ : ∃ l, l = kE 16 := ⟨_, rfl⟩
      obtain ⟨bb, hbb⟩ : ∃ l, l = bE 16 := ⟨_, rfl⟩
      have HC5 : Hid (∀ u : World, Calls Tryd.prog 12 #[.agg (by' kk).toArray, .agg (by' bb).toArray] u fun e w' => e = .returned (.agg (by' C).toArray) ∧ Below u.heap.size u w') := by show ∀ u : World, _; rw [hkk, hbb]; exact HC.out.2.2.2
      have HKB : Hid (Bk Z.heap.size wr (by' kk).toArray 22 ∧ Bk (Z.heap.size + 1) wr (by' bb).toArray 22) := by show _ ∧ _; rw [hkk, hbb]; exact ⟨KE.out.b0, KE.out.b1⟩
      have ik : (Tryd.prog.info? 22).map (·.size) = some (by' kk).toArray.size := by rw [List.size_toArray, by_len, hkk, (kE_len 16).1]; kernel_rfl
      have ib : (Tryd.prog.info? 22).map (·.size) = some (by' bb).toArray.size := by rw [List.size_toArray, by_len, hbb, (kE_len 16).2]; kernel_rfl
      clear hkk hbb KE
      obtain ⟨z16, hz16⟩ : ∃ z : Array Value, z = (by' (List.replicate 16 0)).toArray := ⟨_, rfl⟩
      have hal : ∀ u : World, (Instr.alloc 22 true (.tuple #[])).run Tryd.prog u = .ok (.pointer (some ⟨u.heap.size, 0, none⟩)) (u.alloc (.cells z16 22)) := fun u => by rw [hz16]; kernel_rfl
      have hzs : z16.size = 16 := by rw [hz16]; rfl
      clear hz16
      have hsz : (by' C).toArray.size = 16 := by rw [List.size_toArray, by_len]; exact HC.out.1
      have u22 := Tryd.underlying22
      go_upto_region 9 with (first
        | (refine step_lda (by rfl) _ (by rfl) u22 Z.heap.size (by rfl) (by' kk).toArray HKB.out.1 ik ?_)
        | (refine step_lda (by rfl) _ (by rfl) u22 (Z.heap.size + 1) (by rfl) (by' bb).toArray HKB.out.2 ib ?_)
        | (go_at_call 12; refine (HC5.out wr).mono ?_; rintro e W5 ⟨rfl, hb5⟩)
        | (refine step_alL (by rfl) 22 rfl z16 hal ?_; intro W6 g6 H7)
        | (refine step_stL (by rfl) _ _ rfl g6 (by' C).toArray (by rfl) (by rfl) z16 (by rw [hsz]; kernel_rfl) (by rw [hzs, hsz]) (by_one C) H7.out.bk ?_; intro Y H8))
      have HY : Hid (Below w.heap.size w Y ∧ Bk g4 Y (by' D).toArray 26 ∧ Bk g6 Y (by' C).toArray 22 ∧ Kt Y ∧ Y.cell? ⟨1, 0, none⟩ = some (.int .i64 mx)) := by
        have hb := H8.out.below H7.out.be H7.out.be.size (Nat.le_of_eq H7.out.at'.symm)
        have hb' := below_thru hb5 hb
        have hb'' := below_thru HZ.out.1 hb'
        have h1 : 1 < w.heap.size := World.block_lt_of_cell? w _ HK.out.2
        exact ⟨hb'', HZ.out.2.1.kept (hb'.block _ HZ.out.2.1.lt), H8.out.bk, HK.out.1.below hb'' HK.out.1.1, (hb''.cell (p := ⟨1, 0, none⟩) h1).trans HK.out.2⟩
      clear H7 H8 hb5 hal hzs hsz ik ib HKB HC5
      have HP : Hid (Calls Tryd.prog 22 #[.string ⟨#[55, 32, 83, 72, 65, 50, 53, 54, 32, 48, 48, 102, 102, 32, 35, 32, 120]⟩] Y fun e w' => ∃ v k, e = .returned (.tuple #[v, .int .i64 0]) ∧ Hid (OR w' Y.heap.size 33 3 v [kxL k] ∧ k.id = 7 ∧ k.n = 2 ∧ Own w' Y.heap.size (.slice k.ao k.n k.cap) [0, 255]) ∧ Below Y.heap.size Y w') := parse_ex mx Y HY.out.2.2.2.2
      go_upto_region 10 with (go_at_call 22; refine HP.out.mono ?_; rintro e W9 ⟨v9, k9, rfl, HO, hb9⟩)
      have h9 : Below w.heap.size w W9 := below_thru HY.out.1 hb9
      have HZ9 : Hid (Below w.heap.size w W9 ∧ Bk g4 W9 (by' D).toArray 26 ∧ Bk g6 W9 (by' C).toArray 22 ∧ Kt W9) := ⟨h9, HY.out.2.1.kept (hb9.block _ HY.out.2.1.lt), HY.out.2.2.1.kept (hb9.block _ HY.out.2.2.1.lt), HK.out.1.below h9 HK.out.1.1⟩
      obtain ⟨gk, ck, rfl, hgk, hck⟩ := row_cell (n := 0) (by simpa using HO.out.1.row : W9.ownsRow Y.heap.size 33 3 v9 (0 + 1) (kxL k9))
      obtain ⟨kid, kkd, kao, kn, kcap⟩ := k9
      obtain ⟨hO1, hk7, hk2, hO4⟩ := HO.out
      dsimp only at hk7 hk2 hO4
      subst hk7 hk2
      obtain ⟨ga, ca, hva, hga, hca⟩ := row_cell (n := 1) hO4
      injection hva with hva1 _ hva3
      subst hva1 hva3
      have HCk : Hid (W9.cell? ⟨gk, 0, none⟩ = some (.int .i64 7) ∧ W9.cell? ⟨gk, 2, none⟩ = some (.slice (some ⟨ga, 0, none⟩) 2 kcap) ∧ W9.cell? ⟨ga, 1, none⟩ = some (.int .u8 255) ∧ gk < W9.heap.size ∧ ga < W9.heap.size) := ⟨hck 0 _ rfl, hck 2 _ rfl, hca 1 _ rfl, hgk, hga⟩
      clear hck hca hgk hga hO1 hO4 HO h9 hb9 HP HY
      have kc1 : Sem.run Tryd.prog (convert 23 23 (.slice (some ⟨W9.heap.size, 0, none⟩) 1 1)) (W9.alloc (.cells #[.int .u8 97] 5)) = .ok (.slice (some ⟨W9.heap.size, 0, none⟩) 1 1) (W9.alloc (.cells #[.int .u8 97] 5 (1, 2))) := cv_const W9 [97] 1 rfl
      have kc2 : Sem.run Tryd.prog (convert 23 23 (.slice (some ⟨W9.heap.size + 1, 0, none⟩) 2 2)) ((W9.alloc (.cells #[.int .u8 97] 5 (1, 2))).alloc (.cells #[.int .u8 98, .int .u8 99] 5)) = .ok (.slice (some ⟨W9.heap.size + 1, 0, none⟩) 2 2) ((W9.alloc (.cells #[.int .u8 97] 5 (1, 2))).alloc (.cells #[.int .u8 98, .int .u8 99] 5 (2, 3))) := by
        have := cv_const (W9.alloc (.cells #[.int .u8 97] 5 (1, 2))) [98, 99] 2 rfl
        rw [size_alloc1] at this
        exact this
      have HX : Hid (Below W9.heap.size W9 ((W9.alloc (.cells #[.int .u8 97] 5 (1, 2))).alloc (.cells #[.int .u8 98, .int .u8 99] 5 (2, 3)))) := ((Below.refl _ _).alloc (Nat.le_refl _) _).alloc (by simp) _
      have HDg : Hid (Calls Tryd.prog 17 #[.agg #[.int .i64 5, .int .i64 1, .slice (some ⟨W9.heap.size, 0, none⟩) 1 1], .slice (some ⟨W9.heap.size + 1, 0, none⟩) 2 2] ((W9.alloc (.cells #[.int .u8 97] 5 (1, 2))).alloc (.cells #[.int .u8 98, .int .u8 99] 5 (2, 3))) fun e w' => ∃ v', e = .returned (.tuple #[v', .int .i64 0]) ∧ Hid (Own w' ((W9.alloc (.cells #[.int .u8 97] 5 (1, 2))).alloc (.cells #[.int .u8 98, .int .u8 99] 5 (2, 3))).heap.size v' (D.take 20)) ∧ Hid (Below ((W9.alloc (.cells #[.int .u8 97] 5 (1, 2))).alloc (.cells #[.int .u8 98, .int .u8 99] 5 (2, 3))).heap.size ((W9.alloc (.cells #[.int .u8 97] 5 (1, 2))).alloc (.cells #[.int .u8 98, .int .u8 99] 5 (2, 3))) w')) := by
        show Calls _ _ _ _ _
        have ok1 : okb [97] := by intro b hb; simp at hb; omega
        have ok2 : okb [98, 99] := by intro b hb; simp at hb; omega
        have s1 : Sv (W9.heap.size + 1) (W9.alloc (.cells #[.int .u8 97] 5 (1, 2))) (.slice (some ⟨W9.heap.size, 0, none⟩) 1 1) [97] := Sv.row W9 [97] (1, 2) ok1
        have s2 : Sv (W9.heap.size + 1 + 1) ((W9.alloc (.cells #[.int .u8 97] 5 (1, 2))).alloc (.cells #[.int .u8 98, .int .u8 99] 5 (2, 3))) (.slice (some ⟨W9.heap.size + 1, 0, none⟩) 2 2) [98, 99] := by
          have := Sv.row (W9.alloc (.cells #[.int .u8 97] 5 (1, 2))) [98, 99] (2, 3) ok2
          rw [size_alloc1] at this
          exact this
        have s1' := (s1.below ((Below.refl _ (W9.alloc (.cells #[.int .u8 97] 5 (1, 2)))).alloc (Nat.le_refl _) (.cells #[.int .u8 98, .int .u8 99] 5 (2, 3))) (by simp)).mono (M := ((W9.alloc (.cells #[.int .u8 97] 5 (1, 2))).alloc (.cells #[.int .u8 98, .int .u8 99] 5 (2, 3))).heap.size) (by simp)
        have := digestS_any 5 _ _ [97] [98, 99] _ s1' (s2.mono (by simp)) (by decide) (by decide) (by decide) (HZ9.out.2.2.2.below (HX.out.mono (Nat.le_refl _)) HZ9.out.2.2.2.1)
        rw [show ([97] ++ [98, 99] : List Int) = [97, 98, 99] from rfl, ← HD.out.2.2.2.2] at this
        exact this
      go_upto_region 11 with (go_at_call 17; refine HDg.out.mono ?_; rintro e U ⟨vm, rfl, HM, hbU⟩)
      have hU : Below W9.heap.size W9 U := below_thru HX.out hbU.out
      have hUw := below_thru HZ9.out.1 hU
      have HF : Hid (Below w.heap.size w U) := hUw
      obtain ⟨gm, cm, hvm, hgm, hcm⟩ := row_cell (n := 19) (by have := HM.out; unfold Own at this; rw [show (D.take 20).length = 19 + 1 by rw [List.length_take, HD.out.1]; rfl] at this; exact this)
      subst hvm
      have bD := HZ9.out.2.1.kept (hU.block _ HZ9.out.2.1.lt)
      have bC := HZ9.out.2.2.1.kept (hU.block _ HZ9.out.2.2.1.lt)
      have q0 : U.cell? ⟨g4, 0, none⟩ = some (.int .u8 186) := by rw [bD.cell, by_get _ _ (by rw [HD.out.1]; decide), HD.out.2.1]
      have q1 : U.cell? ⟨g4, 1, none⟩ = some (.int .u8 120) := by rw [bD.cell, by_get _ _ (by rw [HD.out.1]; decide), HD.out.2.2.1]
      have q2 : U.cell? ⟨g4, 31, none⟩ = some (.int .u8 173) := by rw [bD.cell, by_get _ _ (by rw [HD.out.1]; decide), HD.out.2.2.2.1]
      have q3 : U.cell? ⟨g6, 0, none⟩ = some (.int .u8 105) := by rw [bC.cell, by_get _ _ (by rw [HC.out.1]; decide), HC.out.2.1]
      have q4 : U.cell? ⟨g6, 15, none⟩ = some (.int .u8 90) := by rw [bC.cell, by_get _ _ (by rw [HC.out.1]; decide), HC.out.2.2.1]
      have q5 : U.cell? ⟨gk, 0, none⟩ = some (.int .i64 7) := (hU.cell (p := ⟨gk, 0, none⟩) HCk.out.2.2.2.1).trans HCk.out.1
      have q6 : U.cell? ⟨gk, 2, none⟩ = some (.slice (some ⟨ga, 0, none⟩) 2 kcap) := (hU.cell (p := ⟨gk, 2, none⟩) HCk.out.2.2.2.1).trans HCk.out.2.1
      have q7 : U.cell? ⟨ga, 1, none⟩ = some (.int .u8 255) := (hU.cell (p := ⟨ga, 1, none⟩) HCk.out.2.2.2.2).trans HCk.out.2.2.1
      have q8 : U.cell? ⟨gm, 0, none⟩ = some (.int .u8 186) := hcm 0 _ (by
        show ((D.take 20).map (Value.int .u8))[0]? = _
        rw [List.getElem?_map, List.getElem?_take_of_lt (by decide)]
        have h0 : 0 < D.length := by rw [HD.out.1]; decide
        have := HD.out.2.1
        rw [List.getD_eq_getElem?_getD, List.getElem?_eq_getElem h0] at this
        rw [List.getElem?_eq_getElem h0]
        simp only [Option.getD_some] at this
        rw [this]; rfl)
      have u26 := Tryd.underlying26
      have j0 : ∀ u, Sem.run Tryd.prog (Instr.indexAt 26 (.pointer (some ⟨g4, 0, none⟩)) (.int .i64 0)) u = .ok (.pointer (some ⟨g4, 0, none⟩)) u := fun u => aidxB u26 g4 0 (by omega) u
      have j1 : ∀ u, Sem.run Tryd.prog (Instr.indexAt 26 (.pointer (some ⟨g4, 0, none⟩)) (.int .i64 1)) u = .ok (.pointer (some ⟨g4, 1, none⟩)) u := fun u => aidxB u26 g4 1 (by omega) u
      have j2 : ∀ u, Sem.run Tryd.prog (Instr.indexAt 26 (.pointer (some ⟨g4, 0, none⟩)) (.int .i64 31)) u = .ok (.pointer (some ⟨g4, 31, none⟩)) u := fun u => aidxB u26 g4 31 (by omega) u
      have j3 : ∀ u, Sem.run Tryd.prog (Instr.indexAt 22 (.pointer (some ⟨g6, 0, none⟩)) (.int .i64 0)) u = .ok (.pointer (some ⟨g6, 0, none⟩)) u := fun u => aidxB u22 g6 0 (by omega) u
      have j4 : ∀ u, Sem.run Tryd.prog (Instr.indexAt 22 (.pointer (some ⟨g6, 0, none⟩)) (.int .i64 15)) u = .ok (.pointer (some ⟨g6, 15, none⟩)) u := fun u => aidxB u22 g6 15 (by omega) u
      have j5 : ∀ u, Sem.run Tryd.prog (Instr.indexAt 39 (.slice (some ⟨gk, 0, none⟩) 1 ck) (.int .i64 0)) u = .ok (.pointer (some ⟨gk, 0, none⟩)) u := fun u => by
        have := ix_Kx 1 ck 0 (ao := some ⟨gk, 0, none⟩) rfl (by decide) u
        simpa [Addr.add] using this
      have j6 : ∀ u, Sem.run Tryd.prog (Instr.indexAt 23 (.slice (some ⟨ga, 0, none⟩) 2 kcap) (.int .i64 1)) u = .ok (.pointer (some ⟨ga, 1, none⟩)) u := fun u => by
        have := sidxA ⟨ga, 0, none⟩ 2 kcap 1 (by decide) u
        simpa [Addr.add] using this
      have j7 : ∀ u, Sem.run Tryd.prog (Instr.indexAt 23 (.slice (some ⟨gm, 0, none⟩) 20 cm) (.int .i64 0)) u = .ok (.pointer (some ⟨gm, 0, none⟩)) u := fun u => by
        have := sidxA ⟨gm, 0, none⟩ 20 cm 0 (by decide) u
        simpa [Addr.add] using this
      clear hU hUw HM hbU hgm hcm bD bC u26 u22 kc1 kc2 HX HDg
      go_wp2_with fail
      rw [hQ.out]
      go_ret
      exact ⟨rfl, HF.out⟩
end Go.Proofs.YtocimfhagkcnlaaDoor
