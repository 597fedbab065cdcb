/- What Write of package nmea returns. -/
import Derived.Test.YthoilihokbakoaaDoorQD
import Derived.Test.YthoilihokbakoaaDoorStC
namespace Go.Proofs.YthoilihokbakoaaDoor
open Go Go.RowKit
/-- the sentence without its sum -/
def bodyL (y m d h n s f : Int) : List UInt8 := [71, 80, 90, 68, 65, 44] ++ dg 6 (h * 10000 + n * 100 + s) ++ [46] ++ dg 6 (f * 1000000 / 4294967296) ++ [44] ++ dg 2 d ++ [44] ++ dg 2 m ++ [44] ++ dg 4 y ++ [44, 48, 48, 44, 48, 48]
theorem bodyL_len (y m d h n s f : Int) : (bodyL y m d h n s f).length = 36 := by unfold bodyL; simp [dg_len]
theorem ret_w {a b : ByteArray} (h : a = b) : Ending.returned (.tuple #[.string a, .int .i64 0]) = .returned (.tuple #[.string b, .int .i64 0]) := by rw [h]
set_option maxHeartbeats 1000000 in
theorem write_no (era t : Int) (w : World) (t0 : 0 ≤ t) (t1 : t < 18446744073709551616) (h : ds era t < 0 ∨ 66269577600 ≤ ds era t) :
    Calls Tryd.prog 12 #[.agg #[.int .i64 era, .int .u64 t]] w fun e w' => e = .returned (.tuple #[.string ⟨#[]⟩, .int .i64 20]) ∧ Below w.heap.size w w' := by
  have HN : Hid (∀ u, Calls Tryd.prog 24 #[.agg #[.int .i64 era, .int .u64 t]] u fun e w' => e = .returned noC ∧ Below u.heap.size u w') := fun u => ofDate_no era t u t0 t1 h
  clear h
  unfold noC at HN
  go_enter Tryd.func12, Tryd.ntmps12
  go_wp2_with (go_at_call 24; refine (HN.out _).mono ?_; rintro e w1 ⟨rfl, hb1⟩)
  go_ret2
  refine ⟨rfl, ?_⟩
  have hb2 := hb1.size
  simp at hb2
  exact (by repeat' (first | with_reducible exact Below.refl _ _ | with_reducible exact (((Below.refl _ _).alloc (Nat.le_refl _) _).trans (hb1.mono (by simp))) | with_reducible refine Below.setCell ?_ (by first | (simp; done) | (simp; omega) | omega) _ | with_reducible refine below_drewN ?_ _ | with_reducible refine Below.drew ?_ | with_reducible refine Below.alloc ?_ (by first | (simp; done) | (simp; omega) | omega) _))
set_option maxHeartbeats 2000000 in
theorem write_yes (era t : Int) (w : World) (t0 : 0 ≤ t) (t1 : t < 18446744073709551616) (h0 : 0 ≤ ds era t) (h1 : ds era t < 66269577600) :
    Calls Tryd.prog 12 #[.agg #[.int .i64 era, .int .u64 t]] w fun e w' => ∃ y m d h n s : Int, Hid (Cal.Day y m d ∧ Cal.Time h n s ∧ Cal.sec y m d h n s = ds era t) ∧ e = .returned (.tuple #[.string (tx (sealed (bodyL y m d h n s (t % 4294967296)))), .int .i64 0]) ∧ Below w.heap.size w w' := by
  have HY : Hid (∀ u, Calls Tryd.prog 24 #[.agg #[.int .i64 era, .int .u64 t]] u fun e w' => ∃ y m d h n s : Int, e = .returned (yesC y m d h n s (t % 4294967296)) ∧ Cal.Day y m d ∧ Cal.Time h n s ∧ Cal.sec y m d h n s = ds era t ∧ Below u.heap.size u w') := fun u => ofDate_yes era t u t0 t1 h0 h1
  clear h0 h1
  go_enter Tryd.func12, Tryd.ntmps12
  go_wp2_with fail
  refine (HY.out _).mono ?_
  rintro e w1 ⟨y, m, d, h, n, s, rfl, hD, hT, hS, hb1⟩
  have kc : Sem.run Tryd.prog (convert 62 62 (.slice (some ⟨w1.heap.size + 1, 0, none⟩) 6 6)) ((w1.alloc (.cells #[.int .i64 y, .int .i64 m, .int .i64 d, .int .i64 h, .int .i64 n, .int .i64 s, .int .u32 (t % 4294967296)] 52)).alloc (.cells #[.int .u8 71, .int .u8 80, .int .u8 90, .int .u8 68, .int .u8 65, .int .u8 44] 5)) = .ok (.slice (some ⟨w1.heap.size + 1, 0, none⟩) 6 6) ((w1.alloc (.cells #[.int .i64 y, .int .i64 m, .int .i64 d, .int .i64 h, .int .i64 n, .int .i64 s, .int .u32 (t % 4294967296)] 52)).alloc (.cells #[.int .u8 71, .int .u8 80, .int .u8 90, .int .u8 68, .int .u8 65, .int .u8 44] 5 (6, 7))) := by
    have := Lib.run_convert_bytes_const (P := Tryd.prog) (w1.alloc (.cells #[.int .i64 y, .int .i64 m, .int .i64 d, .int .i64 h, .int .i64 n, .int .i64 s, .int .u32 (t % 4294967296)] 52)) 62 5 #[.int .u8 71, .int .u8 80, .int .u8 90, .int .u8 68, .int .u8 65, .int .u8 44] 6 6 Tryd.underlying62 Tryd.underlying5
    simpa using this
  have HC : Hid (∀ u, Below (w1.heap.size + 1) (w1.alloc (.cells #[.int .i64 y, .int .i64 m, .int .i64 d, .int .i64 h, .int .i64 n, .int .i64 s, .int .u32 (t % 4294967296)] 52)) u → ∀ j, j < 7 → u.cell? ⟨w1.heap.size, j, none⟩ = (#[.int .i64 y, .int .i64 m, .int .i64 d, .int .i64 h, .int .i64 n, .int .i64 s, .int .u32 (t % 4294967296)] : Array Value)[j]?) := fun u hu j _ => by
    rw [hu.cell (p := ⟨w1.heap.size, j, none⟩) (by show w1.heap.size < w1.heap.size + 1; omega)]
    exact World.cell?_alloc_new w1 _ _ j
  obtain ⟨y0, y1, m0, m1, d0, d1⟩ := hD
  have d2 : d ≤ 31 := by have := (Cal.dim_bd y m).2; omega
  obtain ⟨h0, h1, n0, n1, s0, s1⟩ := hT
  have HD : Hid (Cal.Day y m d ∧ Cal.Time h n s ∧ Cal.sec y m d h n s = ds era t) := ⟨⟨y0, y1, m0, m1, d0, d1⟩, ⟨h0, h1, n0, n1, s0, s1⟩, hS⟩
  obtain ⟨F, hF⟩ : ∃ F, F = t % 4294967296 := ⟨_, rfl⟩
  have F0 : 0 ≤ F := by omega
  have F1 : F < 4294967296 := by omega
  rw [← hF] at kc HC ⊢
  have HFt : Hid (F = t % 4294967296) := hF
  clear hF hS d1
  obtain ⟨M, hM⟩ : ∃ M, M = F * 1000000 / 4294967296 := ⟨_, rfl⟩
  have M0 : 0 ≤ M := by omega
  have M1 : M ≤ 1000000 := by omega
  have HM : Hid (M = F * 1000000 / 4294967296) := hM
  have hM2 : F * 1000000 / 4294967296 = M := hM.symm
  clear hM
  have HB0 : Hid (Below w.heap.size w w1) := ((Below.refl _ _).alloc (Nat.le_refl _) _).trans (hb1.mono (by simp))
  clear hb1
  have K0 : Hid (Below (w1.heap.size + 1) (w1.alloc (.cells #[.int .i64 y, .int .i64 m, .int .i64 d, .int .i64 h, .int .i64 n, .int .i64 s, .int .u32 F] 52)) ((w1.alloc (.cells #[.int .i64 y, .int .i64 m, .int .i64 d, .int .i64 h, .int .i64 n, .int .i64 s, .int .u32 F] 52)).alloc (.cells #[.int .u8 71, .int .u8 80, .int .u8 90, .int .u8 68, .int .u8 65, .int .u8 44] 5 (6, 7))) ∧ OwM ((w1.alloc (.cells #[.int .i64 y, .int .i64 m, .int .i64 d, .int .i64 h, .int .i64 n, .int .i64 s, .int .u32 F] 52)).alloc (.cells #[.int .u8 71, .int .u8 80, .int .u8 90, .int .u8 68, .int .u8 65, .int .u8 44] 5 (6, 7))) (w1.heap.size + 1) (.slice (some ⟨w1.heap.size + 1, 0, none⟩) 6 6) (ib [71, 80, 90, 68, 65, 44])) := by
    refine ⟨(Below.refl _ _).alloc (by simp) _, .inr ⟨by decide, w1.heap.size + 1, rfl, Nat.le_refl _, by simp, fun k hk => ?_⟩⟩
    have hc := World.cell?_alloc_mark (w1.alloc (.cells #[.int .i64 y, .int .i64 m, .int .i64 d, .int .i64 h, .int .i64 n, .int .i64 s, .int .u32 F] 52)) #[.int .u8 71, .int .u8 80, .int .u8 90, .int .u8 68, .int .u8 65, .int .u8 44] 5 (6, 7) k
    simp only [World.size_alloc] at hc
    rw [hc]
    have hk6 : k = 0 ∨ k = 1 ∨ k = 2 ∨ k = 3 ∨ k = 4 ∨ k = 5 := by simp [ib] at hk; omega
    rcases hk6 with rfl | rfl | rfl | rfl | rfl | rfl <;> rfl
  have c3 := HC.out _ K0.out.1 3 (by omega)
  have c4 := HC.out _ K0.out.1 4 (by omega)
  have c5 := HC.out _ K0.out.1 5 (by omega)
  unfold yesC
  go_wp2_with fail
  clear kc c3 c4 c5 hM2
  have HA1 : Hid (Calls Tryd.prog 25 #[(.slice (some ⟨w1.heap.size + 1, 0, none⟩) 6 6), .int .i64 (h * 10000 + n * 100 + s), .int .i64 6] ((w1.alloc (.cells #[.int .i64 y, .int .i64 m, .int .i64 d, .int .i64 h, .int .i64 n, .int .i64 s, .int .u32 F] 52)).alloc (.cells #[.int .u8 71, .int .u8 80, .int .u8 90, .int .u8 68, .int .u8 65, .int .u8 44] 5 (6, 7))) fun e w' => ∃ v', e = .returned v' ∧ Hid (OwM w' (w1.heap.size + 1) v' (ib [71, 80, 90, 68, 65, 44] ++ ib (dg 6 (h * 10000 + n * 100 + s))) ∧ Below (w1.heap.size + 1) ((w1.alloc (.cells #[.int .i64 y, .int .i64 m, .int .i64 d, .int .i64 h, .int .i64 n, .int .i64 s, .int .u32 F] 52)).alloc (.cells #[.int .u8 71, .int .u8 80, .int .u8 90, .int .u8 68, .int .u8 65, .int .u8 44] 5 (6, 7))) w' ∧ (0 < 6 → Own w' (w1.heap.size + 1) v' (ib [71, 80, 90, 68, 65, 44] ++ ib (dg 6 (h * 10000 + n * 100 + s)))))) := appD_any 6 (h * 10000 + n * 100 + s) (w1.heap.size + 1) (.slice (some ⟨w1.heap.size + 1, 0, none⟩) 6 6) (ib [71, 80, 90, 68, 65, 44]) ((w1.alloc (.cells #[.int .i64 y, .int .i64 m, .int .i64 d, .int .i64 h, .int .i64 n, .int .i64 s, .int .u32 F] 52)).alloc (.cells #[.int .u8 71, .int .u8 80, .int .u8 90, .int .u8 68, .int .u8 65, .int .u8 44] 5 (6, 7))) (by omega) (by omega) K0.out.2 (by have := K0.out.1.size; simp at this ⊢ <;> omega) (by rw [ib_len]; simp) (by omega)
  refine HA1.out.mono ?_
  rintro e x1 ⟨v1, rfl, H1⟩
  obtain ⟨L1, hL1⟩ : ∃ L, L = [71, 80, 90, 68, 65, 44] ++ dg 6 (h * 10000 + n * 100 + s) := ⟨_, rfl⟩
  have HL1 : Hid (L1 = [71, 80, 90, 68, 65, 44] ++ dg 6 (h * 10000 + n * 100 + s) ∧ L1.length = 12) := ⟨hL1, by rw [hL1, List.length_append, dg_len]; rfl⟩
  have K1 : Hid (Below (w1.heap.size + 1) (w1.alloc (.cells #[.int .i64 y, .int .i64 m, .int .i64 d, .int .i64 h, .int .i64 n, .int .i64 s, .int .u32 F] 52)) x1 ∧ OwM x1 (w1.heap.size + 1) v1 (ib L1) ∧ Own x1 (w1.heap.size + 1) v1 (ib L1)) := by
    have h1 := H1.out
    rw [← ib_app, ← hL1] at h1
    exact ⟨K0.out.1.trans h1.2.1, h1.1, h1.2.2 (by omega)⟩
  clear hL1 HA1 H1
  go_wp2_with (at_builtin; refine wpList_appM (by rfl) _ _ 62 (by rfl) Tryd.underlying62 (w1.heap.size + 1) (x1.heap.size + 1) v1 _ (ib L1) [46] (by rfl) (by rfl) (K1.out.2.1.alloc _) (Sv.one x1 46 (by decide) (by decide)) (by simp) (by rw [ib_len, HL1.out.2]; simp) (by have := K1.out.1.size; simp at this ⊢ <;> omega) ?_; intro v2 x2 ho hg; obtain ⟨L2, hL2⟩ : ∃ L, L = L1 ++ [46] := ⟨_, rfl⟩; have HL2 : Hid (L2 = L1 ++ [46] ∧ L2.length = 13) := ⟨hL2, (by rw [hL2, List.length_append, HL1.out.2]; rfl)⟩; have K2 : Hid (Below (w1.heap.size + 1) (w1.alloc (.cells #[.int .i64 y, .int .i64 m, .int .i64 d, .int .i64 h, .int .i64 n, .int .i64 s, .int .u32 F] 52)) x2 ∧ OwM x2 (w1.heap.size + 1) v2 (ib L2) ∧ Own x2 (w1.heap.size + 1) v2 (ib L2)) := (by have h1 : Own x2 (w1.heap.size + 1) v2 (ib L2) := (by rw [hL2, ib_app]; exact ho); exact ⟨(K1.out.1.alloc (by have := K1.out.1.size; simp at this ⊢ <;> omega) _).grown hg (by have := K1.out.1.size; simp at this ⊢ <;> omega) K1.out.2.1.lt, .inl h1, h1⟩); clear hL2 ho hg K1)
  have HA3 : Hid (Calls Tryd.prog 25 #[v2, .int .i64 M, .int .i64 6] x2 fun e w' => ∃ v', e = .returned v' ∧ Hid (OwM w' (w1.heap.size + 1) v' (ib L2 ++ ib (dg 6 M)) ∧ Below (w1.heap.size + 1) x2 w' ∧ (0 < 6 → Own w' (w1.heap.size + 1) v' (ib L2 ++ ib (dg 6 M))))) := appD_any 6 M (w1.heap.size + 1) v2 (ib L2) x2 (by omega) (by omega) K2.out.2.1 (by have := K2.out.1.size; simp at this ⊢ <;> omega) (by rw [ib_len, HL2.out.2]; simp) (by omega)
  refine HA3.out.mono ?_
  rintro e x3 ⟨v3, rfl, H3⟩
  obtain ⟨L3, hL3⟩ : ∃ L, L = L2 ++ dg 6 M := ⟨_, rfl⟩
  have HL3 : Hid (L3 = L2 ++ dg 6 M ∧ L3.length = 19) := ⟨hL3, by rw [hL3, List.length_append, dg_len, HL2.out.2]⟩
  have K3 : Hid (Below (w1.heap.size + 1) (w1.alloc (.cells #[.int .i64 y, .int .i64 m, .int .i64 d, .int .i64 h, .int .i64 n, .int .i64 s, .int .u32 F] 52)) x3 ∧ OwM x3 (w1.heap.size + 1) v3 (ib L3) ∧ Own x3 (w1.heap.size + 1) v3 (ib L3)) := by
    have h1 := H3.out
    rw [← ib_app, ← hL3] at h1
    exact ⟨K2.out.1.trans h1.2.1, h1.1, h1.2.2 (by omega)⟩
  clear hL3 HA3 H3 K2
  go_wp2_with (at_builtin; refine wpList_appM (by rfl) _ _ 62 (by rfl) Tryd.underlying62 (w1.heap.size + 1) (x3.heap.size + 1) v3 _ (ib L3) [44] (by rfl) (by rfl) (K3.out.2.1.alloc _) (Sv.one x3 44 (by decide) (by decide)) (by simp) (by rw [ib_len, HL3.out.2]; simp) (by have := K3.out.1.size; simp at this ⊢ <;> omega) ?_; intro v4 x4 ho hg; obtain ⟨L4, hL4⟩ : ∃ L, L = L3 ++ [44] := ⟨_, rfl⟩; have HL4 : Hid (L4 = L3 ++ [44] ∧ L4.length = 20) := ⟨hL4, (by rw [hL4, List.length_append, HL3.out.2]; rfl)⟩; have K4 : Hid (Below (w1.heap.size + 1) (w1.alloc (.cells #[.int .i64 y, .int .i64 m, .int .i64 d, .int .i64 h, .int .i64 n, .int .i64 s, .int .u32 F] 52)) x4 ∧ OwM x4 (w1.heap.size + 1) v4 (ib L4) ∧ Own x4 (w1.heap.size + 1) v4 (ib L4)) := (by have h1 : Own x4 (w1.heap.size + 1) v4 (ib L4) := (by rw [hL4, ib_app]; exact ho); exact ⟨(K3.out.1.alloc (by have := K3.out.1.size; simp at this ⊢ <;> omega) _).grown hg (by have := K3.out.1.size; simp at this ⊢ <;> omega) K3.out.2.1.lt, .inl h1, h1⟩); clear hL4 ho hg K3; have c2 := HC.out x4 K4.out.1 2 (by omega))
  have HA5 : Hid (Calls Tryd.prog 25 #[v4, .int .i64 d, .int .i64 2] x4 fun e w' => ∃ v', e = .returned v' ∧ Hid (OwM w' (w1.heap.size + 1) v' (ib L4 ++ ib (dg 2 d)) ∧ Below (w1.heap.size + 1) x4 w' ∧ (0 < 2 → Own w' (w1.heap.size + 1) v' (ib L4 ++ ib (dg 2 d))))) := appD_any 2 d (w1.heap.size + 1) v4 (ib L4) x4 (by omega) (by omega) K4.out.2.1 (by have := K4.out.1.size; simp at this ⊢ <;> omega) (by rw [ib_len, HL4.out.2]; simp) (by omega)
  refine HA5.out.mono ?_
  rintro e x5 ⟨v5, rfl, H5⟩
  obtain ⟨L5, hL5⟩ : ∃ L, L = L4 ++ dg 2 d := ⟨_, rfl⟩
  have HL5 : Hid (L5 = L4 ++ dg 2 d ∧ L5.length = 22) := ⟨hL5, by rw [hL5, List.length_append, dg_len, HL4.out.2]⟩
  have K5 : Hid (Below (w1.heap.size + 1) (w1.alloc (.cells #[.int .i64 y, .int .i64 m, .int .i64 d, .int .i64 h, .int .i64 n, .int .i64 s, .int .u32 F] 52)) x5 ∧ OwM x5 (w1.heap.size + 1) v5 (ib L5) ∧ Own x5 (w1.heap.size + 1) v5 (ib L5)) := by
    have h1 := H5.out
    rw [← ib_app, ← hL5] at h1
    exact ⟨K4.out.1.trans h1.2.1, h1.1, h1.2.2 (by omega)⟩
  clear hL5 HA5 H5 K4
  go_wp2_with (at_builtin; refine wpList_appM (by rfl) _ _ 62 (by rfl) Tryd.underlying62 (w1.heap.size + 1) (x5.heap.size + 1) v5 _ (ib L5) [44] (by rfl) (by rfl) (K5.out.2.1.alloc _) (Sv.one x5 44 (by decide) (by decide)) (by simp) (by rw [ib_len, HL5.out.2]; simp) (by have := K5.out.1.size; simp at this ⊢ <;> omega) ?_; intro v6 x6 ho hg; obtain ⟨L6, hL6⟩ : ∃ L, L = L5 ++ [44] := ⟨_, rfl⟩; have HL6 : Hid (L6 = L5 ++ [44] ∧ L6.length = 23) := ⟨hL6, (by rw [hL6, List.length_append, HL5.out.2]; rfl)⟩; have K6 : Hid (Below (w1.heap.size + 1) (w1.alloc (.cells #[.int .i64 y, .int .i64 m, .int .i64 d, .int .i64 h, .int .i64 n, .int .i64 s, .int .u32 F] 52)) x6 ∧ OwM x6 (w1.heap.size + 1) v6 (ib L6) ∧ Own x6 (w1.heap.size + 1) v6 (ib L6)) := (by have h1 : Own x6 (w1.heap.size + 1) v6 (ib L6) := (by rw [hL6, ib_app]; exact ho); exact ⟨(K5.out.1.alloc (by have := K5.out.1.size; simp at this ⊢ <;> omega) _).grown hg (by have := K5.out.1.size; simp at this ⊢ <;> omega) K5.out.2.1.lt, .inl h1, h1⟩); clear hL6 ho hg K5; have c1 := HC.out x6 K6.out.1 1 (by omega))
  have HA7 : Hid (Calls Tryd.prog 25 #[v6, .int .i64 m, .int .i64 2] x6 fun e w' => ∃ v', e = .returned v' ∧ Hid (OwM w' (w1.heap.size + 1) v' (ib L6 ++ ib (dg 2 m)) ∧ Below (w1.heap.size + 1) x6 w' ∧ (0 < 2 → Own w' (w1.heap.size + 1) v' (ib L6 ++ ib (dg 2 m))))) := appD_any 2 m (w1.heap.size + 1) v6 (ib L6) x6 (by omega) (by omega) K6.out.2.1 (by have := K6.out.1.size; simp at this ⊢ <;> omega) (by rw [ib_len, HL6.out.2]; simp) (by omega)
  refine HA7.out.mono ?_
  rintro e x7 ⟨v7, rfl, H7⟩
  obtain ⟨L7, hL7⟩ : ∃ L, L = L6 ++ dg 2 m := ⟨_, rfl⟩
  have HL7 : Hid (L7 = L6 ++ dg 2 m ∧ L7.length = 25) := ⟨hL7, by rw [hL7, List.length_append, dg_len, HL6.out.2]⟩
  have K7 : Hid (Below (w1.heap.size + 1) (w1.alloc (.cells #[.int .i64 y, .int .i64 m, .int .i64 d, .int .i64 h, .int .i64 n, .int .i64 s, .int .u32 F] 52)) x7 ∧ OwM x7 (w1.heap.size + 1) v7 (ib L7) ∧ Own x7 (w1.heap.size + 1) v7 (ib L7)) := by
    have h1 := H7.out
    rw [← ib_app, ← hL7] at h1
    exact ⟨K6.out.1.trans h1.2.1, h1.1, h1.2.2 (by omega)⟩
  clear hL7 HA7 H7 K6
  go_wp2_with (at_builtin; refine wpList_appM (by rfl) _ _ 62 (by rfl) Tryd.underlying62 (w1.heap.size + 1) (x7.heap.size + 1) v7 _ (ib L7) [44] (by rfl) (by rfl) (K7.out.2.1.alloc _) (Sv.one x7 44 (by decide) (by decide)) (by simp) (by rw [ib_len, HL7.out.2]; simp) (by have := K7.out.1.size; simp at this ⊢ <;> omega) ?_; intro v8 x8 ho hg; obtain ⟨L8, hL8⟩ : ∃ L, L = L7 ++ [44] := ⟨_, rfl⟩; have HL8 : Hid (L8 = L7 ++ [44] ∧ L8.length = 26) := ⟨hL8, (by rw [hL8, List.length_append, HL7.out.2]; rfl)⟩; have K8 : Hid (Below (w1.heap.size + 1) (w1.alloc (.cells #[.int .i64 y, .int .i64 m, .int .i64 d, .int .i64 h, .int .i64 n, .int .i64 s, .int .u32 F] 52)) x8 ∧ OwM x8 (w1.heap.size + 1) v8 (ib L8) ∧ Own x8 (w1.heap.size + 1) v8 (ib L8)) := (by have h1 : Own x8 (w1.heap.size + 1) v8 (ib L8) := (by rw [hL8, ib_app]; exact ho); exact ⟨(K7.out.1.alloc (by have := K7.out.1.size; simp at this ⊢ <;> omega) _).grown hg (by have := K7.out.1.size; simp at this ⊢ <;> omega) K7.out.2.1.lt, .inl h1, h1⟩); clear hL8 ho hg K7; have c0 := HC.out x8 K8.out.1 0 (by omega))
  have HA9 : Hid (Calls Tryd.prog 25 #[v8, .int .i64 y, .int .i64 4] x8 fun e w' => ∃ v', e = .returned v' ∧ Hid (OwM w' (w1.heap.size + 1) v' (ib L8 ++ ib (dg 4 y)) ∧ Below (w1.heap.size + 1) x8 w' ∧ (0 < 4 → Own w' (w1.heap.size + 1) v' (ib L8 ++ ib (dg 4 y))))) := appD_any 4 y (w1.heap.size + 1) v8 (ib L8) x8 (by omega) (by omega) K8.out.2.1 (by have := K8.out.1.size; simp at this ⊢ <;> omega) (by rw [ib_len, HL8.out.2]; simp) (by omega)
  refine HA9.out.mono ?_
  rintro e x9 ⟨v9, rfl, H9⟩
  obtain ⟨L9, hL9⟩ : ∃ L, L = L8 ++ dg 4 y := ⟨_, rfl⟩
  have HL9 : Hid (L9 = L8 ++ dg 4 y ∧ L9.length = 30) := ⟨hL9, by rw [hL9, List.length_append, dg_len, HL8.out.2]⟩
  have K9 : Hid (Below (w1.heap.size + 1) (w1.alloc (.cells #[.int .i64 y, .int .i64 m, .int .i64 d, .int .i64 h, .int .i64 n, .int .i64 s, .int .u32 F] 52)) x9 ∧ OwM x9 (w1.heap.size + 1) v9 (ib L9) ∧ Own x9 (w1.heap.size + 1) v9 (ib L9)) := by
    have h1 := H9.out
    rw [← ib_app, ← hL9] at h1
    exact ⟨K8.out.1.trans h1.2.1, h1.1, h1.2.2 (by omega)⟩
  clear hL9 HA9 H9 K8
  have HZ : Hid (∀ u (v : Value), Own u (w1.heap.size + 1) v (ib (L9 ++ [44, 48, 48, 44, 48, 48])) → (convert 62 9 v).run Tryd.prog u = .ok (.string (tx (L9 ++ [44, 48, 48, 44, 48, 48]))) u) := fun u v h => by
    obtain ⟨ao, cap, rfl, -, h3, h4, -⟩ := h.rs
    rw [ib_len]
    have hne : 0 < (L9 ++ [44, 48, 48, 44, 48, 48]).length := by simp
    obtain ⟨ad, rfl, -⟩ := h3 0 (by rw [ib_len]; exact hne)
    refine conv_q u ad cap _ (fun k hk => ?_)
    obtain ⟨ad', e1, _, e3⟩ := h3 k (by rw [ib_len]; exact hk)
    injection e1 with e1
    subst e1
    rw [e3, ib_at _ k hk]
  obtain ⟨X, hX⟩ : ∃ X, X = tx (L9 ++ [44, 48, 48, 44, 48, 48]) := ⟨_, rfl⟩
  have HX : Hid (X = tx (L9 ++ [44, 48, 48, 44, 48, 48])) := hX
  rw [← hX] at HZ
  have HWS : Hid (∀ u, Calls Tryd.prog 26 #[.string X] u fun e w' => e = .returned (.string (tx (sealed X.data.toList))) ∧ Below u.heap.size u w') := fun u => withSum_any X u (by rw [hX]; show (L9 ++ [44, 48, 48, 44, 48, 48]).length ≤ 1000; rw [List.length_append, HL9.out.2]; simp)
  clear hX
  go_wp2_with (at_builtin; refine wpList_appsq (by rfl) _ _ 62 (by rfl) Tryd.underlying62 (w1.heap.size + 1) v9 (ib L9) ⟨#[44, 48, 48, 44, 48, 48]⟩ (by rfl) (by rfl) K9.out.2.2 (by rw [ib_len, HL9.out.2]; decide) (by have := K9.out.1.size; simp at this ⊢ <;> omega) ?_; intro v10 x10 ho hg; have K10 : Hid (Below (w1.heap.size + 1) (w1.alloc (.cells #[.int .i64 y, .int .i64 m, .int .i64 d, .int .i64 h, .int .i64 n, .int .i64 s, .int .u32 F] 52)) x10) := (K9.out.1.grown hg (by have := K9.out.1.size; simp at this ⊢ <;> omega) K9.out.2.1.lt); have hcv := HZ.out x10 v10 (by rw [ib_app]; exact ho); clear ho hg)
  refine (HWS.out _).mono ?_
  rintro e x11 ⟨rfl, hbz⟩
  have hB : Below w.heap.size w x11 := by
    have h1 := HB0.out.size
    have h2 := K10.out.size
    simp at h2
    exact ((HB0.out.alloc HB0.out.size _).trans (K10.out.mono (by omega))).trans (hbz.mono (by omega))
  have HE : Hid (X.data.toList = bodyL y m d h n s F) := by
    show _ = _
    rw [HX.out, tx_data, HL9.out.1, HL8.out.1, HL7.out.1, HL6.out.1, HL5.out.1, HL4.out.1, HL3.out.1, HL2.out.1, HL1.out.1, HM.out]
    unfold bodyL
    simp only [List.append_assoc]
  clear hbz hcv
  go_wp2_with fail
  go_ret2
  exact ⟨y, m, d, h, n, s, HD, ret_w (by rw [HE.out, HFt.out]), hB⟩
end Go.Proofs.YthoilihokbakoaaDoor
