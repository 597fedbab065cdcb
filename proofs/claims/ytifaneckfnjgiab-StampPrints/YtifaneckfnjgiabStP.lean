/- Print of what Parse tells, and Parse of what Print tells. -/
import Derived.Test.YtifaneckfnjgiabStY
import Derived.Test.YtifaneckfnjgiabTxtB
import Derived.WalkKit
import Derived.WalkSpells
import Derived.WalkLawsBesides
import Derived.Handy
import Derived.Below
namespace Go.Proofs.Ytifaneckfnjgiab
open Go.RowKit
/-- what Parse may tell -/
def PaIs (s : ByteArray) (E T c : Int) : Prop := (c = 21 ∧ ¬ OkS s ∧ E = 0 ∧ T = 0) ∨ (c = 20 ∧ OkS s ∧ okD (Tx.nv (Tx.bt s) 26 0) (Tx.nv (Tx.bt s) 26 1) (Tx.nv (Tx.bt s) 26 2) (Tx.nv (Tx.bt s) 26 3) (Tx.nv (Tx.bt s) 26 4) (Tx.nv (Tx.bt s) 26 5) = false ∧ E = 0 ∧ T = 0) ∨ (c = 0 ∧ OkS s ∧ okD (Tx.nv (Tx.bt s) 26 0) (Tx.nv (Tx.bt s) 26 1) (Tx.nv (Tx.bt s) 26 2) (Tx.nv (Tx.bt s) 26 3) (Tx.nv (Tx.bt s) 26 4) (Tx.nv (Tx.bt s) 26 5) = true ∧ E = pE (Tx.bt s) ∧ T = pT (Tx.bt s))
theorem parse_any (s : ByteArray) (w : World) :
    Calls Try.prog 10 #[.string s] w fun e w' => ∃ E T c : Int, e = .returned (.tuple #[.agg #[.int .i64 E, .int .u64 T], .int .i64 c]) ∧ PaIs s E T c ∧ Below w.heap.size w w' := by
  by_cases h : OkS s
  · refine (parse_good s w h).mono ?_
    rintro e w' ⟨rfl, hb⟩
    refine ⟨_, _, _, rfl, ?_, hb⟩
    cases hd : okD (Tx.nv (Tx.bt s) 26 0) (Tx.nv (Tx.bt s) 26 1) (Tx.nv (Tx.bt s) 26 2) (Tx.nv (Tx.bt s) 26 3) (Tx.nv (Tx.bt s) 26 4) (Tx.nv (Tx.bt s) 26 5)
    · refine Or.inr (Or.inl ⟨?_, h, hd, ?_, ?_⟩)
      · unfold pC dC; rw [hd]; rfl
      · unfold pE dE; rw [hd]; rfl
      · unfold pT dT; rw [hd]; rfl
    · refine Or.inr (Or.inr ⟨?_, h, hd, rfl, rfl⟩)
      unfold pC dC; rw [hd]; rfl
  · refine (parse_bad s w h).mono ?_
    rintro e w' ⟨rfl, hb⟩
    exact ⟨0, 0, 21, rfl, Or.inl ⟨rfl, h, rfl, rfl⟩, hb⟩
theorem mill_back (u : Int) : (u * 4294967296 + 999999) / 1000000 * 1000000 / 4294967296 = u := by omega
theorem p_stamp (b : Nat → Int) (u0 : 0 ≤ Tx.nv b 26 6) (u1 : Tx.nv b 26 6 ≤ 999999) (hd : okD (Tx.nv b 26 0) (Tx.nv b 26 1) (Tx.nv b 26 2) (Tx.nv b 26 3) (Tx.nv b 26 4) (Tx.nv b 26 5) = true) :
    0 ≤ pT b ∧ pT b < 18446744073709551616 ∧ ds (pE b) (pT b) = Cal.sec (Tx.nv b 26 0) (Tx.nv b 26 1) (Tx.nv b 26 2) (Tx.nv b 26 3) (Tx.nv b 26 4) (Tx.nv b 26 5) ∧ pT b % 4294967296 = (Tx.nv b 26 6 * 4294967296 + 999999) / 1000000 := by
  obtain ⟨f0, f1⟩ := frac_bd _ u0 u1
  unfold pT pE dT dE
  rw [hd]
  simp only [if_true]
  generalize (Tx.nv b 26 6 * 4294967296 + 999999) / 1000000 = f at *
  generalize Cal.sec (Tx.nv b 26 0) (Tx.nv b 26 1) (Tx.nv b 26 2) (Tx.nv b 26 3) (Tx.nv b 26 4) (Tx.nv b 26 5) = S
  unfold ds
  omega
theorem nums_nv (b : Nat → Int) (j : Nat) (hj : j < 7) : nums (Tx.nv b 26 0) (Tx.nv b 26 1) (Tx.nv b 26 2) (Tx.nv b 26 3) (Tx.nv b 26 4) (Tx.nv b 26 5) (Tx.nv b 26 6) j = Tx.nv b 26 j := by
  rcases j with _ | _ | _ | _ | _ | _ | _ | j
  all_goals first | rfl | omega
theorem print_back (s : ByteArray) (w : World) (h : OkS s) (hd : okD (Tx.nv (Tx.bt s) 26 0) (Tx.nv (Tx.bt s) 26 1) (Tx.nv (Tx.bt s) 26 2) (Tx.nv (Tx.bt s) 26 3) (Tx.nv (Tx.bt s) 26 4) (Tx.nv (Tx.bt s) 26 5) = true) :
    Calls Try.prog 12 #[.agg #[.int .i64 (pE (Tx.bt s)), .int .u64 (pT (Tx.bt s))]] w fun e w' => e = .returned (.tuple #[.string s, .int .i64 0]) ∧ Below w.heap.size w w' := by
  obtain ⟨u0, u1⟩ := Tx.nv_lt h.2 (Nat.le_refl _) 6 (by omega)
  obtain ⟨q0, q1, q2, q3⟩ := p_stamp (Tx.bt s) u0 u1 hd
  obtain ⟨D, T⟩ := okD_of hd
  obtain ⟨b0, b1⟩ := Cal.sec_bd D T
  refine (print_yes _ _ w q0 q1 (by rw [q2]; exact b0) (by rw [q2]; exact b1)).mono ?_
  rintro e w' ⟨y, m, d, h', n, s', rfl, hd', ht', hs', hb⟩
  obtain ⟨rfl, rfl, rfl, rfl, rfl, rfl⟩ := Cal.sec_one hd' ht' D T (hs'.trans q2)
  refine ⟨ret_eq ?_, hb⟩
  unfold yesP
  rw [q3, mill_back, Tx.txt_back s h.1 h.2 _ (nums_nv (Tx.bt s))]
theorem dv_0 (x : Int) (h0 : 0 ≤ x) : (x ≤ 9999 → Tx.dv x 4 = 0) ∧ (x ≤ 99 → Tx.dv x 2 = 0) ∧ (x ≤ 999999 → Tx.dv x 6 = 0) := by
  simp only [Tx.dv]
  omega
theorem nums_0 {y m d h n s u : Int} (hd : Cal.Day y m d) (ht : Cal.Time h n s) (u0 : 0 ≤ u) (u1 : u ≤ 999999) (j : Nat) (hj : j < 7) : Tx.dv (nums y m d h n s u j) (Tx.cn 0 j) = 0 := by
  obtain ⟨k1, k2, k3, k4, k5, k6⟩ := day_bd hd
  obtain ⟨l1, l2, l3, l4, l5, l6⟩ := ht
  have c : Tx.cn 0 0 = 4 ∧ Tx.cn 0 1 = 2 ∧ Tx.cn 0 2 = 2 ∧ Tx.cn 0 3 = 2 ∧ Tx.cn 0 4 = 2 ∧ Tx.cn 0 5 = 2 ∧ Tx.cn 0 6 = 6 := by decide
  obtain ⟨c0, c1, c2, c3, c4, c5, c6⟩ := c
  rcases j with _ | _ | _ | _ | _ | _ | _ | j
  · exact c0 ▸ (dv_0 y (by omega)).1 (by omega)
  · exact c1 ▸ (dv_0 m (by omega)).2.1 (by omega)
  · exact c2 ▸ (dv_0 d (by omega)).2.1 (by omega)
  · exact c3 ▸ (dv_0 h (by omega)).2.1 (by omega)
  · exact c4 ▸ (dv_0 n (by omega)).2.1 (by omega)
  · exact c5 ▸ (dv_0 s (by omega)).2.1 (by omega)
  · exact c6 ▸ (dv_0 u u0).2.2 u1
  · omega
/-- what Parse tells of what Print tells -/
def tb (t : Int) : Int := t / 4294967296 * 4294967296 + (t % 4294967296 * 1000000 / 4294967296 * 4294967296 + 999999) / 1000000
theorem tb_bd (t : Int) (t0 : 0 ≤ t) : 0 ≤ tb t ∧ tb t ≤ t ∧ t - tb t ≤ 4295 := by unfold tb; omega
theorem parse_back (era t y m d h n s : Int) (w : World) (t0 : 0 ≤ t) (t1 : t < 18446744073709551616) (hd : Cal.Day y m d) (ht : Cal.Time h n s) (hs : Cal.sec y m d h n s = ds era t) :
    Calls Try.prog 10 #[.string ⟨(Tx.txt (nums y m d h n s (t % 4294967296 * 1000000 / 4294967296))).toArray⟩] w fun e w' => e = .returned (.tuple #[.agg #[.int .i64 era, .int .u64 (tb t)], .int .i64 0]) ∧ Below w.heap.size w w' := by
  obtain ⟨f0, f1⟩ := mill (t % 4294967296) (by omega) (by omega)
  have tb' : Hid (tb t = t / 4294967296 * 4294967296 + (t % 4294967296 * 1000000 / 4294967296 * 4294967296 + 999999) / 1000000) := rfl
  generalize t % 4294967296 * 1000000 / 4294967296 = u at *
  have hb : ∀ p, p < 26 → Tx.bt ⟨(Tx.txt (nums y m d h n s u)).toArray⟩ p = Tx.fin (nums y m d h n s u) p := fun p hp => Tx.bt_txt _ p hp
  have hn : ∀ j, j < 7 → Tx.nv (Tx.bt ⟨(Tx.txt (nums y m d h n s u)).toArray⟩) 26 j = nums y m d h n s u j := fun j hj => by
    rw [Tx.nv_congr 26 hb, Tx.nv_txt _ (nums_0 hd ht f0 f1) j hj]
  have ok : OkS ⟨(Tx.txt (nums y m d h n s u)).toArray⟩ := ⟨by show (Tx.txt _).toArray.size = 26; simp [Tx.txt_len], Tx.ok_congr hb (Tx.fin_ok _ 26)⟩
  refine (parse_good _ w ok).mono ?_
  rintro e w' ⟨rfl, hb'⟩
  refine ⟨ret_eq ?_, hb'⟩
  unfold pE pT pC dE dT dC
  rw [hn 0 (by omega), hn 1 (by omega), hn 2 (by omega), hn 3 (by omega), hn 4 (by omega), hn 5 (by omega), hn 6 (by omega)]
  show Value.tuple #[.agg #[.int .i64 (if okD y m d h n s then _ else _), .int .u64 (if okD y m d h n s then _ else _)], .int .i64 (if okD y m d h n s then _ else _)] = _
  rw [okD_t hd ht, if_pos rfl, if_pos rfl, if_pos rfl, tb'.out]
  have e1 : (Cal.sec y m d h n s - 59926608000) / 4294967296 = era := by rw [hs]; unfold ds; omega
  have e2 : (Cal.sec y m d h n s - 59926608000) % 4294967296 = t / 4294967296 := by rw [hs]; unfold ds; omega
  have e3 : nums y m d h n s u 6 = u := rfl
  show Value.tuple #[.agg #[.int .i64 ((Cal.sec y m d h n s - 59926608000) / 4294967296), .int .u64 ((Cal.sec y m d h n s - 59926608000) % 4294967296 * 4294967296 + _)], .int .i64 0] = _
  rw [e1, e2, e3]
end Go.Proofs.Ytifaneckfnjgiab
