/- Packets of time, written and read: in numbers and lists. -/
import Derived.Test.YtdobghhjlfffpaaYD
import Derived.Test.YtdobghhjlfffpaaWQ
import Derived.Test.YtdobghhjlfffpaaXO
namespace Go.Proofs.Ytdobghhjlfffpaa
open Go.RowKit
theorem by8_succ (x : Int) (j : Nat) : by8 x (j + 1) = by8 (x / 256) j := by
  unfold by8
  rw [Int.pow_succ, Int.mul_comm, Int.ediv_ediv_of_nonneg (by decide : (0 : Int) ≤ 256)]
theorem be_succ (n : Nat) (x : Int) : be (n + 1) x = be n (x / 256) ++ [x % 256] := by
  unfold be
  rw [List.range_succ, List.map_append]
  congr 1
  · apply List.map_congr_left
    intro i hi
    rw [List.mem_range] at hi
    rw [show n + 1 - 1 - i = (n - 1 - i) + 1 by omega, by8_succ]
  · simp [by8]
theorem be_gt (n : Nat) : ∀ l : List Int, okb l → l.length = n → be n (gt l) = l := by
  induction n with
  | zero => intro l _ hl; rw [List.length_eq_zero_iff.1 hl]; rfl
  | succ n ih =>
    intro l ho hl
    have hne : l ≠ [] := fun e => by rw [e] at hl; simp at hl
    obtain ⟨r, a, rfl⟩ : ∃ r a, l = r ++ [a] := ⟨_, _, (List.dropLast_concat_getLast hne).symm⟩
    have ha := ho a (by simp)
    have hr : okb r := fun b hb => ho b (by simp [hb])
    rw [List.length_append, List.length_singleton] at hl
    rw [be_succ, gt_snoc, show (gt r * 256 + a) / 256 = gt r by omega, show (gt r * 256 + a) % 256 = a by omega, ih r hr (by omega)]
theorem gt_be (n : Nat) : ∀ x : Int, 0 ≤ x → x < (256 : Int) ^ n → gt (be n x) = x := by
  induction n with
  | zero => intro x h0 h1; have h1' : x < 1 := h1; show (0 : Int) = x; omega
  | succ n ih =>
    intro x h0 h1
    rw [be_succ, gt_snoc, ih (x / 256) (by omega) (by rw [Int.pow_succ] at h1; exact Int.ediv_lt_of_lt_mul (by decide) h1)]
    omega
/-- a piece of bytes -/
theorem be_fv {bs : List Int} (ho : okb bs) (k n : Nat) (h : k + n ≤ bs.length) : be n (fv bs k n) = (bs.drop k).take n :=
  be_gt n _ (okb_take (okb_drop ho k) n) (by rw [List.length_take, List.length_drop]; omega)
theorem fv_bd {bs : List Int} (ho : okb bs) (k n : Nat) : 0 ≤ fv bs k n ∧ fv bs k n < (256 : Int) ^ n :=
  gtw_bd (okb_take (okb_drop ho k) n) n (by rw [List.length_take]; omega)
theorem sh_back (y : Int) (h0 : 0 ≤ y) (h1 : y < 4294967296) : sh (y * 65536) = y := by unfold sh; split <;> omega
theorem be1_mod (x : Int) : be 1 (x % 18446744073709551616) = be 1 x := by
  have h : ∀ y : Int, be 1 y = [y % 256] := fun y => by rw [show (1 : Nat) = 0 + 1 from rfl, be_succ]; rfl
  rw [h, h]
  congr 1
  omega
theorem be1_sg (x : Int) : be 1 (sg x) = be 1 x := by
  have h : ∀ y : Int, be 1 y = [y % 256] := fun y => by rw [show (1 : Nat) = 0 + 1 from rfl, be_succ]; rfl
  rw [h, h]
  congr 1
  unfold sg
  split <;> omega
theorem hdB_list (h : Hd) : hdB h = be 1 (64 * h.leap + 8 * h.ver + h.mode) ++ be 1 h.str ++ be 1 h.poll ++ be 1 h.prec ++ be 4 (sh h.del) ++ be 4 (sh h.dis) ++ be 4 h.rid ++ be 8 h.t0 ++ be 8 h.t1 ++ be 8 h.t2 ++ be 8 h.t3 := by
  unfold hdB cat
  simp [be1_mod]
/-- the header that is read is written as it was -/
theorem hd_fwd {bs : List Int} (ho : okb bs) (hl : 48 ≤ bs.length) : hdB (hdD bs) = bs.take 48 := by
  have b4 := fv_bd ho 4 4
  have b8 := fv_bd ho 8 4
  have x0 := fv_bd ho 0 1
  have e1 : 64 * (fv bs 0 1 / 64) + 8 * (fv bs 0 1 / 8 % 8) + fv bs 0 1 % 8 = fv bs 0 1 := by have : fv bs 0 1 < 256 := x0.2; omega
  rw [hdB_list]
  unfold hdD
  simp only
  rw [e1, be1_sg, be1_sg, sh_back _ b4.1 b4.2, sh_back _ b8.1 b8.2, be_fv ho 0 1 (by omega), be_fv ho 1 1 (by omega), be_fv ho 2 1 (by omega), be_fv ho 3 1 (by omega), be_fv ho 4 4 (by omega), be_fv ho 8 4 (by omega), be_fv ho 12 4 (by omega), be_fv ho 16 8 (by omega), be_fv ho 24 8 (by omega), be_fv ho 32 8 (by omega), be_fv ho 40 8 (by omega)]
  rw [show (48 : Nat) = 40 + 8 from rfl, take_split bs 40 8, show (40 : Nat) = 32 + 8 from rfl, take_split bs 32 8, show (32 : Nat) = 24 + 8 from rfl, take_split bs 24 8, show (24 : Nat) = 16 + 8 from rfl, take_split bs 16 8, show (16 : Nat) = 12 + 4 from rfl, take_split bs 12 4, show (12 : Nat) = 8 + 4 from rfl, take_split bs 8 4, show (8 : Nat) = 4 + 4 from rfl, take_split bs 4 4, show (4 : Nat) = 3 + 1 from rfl, take_split bs 3 1, show (3 : Nat) = 2 + 1 from rfl, take_split bs 2 1, show (2 : Nat) = 1 + 1 from rfl, take_split bs 1 1]
  simp
theorem hd_ok {bs : List Int} (ho : okb bs) (hv : wiB (fv bs 0 1 / 8 % 8) 1 4 = true) (hm : wiB (fv bs 0 1 % 8) 1 5 = true) : hfB (hdD bs) = true ∧ 0 ≤ (hdD bs).rid ∧ (hdD bs).rid < 4294967296 := by
  have b4 := fv_bd ho 4 4
  have b8 := fv_bd ho 8 4
  have b12 := fv_bd ho 12 4
  have x0 := fv_bd ho 0 1
  have x1 := fv_bd ho 1 1
  have x2 := fv_bd ho 2 1
  have x3 := fv_bd ho 3 1
  have c4 : fv bs 4 4 < 4294967296 := b4.2
  have c8 : fv bs 8 4 < 4294967296 := b8.2
  have d0 : fv bs 0 1 < 256 := x0.2
  have d1 : fv bs 1 1 < 256 := x1.2
  have d2 : fv bs 2 1 < 256 := x2.2
  have d3 : fv bs 3 1 < 256 := x3.2
  refine ⟨?_, b12.1, b12.2⟩
  unfold hfB hdD
  simp only
  rw [hv, hm, wiB_t (by unfold sg; split <;> omega), wiB_t (by unfold sg; split <;> omega), wiB_t (by omega), wiB_t (by omega), wiB_t (by omega), wiB_t (by omega)]
  rfl
/-- fields as bytes, of what is read -/
def pxL (ps : List (Int × List Int)) : List Int := (ps.map (fun p => be 2 p.1 ++ be 2 (4 + p.2.length) ++ p.2)).flatten
theorem pxL_prs (xs : List Xt) : pxL (prs xs) = xsL xs := by
  unfold pxL prs xsL xtL
  rw [List.map_map]
  rfl
theorem dL_fwd (k : Nat) : ∀ bs : List Int, okb bs → (dL k bs).1 = 0 → bs = pxL (dL k bs).2.1 ++ (dL k bs).2.2 ∧ (dL k bs).2.1.length ≤ k ∧ (dL k bs).2.2.length ≤ 24 ∧ ∀ p ∈ (dL k bs).2.1, (0 ≤ p.1 ∧ p.1 ≤ 65535) ∧ 24 ≤ (p.2.length : Int) ∧ (p.2.length : Int) % 4 = 0 := by
  induction k with
  | zero =>
    intro bs ho h
    by_cases hs : bs.length ≤ 24
    · rw [dL_short 0 hs]
      exact ⟨by simp [pxL], by simp, hs, fun p hp => by cases hp⟩
    · rw [dL_many (by omega)] at h
      have h' : (54 : Int) = 0 := h
      exact absurd h' (by decide)
  | succ k ih =>
    intro bs ho h
    by_cases hs : bs.length ≤ 24
    · rw [dL_short _ hs]
      exact ⟨by simp [pxL], by simp, hs, fun p hp => by cases hp⟩
    · by_cases hx : xG bs
      · rw [dL_next k (by omega) hx] at h ⊢
        obtain ⟨g1, g2, g3⟩ := hx
        obtain ⟨n, hn⟩ := Int.eq_ofNat_of_zero_le (show 0 ≤ fv bs 2 2 by omega)
        rw [hn, Int.toNat_natCast] at h ⊢
        rw [hn] at g1 g2 g3
        obtain ⟨i1, i2, i3, i4⟩ := ih (bs.drop n) (okb_drop ho n) h
        have hfd : fd bs = (fv bs 0 2, (bs.drop 4).take (n - 4)) := by unfold fd; rw [hn, Int.toNat_natCast]
        have hdl : ((bs.drop 4).take (n - 4)).length = n - 4 := by rw [List.length_take, List.length_drop]; omega
        have b0 := fv_bd ho 0 2
        have b0' : fv bs 0 2 < 65536 := b0.2
        refine ⟨?_, by simp only [List.length_cons]; omega, i3, ?_⟩
        · have e : pxL (fd bs :: (dL k (bs.drop n)).2.1) = bs.take n ++ pxL (dL k (bs.drop n)).2.1 := by
            unfold pxL
            rw [List.map_cons, List.flatten_cons, hfd]
            congr 1
            simp only
            rw [hdl, show (4 + ((n - 4 : Nat) : Int)) = fv bs 2 2 by rw [hn]; omega, be_fv ho 0 2 (by omega), be_fv ho 2 2 (by omega)]
            rw [show n = 4 + (n - 4) by omega, take_split bs 4 (n - 4), show (4 : Nat) = 2 + 2 from rfl, take_split bs 2 2]
            simp
          rw [e, List.append_assoc, ← i1, List.take_append_drop]
        · intro p hp
          rcases List.mem_cons.1 hp with rfl | hp
          · rw [hfd]
            simp only
            rw [hdl]
            exact ⟨⟨b0.1, by omega⟩, by omega, by omega⟩
          · exact i4 p hp
      · rw [dL_form k (by omega) hx] at h
        have h' : (32 : Int) = 0 := h
        exact absurd h' (by decide)
/-- what ends a packet -/
theorem en_fwd {b : List Int} (ho : okb b) (h : enE b 0 = 0) : b = dg (enK b 0) (enM b 0) ++ nkL (decide (b.length = 4)) ∧ kdB (enK b 0) (decide (b.length = 4)) (enM b 0).length = true ∧ dsz (enK b 0) (enM b 0).length + (if decide (b.length = 4) = true then 4 else 0) = b.length ∧ (b.length = 0 ∨ b.length = 4 ∨ b.length = 20 ∨ b.length = 24) := by
  by_cases l0 : b.length = 0
  · have hb : b = [] := List.length_eq_zero_iff.1 l0
    subst hb
    exact ⟨rfl, rfl, rfl, .inl rfl⟩
  by_cases l4 : b.length = 4
  · have eK : enK b 0 = 0 := by unfold enK; rw [if_neg (by omega)]
    have eM : enM b 0 = [] := by unfold enM; rw [if_neg (by omega)]
    obtain ⟨t1, t2, t3⟩ := tk_0 4 b (by omega)
    have t1' : tkE 4 b 0 = 0 := t1
    have t2' : tkT 4 b 0 = b.take 4 := t2
    unfold enE at h
    rw [if_neg l0, if_pos l4, t1', t2', rk_0] at h
    have hg : gt b = 0 := by
      by_cases hg : (gt (b.take 4) == 0) = true
      · rw [beq_iff_eq, List.take_of_length_le (by omega)] at hg; exact hg
      · rw [if_neg hg] at h; exact absurd h (by decide)
    have hb : b = be 4 0 := by rw [← hg]; exact (be_gt 4 b ho l4).symm
    rw [eK, eM, decide_eq_true l4]
    refine ⟨?_, rfl, by rw [l4]; rfl, .inr (.inl l4)⟩
    unfold dg nkL
    simpa using hb
  by_cases l20 : b.length = 20 ∨ b.length = 24
  · obtain ⟨t1, t2, t3⟩ := tk_0 4 b (by omega)
    have t1' : tkE 4 b 0 = 0 := t1
    have t2' : tkT 4 b 0 = b.take 4 := t2
    have t3' : tkR 4 b 0 = b.drop 4 := t3
    obtain ⟨u1, u2, u3⟩ := tk_0 (b.drop 4).length (b.drop 4) (Nat.le_refl _)
    have eM : enM b 0 = b.drop 4 := by unfold enM; rw [if_pos l20, t3', t1', u2, List.take_length]
    have eK : enK b 0 = fv b 0 4 := by unfold enK; rw [if_pos l20, t2']; rfl
    have eE : enE b 0 = rk (dfB (fv b 0 4) (b.drop 4).length) 0 32 := by
      unfold enE
      rw [if_neg l0, if_neg l4, if_pos l20, t3', t1', u1, eM, t2']; rfl
    rw [eE, rk_0] at h
    have hd : dfB (fv b 0 4) (b.drop 4).length = true := by
      by_cases hd : dfB (fv b 0 4) (b.drop 4).length = true
      · exact hd
      · rw [if_neg hd] at h; exact absurd h (by decide)
    have hdl : (b.drop 4).length = b.length - 4 := by rw [List.length_drop]
    have hkn : fv b 0 4 ≠ 0 := fun e => by have := (df_ok hd).2.2.2.1 e; omega
    rw [eK, eM, decide_eq_false l4]
    refine ⟨?_, ?_, ?_, by omega⟩
    · unfold dg nkL
      rw [if_neg hkn, be_fv ho 0 4 (by omega)]
      simp
    · unfold kdB; rw [hd]; simp
    · unfold dsz; rw [if_neg hkn, hdl]; simp; omega
  · exfalso
    have eE : enE b 0 = 32 := by unfold enE; rw [if_neg l0, if_neg l4, if_neg l20]; rfl
    rw [eE] at h
    exact absurd h (by decide)
theorem sumP (xs : List Xt) (h : ∀ p ∈ prs xs, (0 ≤ p.1 ∧ p.1 ≤ 65535) ∧ 24 ≤ (p.2.length : Int) ∧ (p.2.length : Int) % 4 = 0) : xsB xs = true := by
  unfold xsB
  rw [List.all_eq_true]
  intro x hx
  have := h (x.ty, x.dat) (List.mem_map.2 ⟨x, hx, rfl⟩)
  unfold xtB dtB
  rw [wiB_t this.1, decide_eq_true this.2]
  rfl
/-- fields that are written are read -/
theorem dL_back (T : List Int) (hT : T.length ≤ 24) : ∀ (xs : List Xt) (k : Nat), xs.length ≤ k → xsB xs = true → (∀ x ∈ xs, (x.dat.length : Int) ≤ 60000) → dL k (xsL xs ++ T) = (0, prs xs, T) := by
  intro xs
  induction xs with
  | nil => intro k _ _ _; rw [show xsL [] ++ T = T by simp [xsL], dL_short k hT]; rfl
  | cons x r ih =>
    intro k hk hx hd
    obtain ⟨k, rfl⟩ : ∃ m, k = m + 1 := ⟨k - 1, by simp at hk; omega⟩
    obtain ⟨⟨y0, y1⟩, y2, y3⟩ := xs_ok hx 0 (by simp)
    simp only [List.getElem_cons_zero] at y0 y1 y2 y3
    have hdx := hd x (by simp)
    obtain ⟨n, hn⟩ : ∃ n, n = x.dat.length := ⟨_, rfl⟩
    obtain ⟨bs, hbs⟩ : ∃ bs, bs = xsL (x :: r) ++ T := ⟨_, rfl⟩
    have hb : bs = be 2 x.ty ++ (be 2 (4 + x.dat.length) ++ (x.dat ++ (xsL r ++ T))) := by
      rw [hbs]; unfold xsL xtL; simp
    have f0 : fv bs 0 2 = x.ty := by unfold fv; rw [hb, List.drop_zero, List.take_left' (be_len _ _)]; exact gt_be2 _ y0 (by omega)
    have f2 : fv bs 2 2 = 4 + x.dat.length := by unfold fv; rw [hb, List.drop_left' (be_len _ _), List.take_left' (be_len _ _)]; exact gt_be2 _ (by omega) (by omega)
    have d4 : bs.drop 4 = x.dat ++ (xsL r ++ T) := by rw [hb, show (4 : Nat) = 2 + 2 from rfl, ← List.drop_drop, List.drop_left' (be_len _ _), List.drop_left' (be_len _ _)]
    have hlen : bs.length = 4 + x.dat.length + (xsL r ++ T).length := by rw [hb]; simp only [List.length_append, be_len]; omega
    have hg : xG bs := ⟨by rw [f2]; omega, by rw [f2]; omega, by rw [f2]; omega⟩
    have hN : (fv bs 2 2).toNat = 4 + x.dat.length := by rw [f2]; omega
    rw [← hbs, dL_next k (by omega) hg, hN]
    have dN : bs.drop (4 + x.dat.length) = xsL r ++ T := by rw [← List.drop_drop, d4, List.drop_left' rfl]
    have hfd : fd bs = (x.ty, x.dat) := by
      unfold fd
      rw [f0, hN, d4, show 4 + x.dat.length - 4 = x.dat.length by omega, List.take_left' rfl]
    have hx' : xsB r = true := by unfold xsB at hx ⊢; simp only [List.all_cons, Bool.and_eq_true] at hx; exact hx.2
    rw [dN, ih k (by simp at hk; omega) hx' (fun y hy => hd y (by simp [hy])), hfd]
    rfl
/-- what ends a packet is read as it was written -/
theorem en_back {key : Int} {nak : Bool} {mac : List Int} (hk : kdB key nak mac.length = true) : (dg key mac ++ nkL nak).length ≤ 24 ∧ enE (dg key mac ++ nkL nak) 0 = 0 ∧ enK (dg key mac ++ nkL nak) 0 = key := by
  obtain ⟨hd, hkn⟩ := kd_ok hk
  obtain ⟨k0, k1, m1, k2⟩ := df_ok hd
  by_cases hz : key = 0
  · have hm : mac = [] := List.length_eq_zero_iff.1 (k2.1 hz)
    subst hz; subst hm
    cases nak
    · exact ⟨by decide, rfl, rfl⟩
    · have e : dg 0 [] ++ nkL true = [0, 0, 0, 0] := by unfold dg nkL; simp [be_zero, List.replicate]
      rw [e]
      exact ⟨by decide, by decide, by decide⟩
  · have hnf : nak = false := by
      cases nak with
      | false => rfl
      | true => exact absurd (hkn rfl) hz
    subst hnf
    have hm : mac.length = 16 ∨ mac.length = 20 := by
      unfold dfB at hd
      split at hd
      · rename_i hz'; exact absurd (k2.2 hz') hz
      · split at hd
        · assumption
        · cases hd
    obtain ⟨b, hb⟩ : ∃ b, b = dg key mac ++ nkL false := ⟨_, rfl⟩
    have hb' : b = be 4 key ++ mac := by rw [hb]; unfold dg nkL; rw [if_neg hz]; simp
    have hl : b.length = 4 + mac.length := by rw [hb', List.length_append, be_len]
    have f0 : fv b 0 4 = key := by unfold fv; rw [hb', List.drop_zero, List.take_left' (be_len _ _)]; exact gt_be4 key k0 (by omega)
    have d4 : b.drop 4 = mac := by rw [hb', List.drop_left' (be_len _ _)]
    obtain ⟨t1, t2, t3⟩ := tk_0 4 b (by omega)
    have t1' : tkE 4 b 0 = 0 := t1
    have t2' : tkT 4 b 0 = b.take 4 := t2
    have t3' : tkR 4 b 0 = b.drop 4 := t3
    obtain ⟨u1, u2, u3⟩ := tk_0 (b.drop 4).length (b.drop 4) (Nat.le_refl _)
    have l20 : b.length = 20 ∨ b.length = 24 := by omega
    have eM : enM b 0 = b.drop 4 := by unfold enM; rw [if_pos l20, t3', t1', u2, List.take_length]
    have eK : enK b 0 = fv b 0 4 := by unfold enK; rw [if_pos l20, t2']; rfl
    have eE : enE b 0 = rk (dfB (fv b 0 4) (b.drop 4).length) 0 32 := by
      unfold enE
      rw [if_neg (by omega), if_neg (by omega), if_pos l20, t3', t1', u1, eM, t2']; rfl
    rw [← hb]
    refine ⟨by omega, ?_, by rw [eK, f0]⟩
    rw [eE, f0, d4, hd]
    rfl
end Go.Proofs.Ytdobghhjlfffpaa
