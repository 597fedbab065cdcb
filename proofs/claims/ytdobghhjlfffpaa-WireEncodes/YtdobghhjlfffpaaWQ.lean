/- A packet of control comes back; bytes that are one are written just so: in numbers and lists. -/
import Derived.Test.YtdobghhjlfffpaaWE
import Derived.Test.YtdobghhjlfffpaaWNp
namespace Go.Proofs.Ytdobghhjlfffpaa
theorem be_one (n : Int) (h0 : 0 ≤ n) (h1 : n < 256) : be 1 n = [n] := by
  unfold be
  simp [by8]
  omega
theorem be_two (n : Int) : be 2 n = [n / 256 % 256, n % 256] := by
  unfold be
  simp [List.range_succ, by8]
theorem gt_one (a : Int) : gt [a] = a := by show 0 * 256 + a = a; omega
theorem gt_two (a b : Int) : gt [a, b] = a * 256 + b := by show (0 * 256 + a) * 256 + b = _; omega
theorem gt_be2 (n : Int) (h0 : 0 ≤ n) (h1 : n < 65536) : gt (be 2 n) = n := by rw [be_two, gt_two]; omega
theorem be_four (n : Int) : be 4 n = [n / 16777216 % 256, n / 65536 % 256, n / 256 % 256, n % 256] := by
  unfold be
  simp [List.range_succ, by8]
theorem gt_four (a b c d : Int) : gt [a, b, c, d] = ((a * 256 + b) * 256 + c) * 256 + d := by show (((0 * 256 + a) * 256 + b) * 256 + c) * 256 + d = _; omega
theorem gt_be4 (n : Int) (h0 : 0 ≤ n) (h1 : n < 4294967296) : gt (be 4 n) = n := by rw [be_four, gt_four]; omega
theorem list_two {l : List Int} (h : l.length = 2) : ∃ a b, l = [a, b] := by
  match l, h with
  | [a, b], _ => exact ⟨a, b, rfl⟩
theorem list_four {l : List Int} (h : l.length = 4) : ∃ a b c d, l = [a, b, c, d] := by
  match l, h with
  | [a, b, c, d], _ => exact ⟨a, b, c, d, rfl⟩
theorem be_gt2 {l : List Int} (h : okb l) (hl : l.length = 2) : be 2 (gt l) = l := by
  obtain ⟨a, b, rfl⟩ := list_two hl
  have ha := h a (by simp)
  have hb := h b (by simp)
  rw [gt_two, be_two]
  congr 1
  · omega
  · congr 1; omega
theorem be_gt4 {l : List Int} (h : okb l) (hl : l.length = 4) : be 4 (gt l) = l := by
  obtain ⟨a, b, c, d, rfl⟩ := list_four hl
  have ha := h a (by simp)
  have hb := h b (by simp)
  have hc := h c (by simp)
  have hd := h d (by simp)
  rw [gt_four, be_four]
  congr 1
  · omega
  · congr 1
    · omega
    · congr 1
      · omega
      · congr 1; omega
theorem be_zero (k : Nat) : be k 0 = List.replicate k 0 := by
  unfold be
  have : (fun i => by8 0 (k - 1 - i)) = fun _ => (0 : Int) := by funext i; simp [by8]
  rw [this, List.map_const', List.length_range]
theorem cmH_list (ver : Int) (r e m : Bool) (op seq sta ass off dn : Int) (v0 : 1 ≤ ver) (v1 : ver ≤ 4) (o0 : 0 ≤ op) (o1 : op ≤ 31) :
    cmH ver r e m op seq sta ass off dn = [8 * ver + 6, 32 * flg r e m + op, seq / 256 % 256, seq % 256, sta / 256 % 256, sta % 256, ass / 256 % 256, ass % 256, off / 256 % 256, off % 256, dn / 256 % 256, dn % 256] := by
  have hf := flg_bd r e m
  unfold cmH
  rw [be_one _ (by omega) (by omega), be_one _ (by omega) (by omega), be_two, be_two, be_two, be_two, be_two]
  rfl
theorem flg_bits (r e m : Bool) (op : Int) (o0 : 0 ≤ op) (o1 : op ≤ 31) : decide ((32 * flg r e m + op) / 128 % 2 = 1) = r ∧ decide ((32 * flg r e m + op) / 64 % 2 = 1) = e ∧ decide ((32 * flg r e m + op) / 32 % 2 = 1) = m ∧ (32 * flg r e m + op) % 32 = op := by
  have h : ∀ b : Bool, b01 b = 0 ∧ b = false ∨ b01 b = 1 ∧ b = true := by decide
  have hr := h r
  have he := h e
  have hm := h m
  unfold flg
  refine ⟨?_, ?_, ?_, by omega⟩
  · rcases hr with ⟨a, b⟩ | ⟨a, b⟩
    · rw [a, b, decide_eq_false]; omega
    · rw [a, b, decide_eq_true]; omega
  · rcases he with ⟨a, b⟩ | ⟨a, b⟩
    · rw [a, b, decide_eq_false]; omega
    · rw [a, b, decide_eq_true]; omega
  · rcases hm with ⟨a, b⟩ | ⟨a, b⟩
    · rw [a, b, decide_eq_false]; omega
    · rw [a, b, decide_eq_true]; omega
theorem dg_len (key : Int) (mac : List Int) : ((dg key mac).length : Int) = dsz key mac.length := by
  unfold dg dsz
  split
  · rfl
  · rw [List.length_append, be_len]; omega
theorem ecB_len (ver : Int) (r e m : Bool) (op seq sta ass off : Int) (data : List Int) (key : Int) (mac : List Int) : ((ecB ver r e m op seq sta ass off data key mac).length : Int) = 12 + fil data.length + dsz key mac.length := by
  unfold ecB
  rw [List.length_append]
  have h1 := cmB_len ver r e m op seq sta ass off data
  have h2 := dg_len key mac
  omega
/-- what is written is read -/
theorem back_pure {ver : Int} {r e m : Bool} {op seq sta ass off : Int} {data : List Int} {key : Int} {mac : List Int} (h : ccE ver op seq sta ass off key data.length mac.length = 0) :
    (12 ≤ (ecB ver r e m op seq sta ass off data key mac).length ∧ (ecB ver r e m op seq sta ass off data key mac).length ≤ 512) ∧ cG (ecB ver r e m op seq sta ass off data key mac) ∧ tG (rst (ecB ver r e m op seq sta ass off data key mac)) ∧
    (∀ ver' r' e' m' op' seq' sta' ass' off' data' key' mac', DV (ecB ver r e m op seq sta ass off data key mac) ver' r' e' m' op' seq' sta' ass' off' data' key' mac' → ver' = ver ∧ r' = r ∧ e' = e ∧ m' = m ∧ op' = op ∧ seq' = seq ∧ sta' = sta ∧ ass' = ass ∧ off' = off ∧ data' = data ∧ key' = key ∧ mac' = mac) := by
  obtain ⟨⟨sq0, sq1⟩, ⟨st0, st1⟩, ⟨as0, as1⟩, ⟨of0, of1⟩, ⟨v0, v1⟩, ⟨o0, o1⟩, hdf, hsz⟩ := cc_ok h
  obtain ⟨k0, k1, hml, hkm⟩ := df_ok hdf
  have hfl := fil_le data.length
  have hdz := dsz_le key mac.length
  have hlen := ecB_len ver r e m op seq sta ass off data key mac
  have hF := flg_bd r e m
  obtain ⟨R, hR⟩ : ∃ R, R = data ++ be (fil data.length - data.length).toNat 0 ++ dg key mac := ⟨_, rfl⟩
  have hbs : ecB ver r e m op seq sta ass off data key mac = [8 * ver + 6, 32 * flg r e m + op, seq / 256 % 256, seq % 256, sta / 256 % 256, sta % 256, ass / 256 % 256, ass % 256, off / 256 % 256, off % 256, (data.length : Int) / 256 % 256, (data.length : Int) % 256] ++ R := by
    unfold ecB cmB
    rw [cmH_list ver r e m op seq sta ass off _ v0 v1 o0 o1, hR]
    simp only [List.append_assoc]
  obtain ⟨bs, hb⟩ : ∃ bs, bs = ecB ver r e m op seq sta ass off data key mac := ⟨_, rfl⟩
  rw [← hb] at hbs hlen ⊢
  have f0 : fv bs 0 1 = 8 * ver + 6 := by rw [hbs]; exact gt_one _
  have f1 : fv bs 1 1 = 32 * flg r e m + op := by rw [hbs]; exact gt_one _
  have f2 : fv bs 2 2 = seq := by rw [hbs]; refine (gt_two _ _).trans ?_; omega
  have f4 : fv bs 4 2 = sta := by rw [hbs]; refine (gt_two _ _).trans ?_; omega
  have f6 : fv bs 6 2 = ass := by rw [hbs]; refine (gt_two _ _).trans ?_; omega
  have f8 : fv bs 8 2 = off := by rw [hbs]; refine (gt_two _ _).trans ?_; omega
  have f10 : fv bs 10 2 = data.length := by rw [hbs]; refine (gt_two _ _).trans ?_; omega
  have d12 : bs.drop 12 = R := by rw [hbs]; rfl
  have tD : R.take data.length = data := by rw [hR, List.append_assoc, List.take_left']; rfl
  have dD : R.drop data.length = be (fil data.length - data.length).toNat 0 ++ dg key mac := by rw [hR, List.append_assoc, List.drop_left']; rfl
  have hrst : rst bs = dg key mac := by
    unfold rst
    rw [f10, d12, show (fil data.length).toNat = data.length + (fil data.length - data.length).toNat by omega, ← List.drop_drop, dD, List.drop_left' (be_len _ _)]
  have hpad : ((bs.drop 12).drop (fv bs 10 2).toNat).take (fil (fv bs 10 2) - fv bs 10 2).toNat = List.replicate (fil data.length - data.length).toNat 0 := by
    rw [f10, d12, Int.toNat_natCast, dD, List.take_left' (be_len _ _), be_zero]
  have hgz : ∀ n, gt (List.replicate n 0) = 0 := fun n => by
    induction n with
    | zero => rfl
    | succ n ih => rw [List.replicate_succ', gt_snoc, ih]; rfl
  refine ⟨⟨by omega, by omega⟩, ⟨⟨by omega, by omega⟩, by omega, by rw [f10]; omega, by rw [hpad]; exact hgz _⟩, ?_, ?_⟩
  · rw [hrst]
    unfold dg
    split
    · exact .inl rfl
    · rename_i hk
      right
      have hm : mac.length = 16 ∨ mac.length = 20 := by
        unfold dfB at hdf
        split at hdf
        · rename_i hz; exact absurd (hkm.2 hz) hk
        · split at hdf
          · assumption
          · cases hdf
      have e4 : fv (be 4 key ++ mac) 0 4 = key := by
        unfold fv
        rw [List.drop_zero, List.take_left' (be_len _ _)]
        exact gt_be4 key k0 (by omega)
      rw [e4, List.length_append, be_len]
      omega
  · rintro ver' r' e' m' op' seq' sta' ass' off' data' key' mac' ⟨g1, g2, g3, g4, g5, g6, g7, g8, g9, g10, g11, g12⟩
    obtain ⟨q1, q2, q3, q4⟩ := flg_bits r e m op o0 o1
    rw [f1] at g2 g3 g4 g5
    refine ⟨by omega, by rw [g2, q1], by rw [g3, q2], by rw [g4, q3], by rw [g5, q4], by omega, by omega, by omega, by omega, ?_, ?_, ?_⟩
    · rw [g10, f10, d12, Int.toNat_natCast, tD]
    · rw [g11, hrst]
      by_cases hk : key = 0
      · unfold dg
        rw [if_pos hk, hk]
        rfl
      · unfold dg
        rw [if_neg hk]
        unfold tK
        rw [if_neg (by rw [List.length_append, be_len]; omega)]
        unfold fv
        rw [List.drop_zero, List.take_left' (be_len _ _)]
        exact gt_be4 key k0 (by omega)
    · rw [g12, hrst]
      unfold dg
      split
      · rename_i hk
        exact (List.length_eq_zero_iff.1 (hkm.1 hk)).symm
      · rw [List.drop_left' (be_len _ _)]
theorem take_two {bs : List Int} (h : okb bs) (k : Nat) (hk : k + 2 ≤ bs.length) : be 2 (fv bs k 2) = (bs.drop k).take 2 :=
  be_gt2 (okb_take (okb_drop h k) 2) (by rw [List.length_take, List.length_drop]; omega)
theorem take_split (bs : List Int) (k n : Nat) : bs.take (k + n) = bs.take k ++ (bs.drop k).take n := List.take_add
/-- what is read is written -/
theorem fwd_pure {bs : List Int} (hok : okb bs) (h12 : 12 ≤ bs.length) (h512 : bs.length ≤ 512) (hG : cG bs) (hT : tG (rst bs)) {ver : Int} {r e m : Bool} {op seq sta ass off : Int} {data : List Int} {key : Int} {mac : List Int} (h : DV bs ver r e m op seq sta ass off data key mac) :
    ccE ver op seq sta ass off key data.length mac.length = 0 ∧ ecB ver r e m op seq sta ass off data key mac = bs := by
  obtain ⟨g1, g2, g3, g4, g5, g6, g7, g8, g9, g10, g11, g12⟩ := h
  obtain ⟨⟨hv0, hv1⟩, h6, hF, hZ⟩ := hG
  obtain ⟨Y, hY⟩ := Int.eq_ofNat_of_zero_le (fv2_bd hok 10).1
  have hfl := fil_le Y
  rw [hY] at hF hZ g10
  rw [Int.toNat_natCast] at g10 hZ
  have hdl : data.length = Y := by rw [g10, List.length_take, List.length_drop]; omega
  have b2 := fv2_bd hok 2
  have b4 := fv2_bd hok 4
  have b6 := fv2_bd hok 6
  have b8 := fv2_bd hok 8
  have hr : rst bs = (bs.drop 12).drop (fil Y).toNat := by unfold rst; rw [hY]
  have hrl : (rst bs).length = bs.length - 12 - (fil Y).toNat := by rw [hr, List.length_drop, List.length_drop]
  have hrok : okb (rst bs) := by rw [hr]; exact okb_drop (okb_drop hok _) _
  have hml : mac.length = (rst bs).length - 4 := by rw [g12, List.length_drop]
  have x0 := fv1 bs 0 (by omega)
  have x1 := fv1 bs 1 (by omega)
  have x0b := okb_at hok 0
  have x1b := okb_at hok 1
  have hdf : dfB key mac.length = true := by
    unfold dfB
    rcases hT with hT | ⟨hT, hk0, hk1⟩
    · rw [if_pos (by omega), g11]; unfold tK; rw [if_pos hT]; rfl
    · rw [if_neg (by omega), if_pos (by omega), wiB_iff, g11]
      unfold tK
      rw [if_neg (by omega)]
      exact ⟨hk0, hk1⟩
  have hdz : dsz key mac.length = (rst bs).length := by
    unfold dsz
    rcases hT with hT | ⟨hT, hk0, hk1⟩
    · rw [if_pos (by rw [g11]; unfold tK; rw [if_pos hT])]; omega
    · rw [if_neg (by rw [g11]; unfold tK; rw [if_neg (by omega)]; omega)]; omega
  have hcf : cfB ver op seq sta ass off = true := by
    unfold cfB
    rw [wiB_t (by omega), wiB_t (by omega), wiB_t (by omega), wiB_t (by omega), wiB_t (by omega), wiB_t (by omega)]
    rfl
  refine ⟨?_, ?_⟩
  · unfold ccE
    rw [hcf, hdf, if_pos (by decide : (true && true) = true), if_neg]
    rw [hdz, hdl]
    omega
  · have ehead : cmH ver r e m op seq sta ass off Y = bs.take 12 := by
      unfold cmH
      have z1 : be 1 (8 * ver + 6) = (bs.drop 0).take 1 := by
        rw [be_one _ (by omega) (by omega), List.drop_eq_getElem_cons (by omega)]
        show [_] = [_]
        rw [show 8 * ver + 6 = fv bs 0 1 by omega, x0, List.getD_eq_getElem?_getD, List.getElem?_eq_getElem (by omega)]
        rfl
      have z2 : be 1 (32 * flg r e m + op) = (bs.drop 1).take 1 := by
        have hb : ∀ a : Int, (a = 0 ∨ a = 1) → b01 (decide (a = 1)) = a := fun a h => by rcases h with rfl | rfl <;> rfl
        have e1 := hb (fv bs 1 1 / 128 % 2) (by omega)
        have e2 := hb (fv bs 1 1 / 64 % 2) (by omega)
        have e3 := hb (fv bs 1 1 / 32 % 2) (by omega)
        have hv : 32 * flg r e m + op = fv bs 1 1 := by
          unfold flg
          rw [g2, g3, g4, g5, e1, e2, e3]
          omega
        rw [hv, be_one _ (by omega) (by omega), List.drop_eq_getElem_cons (by omega), x1, List.getD_eq_getElem?_getD, List.getElem?_eq_getElem (by omega)]
        rfl
      rw [z1, z2, g6, g7, g8, g9, take_two hok 2 (by omega), take_two hok 4 (by omega), take_two hok 6 (by omega), take_two hok 8 (by omega), ← hY, take_two hok 10 (by omega)]
      rw [show (12 : Nat) = 10 + 2 from rfl, take_split bs 10 2, show (10 : Nat) = 8 + 2 from rfl, take_split bs 8 2, show (8 : Nat) = 6 + 2 from rfl, take_split bs 6 2, show (6 : Nat) = 4 + 2 from rfl, take_split bs 4 2, show (4 : Nat) = 2 + 2 from rfl, take_split bs 2 2, show (2 : Nat) = 1 + 1 from rfl, take_split bs 1 1, show (1 : Nat) = 0 + 1 from rfl, take_split bs 0 1]
      simp
    have hpad : be (fil Y - Y).toNat 0 = ((bs.drop 12).drop Y).take (fil Y - Y).toNat := by
      rw [be_zero]
      symm
      rw [List.eq_replicate_iff]
      refine ⟨by rw [List.length_take, List.length_drop, List.length_drop]; omega, fun b hb => ?_⟩
      have hz := (gt_zero (okb_take (okb_drop (okb_drop hok 12) Y) (fil Y - Y).toNat)).1 hZ
      obtain ⟨k, hk, rfl⟩ := List.mem_iff_getElem.1 hb
      have := hz k hk
      rw [List.getD_eq_getElem?_getD, List.getElem?_eq_getElem hk] at this
      exact this
    have htail : dg key mac = rst bs := by
      unfold dg
      rcases hT with hT | ⟨hT, hk0, hk1⟩
      · rw [if_pos (by rw [g11]; unfold tK; rw [if_pos hT])]
        exact (List.length_eq_zero_iff.1 hT).symm
      · have hk : key = fv (rst bs) 0 4 := by rw [g11]; unfold tK; rw [if_neg (by omega)]
        rw [if_neg (by omega), hk, g12]
        have : be 4 (fv (rst bs) 0 4) = (rst bs).take 4 := by
          have := be_gt4 (okb_take hrok 4) (by rw [List.length_take]; omega)
          exact this
        rw [this, List.take_append_drop]
    unfold ecB cmB
    rw [hdl, ehead, hpad, htail, g10, hr]
    have k1 : (bs.drop 12).take Y ++ ((bs.drop 12).drop Y).take (fil Y - Y).toNat = (bs.drop 12).take (fil Y).toNat := by
      rw [← take_split]
      congr 1
      omega
    rw [List.append_assoc (bs.take 12), k1, List.append_assoc, List.take_append_drop, List.take_append_drop]
end Go.Proofs.Ytdobghhjlfffpaa
