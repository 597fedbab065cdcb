/- Addresses printed and read back, in lists of bytes. -/
import Derived.Test.YtchhcipoicpglaaDoorDAp
namespace Go.Proofs.YtchhcipoicpglaaDoor
/-- a number's digits -/
def dd (n : Int) : List UInt8 := Lib.decDigits n.toNat
def dgt (k : Nat) : UInt8 := UInt8.ofNat (48 + k)
theorem dgt_nat {k : Nat} (h : k < 10) : (dgt k).toNat = 48 + k := by unfold dgt; rw [UInt8.toNat_ofNat']; exact Nat.mod_eq_of_lt (by omega)
theorem dgt_of {c : UInt8} (h : dgB c = true) (k : Nat) (hk : (k : Int) = (c.toNat : Int) - 48) : dgt k = c := by
  have := dgB_t h
  apply UInt8.toNat_inj.1
  rw [dgt_nat (by omega)]
  omega
theorem dd_1 {k : Nat} (h : k < 10) : Lib.decDigits k = [dgt k] := by rw [Lib.decDigits, dif_pos h]; rfl
theorem dd_s {k : Nat} (h : ¬ k < 10) : Lib.decDigits k = Lib.decDigits (k / 10) ++ [dgt (k % 10)] := by rw [Lib.decDigits, dif_neg h]; rfl
theorem dd_2 {k : Nat} (h : ¬ k < 10) (h2 : k < 100) : Lib.decDigits k = [dgt (k / 10), dgt (k % 10)] := by rw [dd_s h, dd_1 (by omega)]; rfl
theorem dd_3 {k : Nat} (h : ¬ k < 100) (h2 : k < 1000) : Lib.decDigits k = [dgt (k / 100), dgt (k / 10 % 10), dgt (k % 10)] := by
  rw [dd_s (by omega), dd_2 (by omega) (by omega), show k / 10 / 10 = k / 100 by omega]; rfl
theorem dgt_dg {k : Nat} (h : k < 10) : dgB (dgt k) = true := by unfold dgB; rw [decide_eq_true_eq, dgt_nat h]; omega
theorem vl1 (c : UInt8) : vl [c] = (c.toNat : Int) - 48 := by rw [← List.nil_append [c], vl_snoc, vl_nil]; omega
theorem vl2 (c d : UInt8) : vl [c, d] = ((c.toNat : Int) - 48) * 10 + ((d.toNat : Int) - 48) := by rw [show [c, d] = [c] ++ [d] from rfl, vl_snoc, vl1]
theorem vl3 (c d e : UInt8) : vl [c, d, e] = (((c.toNat : Int) - 48) * 10 + ((d.toNat : Int) - 48)) * 10 + ((e.toNat : Int) - 48) := by rw [show [c, d, e] = [c, d] ++ [e] from rfl, vl_snoc, vl2]
theorem dd_forms (k : Nat) (h : k < 256) : (k < 10 ∧ Lib.decDigits k = [dgt k]) ∨ (10 ≤ k ∧ k < 100 ∧ Lib.decDigits k = [dgt (k / 10), dgt (k % 10)]) ∨ (100 ≤ k ∧ Lib.decDigits k = [dgt (k / 100), dgt (k / 10 % 10), dgt (k % 10)]) := by
  by_cases h1 : k < 10
  · exact .inl ⟨h1, dd_1 h1⟩
  · by_cases h2 : k < 100
    · exact .inr (.inl ⟨by omega, h2, dd_2 h1 h2⟩)
    · exact .inr (.inr ⟨by omega, dd_3 h2 (by omega)⟩)
theorem okP_mk {p : List UInt8} (h1 : 1 ≤ p.length) (h2 : p.length ≤ 10) (h3 : p.length = 1 ∨ (p.getD 0 0).toNat ≠ 48) (h4 : p.all dgB = true) (h5 : vl p ≤ 255) : okP p = true := by
  unfold okP nmB nfB
  rw [decide_eq_true ⟨h1, h2, h3⟩, h4, decide_eq_true h5]; rfl
theorem dd_ok (n : Int) (h0 : 0 ≤ n) (h1 : n ≤ 255) : okP (dd n) = true ∧ vl (dd n) = n ∧ (dd n).length ≤ 3 := by
  obtain ⟨k, rfl⟩ := Int.eq_ofNat_of_zero_le h0
  unfold dd
  rw [Int.toNat_natCast]
  rcases dd_forms k (by omega) with ⟨a, e⟩ | ⟨a, b, e⟩ | ⟨a, e⟩
  · rw [e]
    have hv : vl [dgt k] = k := by rw [vl1, dgt_nat a]; omega
    exact ⟨okP_mk (by simp) (by simp) (.inl rfl) (by simp [dgt_dg a]) (by rw [hv]; omega), hv, by simp⟩
  · rw [e]
    have hv : vl [dgt (k / 10), dgt (k % 10)] = k := by rw [vl2, dgt_nat (by omega), dgt_nat (by omega)]; omega
    refine ⟨okP_mk (by simp) (by simp) (.inr ?_) (by simp [dgt_dg (show k / 10 < 10 by omega), dgt_dg (show k % 10 < 10 by omega)]) (by rw [hv]; omega), hv, by simp⟩
    show (dgt (k / 10)).toNat ≠ 48
    rw [dgt_nat (by omega)]; omega
  · rw [e]
    have hv : vl [dgt (k / 100), dgt (k / 10 % 10), dgt (k % 10)] = k := by rw [vl3, dgt_nat (by omega), dgt_nat (by omega), dgt_nat (by omega)]; omega
    refine ⟨okP_mk (by simp) (by simp) (.inr ?_) (by simp [dgt_dg (show k / 100 < 10 by omega), dgt_dg (show k / 10 % 10 < 10 by omega), dgt_dg (show k % 10 < 10 by omega)]) (by rw [hv]; omega), hv, by simp⟩
    show (dgt (k / 100)).toNat ≠ 48
    rw [dgt_nat (by omega)]; omega
theorem vl_cons (c : UInt8) (r : List UInt8) : vl (c :: r) = ((c.toNat : Int) - 48) * 10 ^ r.length + vl r := by
  induction r using snoc_ind with
  | h0 => rw [vl1, vl_nil]; simp
  | h1 l d ih =>
    rw [show c :: (l ++ [d]) = (c :: l) ++ [d] from rfl, vl_snoc, ih, vl_snoc, List.length_append, List.length_singleton, Int.pow_succ, Int.add_mul, Int.mul_assoc]
    omega
theorem pow_ge {k : Nat} (h : 3 ≤ k) : (1000 : Int) ≤ 10 ^ k := by
  obtain ⟨d, rfl⟩ := Nat.le.dest h
  rw [Int.pow_add]
  have h1 : (1 : Int) ≤ 10 ^ d := Int.pow_pos (by decide)
  have h2 : (10 : Int) ^ 3 = 1000 := by decide
  rw [h2]
  omega
/-- a number that may be is written just so -/
theorem dd_back {p : List UInt8} (h : okP p = true) : dd (vl p) = p := by
  obtain ⟨hn, v0, v1⟩ := okP_t h
  obtain ⟨⟨l1, l2, l3⟩, ha⟩ := nmB_t hn
  have hl : p.length ≤ 3 := by
    match p, l1, l3, ha, v1 with
    | c :: r, _, l3, ha, v1 =>
      by_cases hr : 3 ≤ r.length
      · exfalso
        rw [List.all_cons, Bool.and_eq_true] at ha
        have hc := dgB_t ha.1
        have hc2 : c.toNat ≠ 48 := by
          rcases l3 with l3 | l3
          · simp at l3; rw [l3] at hr; simp at hr
          · exact l3
        have h1 := pow_ge hr
        have h2 := (vl_bd r ha.2).1
        rw [vl_cons] at v1
        have h3 : (1 : Int) * 10 ^ r.length ≤ ((c.toNat : Int) - 48) * 10 ^ r.length := Int.mul_le_mul_of_nonneg_right (by omega) (by omega)
        omega
      · rw [List.length_cons]; omega
  match p, hl, l1, l3, ha, v0, v1 with
  | [c], _, _, _, ha, v0, v1 =>
    have hc : dgB c = true := by simpa using ha
    have := dgB_t hc
    rw [vl1] at v0 v1 ⊢
    unfold dd
    rw [dd_1 (by omega), dgt_of hc _ (by omega)]
  | [c, d], _, _, l3, ha, v0, v1 =>
    simp at ha
    have hc := dgB_t ha.1
    have hd := dgB_t ha.2
    have hc2 : c.toNat ≠ 48 := l3.resolve_left (by simp)
    rw [vl2] at v0 v1 ⊢
    unfold dd
    rw [dd_2 (by omega) (by omega), dgt_of ha.1 _ (by omega), dgt_of ha.2 _ (by omega)]
  | [c, d, e], _, _, l3, ha, v0, v1 =>
    simp at ha
    have hc := dgB_t ha.1
    have hd := dgB_t ha.2.1
    have he := dgB_t ha.2.2
    have hc2 : c.toNat ≠ 48 := l3.resolve_left (by simp)
    rw [vl3] at v0 v1 ⊢
    unfold dd
    rw [dd_3 (by omega) (by omega), dgt_of ha.1 _ (by omega), dgt_of ha.2.1 _ (by omega), dgt_of ha.2.2 _ (by omega)]
/-- an address printed -/
def oc (a : Int) (k : Nat) : Int := if k = 0 then a / 16777216 % 256 else if k = 1 then a / 65536 % 256 else if k = 2 then a / 256 % 256 else a % 256
def pa (a : Int) : List UInt8 := dd (oc a 0) ++ [46] ++ dd (oc a 1) ++ [46] ++ dd (oc a 2) ++ [46] ++ dd (oc a 3)
theorem oc_bd (a : Int) (k : Nat) : 0 ≤ oc a k ∧ oc a k ≤ 255 := by
  unfold oc
  split
  · omega
  · split
    · omega
    · split <;> omega
/-- texts with a byte between -/
def jn (b : UInt8) : List (List UInt8) → List UInt8
  | [] => []
  | [p] => p
  | p :: q :: r => p ++ b :: jn b (q :: r)
theorem jn_cons (b : UInt8) (p : List UInt8) (r : List (List UInt8)) (h : r ≠ []) : jn b (p :: r) = p ++ b :: jn b r := by
  match r, h with
  | q :: r, _ => rfl
theorem ct_ne (b : UInt8) (cur l : List UInt8) : ct b cur l ≠ [] := fun e => by have := ct_pos b l cur; rw [e] at this; simp at this
theorem jn_ct (b : UInt8) : ∀ (l cur : List UInt8), jn b (ct b cur l) = cur ++ l := by
  intro l
  induction l with
  | nil => intro cur; rw [ct_nil]; simp [jn]
  | cons c r ih =>
    intro cur
    by_cases h : c.toNat = b.toNat
    · rw [ct_hit h, jn_cons b _ _ (ct_ne b _ _), ih [], UInt8.toNat_inj.1 h]; simp
    · rw [ct_miss h, ih]; simp
theorem ct_free (b : UInt8) : ∀ (p cur r : List UInt8), (∀ c ∈ p, c.toNat ≠ b.toNat) → ct b cur (p ++ r) = ct b (cur ++ p) r := by
  intro p
  induction p with
  | nil => intro cur r _; simp
  | cons c p ih =>
    intro cur r h
    rw [List.cons_append, ct_miss (h c (by simp)), ih _ _ (fun d hd => h d (by simp [hd]))]
    simp
theorem dg_free {p : List UInt8} (h : p.all dgB = true) : ∀ c ∈ p, c.toNat ≠ (46 : UInt8).toNat := fun c hc => by
  rw [List.all_eq_true] at h
  have := dgB_t (h c hc)
  show c.toNat ≠ 46
  omega
theorem ct_end (b : UInt8) (p cur : List UInt8) (h : ∀ c ∈ p, c.toNat ≠ b.toNat) : ct b cur p = [cur ++ p] := by
  have := ct_free b p cur [] h
  rw [List.append_nil] at this
  rw [this, ct_nil]
theorem dd_free (a : Int) (k : Nat) : ∀ c ∈ dd (oc a k), c.toNat ≠ (46 : UInt8).toNat := dg_free (nmB_t (okP_t (dd_ok _ (oc_bd a k).1 (oc_bd a k).2).1).1).2
theorem ct_pa (a : Int) : ct 46 [] (pa a) = [dd (oc a 0), dd (oc a 1), dd (oc a 2), dd (oc a 3)] := by
  unfold pa
  simp only [List.append_assoc, List.cons_append, List.nil_append]
  rw [ct_free 46 _ _ _ (dd_free a 0), ct_hit rfl, ct_free 46 _ _ _ (dd_free a 1), ct_hit rfl, ct_free 46 _ _ _ (dd_free a 2), ct_hit rfl, ct_end 46 _ _ (dd_free a 3)]
  simp
theorem ad_pa (a : Int) (h0 : 0 ≤ a) (h1 : a < 4294967296) : adB (ct 46 [] (pa a)) = true ∧ adV (ct 46 [] (pa a)) = a := by
  have d0 := dd_ok _ (oc_bd a 0).1 (oc_bd a 0).2
  have d1 := dd_ok _ (oc_bd a 1).1 (oc_bd a 1).2
  have d2 := dd_ok _ (oc_bd a 2).1 (oc_bd a 2).2
  have d3 := dd_ok _ (oc_bd a 3).1 (oc_bd a 3).2
  rw [ct_pa]
  refine ⟨?_, ?_⟩
  · unfold adB
    simp [d0.1, d1.1, d2.1, d3.1]
  · unfold adV
    simp only [List.foldl_cons, List.foldl_nil]
    rw [d0.2.1, d1.2.1, d2.2.1, d3.2.1]
    unfold oc
    simp
    omega
/-- what is an address is printed just so -/
theorem pa_back {l : List UInt8} (h : adB (ct 46 [] l) = true) : pa (adV (ct 46 [] l)) = l := by
  have hj := jn_ct 46 l []
  rw [List.nil_append] at hj
  unfold adB at h
  rw [Bool.and_eq_true, decide_eq_true_eq] at h
  obtain ⟨hl, ha⟩ := h
  match hc : ct 46 [] l, hl with
  | [p, q, r, t], _ =>
    rw [hc] at ha hj
    simp at ha
    obtain ⟨a0, a1, a2, a3⟩ := ha
    have v0 := okP_t a0
    have v1 := okP_t a1
    have v2 := okP_t a2
    have v3 := okP_t a3
    have e : adV [p, q, r, t] = ((vl p * 256 + vl q) * 256 + vl r) * 256 + vl t := by unfold adV; simp
    have e0 : oc (adV [p, q, r, t]) 0 = vl p := by rw [e]; unfold oc; simp; omega
    have e1 : oc (adV [p, q, r, t]) 1 = vl q := by rw [e]; unfold oc; simp; omega
    have e2 : oc (adV [p, q, r, t]) 2 = vl r := by rw [e]; unfold oc; simp; omega
    have e3 : oc (adV [p, q, r, t]) 3 = vl t := by rw [e]; unfold oc; simp; omega
    unfold pa
    rw [e0, e1, e2, e3, dd_back a0, dd_back a1, dd_back a2, dd_back a3, ← hj]
    simp [jn]
theorem pa_len (a : Int) : (pa a).length ≤ 15 := by
  have d0 := (dd_ok _ (oc_bd a 0).1 (oc_bd a 0).2).2.2
  have d1 := (dd_ok _ (oc_bd a 1).1 (oc_bd a 1).2).2.2
  have d2 := (dd_ok _ (oc_bd a 2).1 (oc_bd a 2).2).2.2
  have d3 := (dd_ok _ (oc_bd a 3).1 (oc_bd a 3).2).2.2
  unfold pa
  simp
  omega
end Go.Proofs.YtchhcipoicpglaaDoor
