/- Pure: the fields of a sentence that is written, and what they say. -/
import Derived.Test.YthoilihokbakoaaDoorQJ
import Derived.Test.YthoilihokbakoaaDoorQE
namespace Go.Proofs.YthoilihokbakoaaDoor
open Go
theorem dg_all (k : Nat) : ∀ n : Int, (dg k n).all dgB = true := by
  induction k with
  | zero => intro n; rfl
  | succ k ih =>
    intro n
    rw [dg, all_snoc, ih, Bool.true_and]
    unfold dgB
    rw [decide_eq_true_eq, UInt8.toNat_ofNat']
    omega
theorem dg_vl (k : Nat) : ∀ n : Int, 0 ≤ n → n < 10 ^ k → vl (dg k n) = n := by
  induction k with
  | zero => intro n h0 h1; simp at h1; have : n = 0 := by omega
            subst this; rfl
  | succ k ih =>
    intro n h0 h1
    rw [Int.pow_succ] at h1
    rw [dg, vl_snoc, ih (n / 10) (by omega) (by omega), UInt8.toNat_ofNat']
    omega
theorem dg_nu (k : Nat) (K n : Int) (hk : (k : Int) = K) (h0 : 0 ≤ n) (h1 : n < 10 ^ k) : nuB (dg k n) K = true ∧ nuV (dg k n) K = n := by
  have hb : nuB (dg k n) K = true := by
    unfold nuB
    rw [dg_all, dg_len, decide_eq_true hk]; rfl
  refine ⟨hb, ?_⟩
  unfold nuV
  rw [hb, if_pos rfl, dg_vl k n h0 h1]
/-- digits hold no comma, and no point -/
theorem all_ne {l : List UInt8} (h : l.all dgB = true) {b : UInt8} (hb : ¬ (48 ≤ b.toNat ∧ b.toNat ≤ 57)) : ∀ c ∈ l, c.toNat ≠ b.toNat := by
  intro c hc e
  have h2 := dgB_t (List.all_eq_true.1 h c hc)
  rw [e] at h2
  exact hb h2
theorem ct_run (b : UInt8) (r : List UInt8) : ∀ (l cur : List UInt8), (∀ c ∈ l, c.toNat ≠ b.toNat) → ct b cur (l ++ r) = ct b (cur ++ l) r := by
  intro l
  induction l with
  | nil => intro cur _; simp
  | cons c l ih =>
    intro cur h
    rw [List.cons_append, ct_miss (h c List.mem_cons_self), ih _ (fun x hx => h x (List.mem_cons_of_mem _ hx))]
    simp
theorem ct_next (b : UInt8) (l r : List UInt8) (h : ∀ c ∈ l, c.toNat ≠ b.toNat) : ct b [] (l ++ b :: r) = l :: ct b [] r := by
  rw [ct_run b _ l [] h, ct_hit rfl]; rfl
theorem indexByte_run (b : UInt8) (r : List UInt8) : ∀ (l : List UInt8), (∀ c ∈ l, c.toNat ≠ b.toNat) → Lib.indexByte (l ++ b :: r) b = l.length := by
  intro l
  induction l with
  | nil => intro _; simp [Lib.indexByte]
  | cons c l ih =>
    intro h
    have h1 := ih (fun x hx => h x (List.mem_cons_of_mem _ hx))
    have h2 : c ≠ b := fun e => h c List.mem_cons_self (by rw [e])
    simp [Lib.indexByte, h1, h2]
theorem td_dg (n u : Int) (n0 : 0 ≤ n) (n1 : n < 1000000) (u0 : 0 ≤ u) (u1 : u < 1000000) :
    tdB (dg 6 n ++ [46] ++ dg 6 u) = true ∧ tdN (dg 6 n ++ [46] ++ dg 6 u) = n ∧ tdF (dg 6 n ++ [46] ++ dg 6 u) = u * 4294967296 / 1000000 := by
  have hi : Lib.indexByte (dg 6 n ++ 46 :: dg 6 u) 46 = 6 := by
    rw [indexByte_run 46 _ _ (all_ne (dg_all 6 n) (by decide)), dg_len]; rfl
  have hc : Lib.cut (dg 6 n ++ [46] ++ dg 6 u) [46] = (dg 6 n, dg 6 u, true) := by
    unfold Lib.cut
    rw [List.append_assoc, List.singleton_append, Lib.index_one, hi]
    simp [dg_len]
    rw [show (7 : Nat) = (dg 6 n).length + 1 from by rw [dg_len], ← List.drop_drop, List.drop_left]
    rfl
  have hn := dg_nu 6 6 n rfl n0 (by simpa using n1)
  have hfB : frB (dg 6 u) = true := by
    unfold frB; rw [dg_all, dg_len]; rfl
  have hfV : frV (dg 6 u) = u * 4294967296 / 1000000 := by
    unfold frV; rw [hfB, if_pos rfl, dg_vl 6 u u0 (by simpa using u1), dg_len]; rfl
  unfold tdB tdN tdF tdW tdQ tdP
  rw [hc]
  simp [hn.1, hn.2, hfB, hfV]
theorem flds_sealed (b : List UInt8) : flds (sealed b) = ct 44 [] b := by
  unfold flds
  rw [sealed_len]
  unfold sealed
  rw [show b.length + 3 - 3 = b.length from by omega, List.take_left']
  rfl
theorem flds_body (y m d h n s f : Int) : flds (sealed (bodyL y m d h n s f)) = [[71, 80, 90, 68, 65], dg 6 (h * 10000 + n * 100 + s) ++ [46] ++ dg 6 (f * 1000000 / 4294967296), dg 2 d, dg 2 m, dg 4 y, [48, 48], [48, 48]] := by
  rw [flds_sealed]
  unfold bodyL
  have e : ([71, 80, 90, 68, 65, 44] ++ dg 6 (h * 10000 + n * 100 + s) ++ [46] ++ dg 6 (f * 1000000 / 4294967296) ++ [44] ++ dg 2 d ++ [44] ++ dg 2 m ++ [44] ++ dg 4 y ++ [44, 48, 48, 44, 48, 48] : List UInt8) = [71, 80, 90, 68, 65] ++ 44 :: ((dg 6 (h * 10000 + n * 100 + s) ++ [46] ++ dg 6 (f * 1000000 / 4294967296)) ++ 44 :: (dg 2 d ++ 44 :: (dg 2 m ++ 44 :: (dg 4 y ++ 44 :: ([48, 48] ++ 44 :: [48, 48]))))) := by simp
  rw [e, ct_next _ _ _ (by decide), ct_next _ _ _ ?_, ct_next _ _ _ (all_ne (dg_all _ _) (by decide)), ct_next _ _ _ (all_ne (dg_all _ _) (by decide)), ct_next _ _ _ (all_ne (dg_all _ _) (by decide)), ct_next _ _ _ (by decide)]
  · rfl
  · intro c hc
    rw [List.mem_append, List.mem_append] at hc
    rcases hc with (hc | hc) | hc
    · exact all_ne (dg_all _ _) (by decide) c hc
    · rw [List.mem_singleton] at hc; subst hc; decide
    · exact all_ne (dg_all _ _) (by decide) c hc
/-- less than a millionth of a second is lost -/
theorem frac_lost (f : Int) (f0 : 0 ≤ f) (f1 : f < 4294967296) : 0 ≤ f * 1000000 / 4294967296 ∧ f * 1000000 / 4294967296 < 1000000 ∧ f * 1000000 / 4294967296 * 4294967296 / 1000000 ≤ f ∧ f - f * 1000000 / 4294967296 * 4294967296 / 1000000 < 4296 := by omega
end Go.Proofs.YthoilihokbakoaaDoor
