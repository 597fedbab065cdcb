/- Numbers and addresses as texts, in lists of bytes. -/
import Derived.Test.YthoilihokbakoaaDoorCWp
import Derived.Lib.Split
import Derived.Lib.ItoaNum
import Derived.Lib.IndexBytes
namespace Go.Proofs.YthoilihokbakoaaDoor
/-- a digit -/
def dgB (c : UInt8) : Bool := decide (48 ≤ c.toNat ∧ c.toNat ≤ 57)
theorem dgB_t {c : UInt8} (h : dgB c = true) : 48 ≤ c.toNat ∧ c.toNat ≤ 57 := of_decide_eq_true h
theorem dgB_f {c : UInt8} (h : dgB c = false) : ¬ (48 ≤ c.toNat ∧ c.toNat ≤ 57) := of_decide_eq_false h
/-- the number that digits say -/
def vl (l : List UInt8) : Int := l.foldl (fun n c => n * 10 + ((c.toNat : Int) - 48)) 0
theorem vl_nil : vl [] = 0 := rfl
theorem vl_snoc (l : List UInt8) (c : UInt8) : vl (l ++ [c]) = vl l * 10 + ((c.toNat : Int) - 48) := by unfold vl; rw [List.foldl_append]; rfl
theorem all_snoc (l : List UInt8) (c : UInt8) : (l ++ [c]).all dgB = (l.all dgB && dgB c) := by simp [List.all_append]
theorem snoc_ind {P : List UInt8 → Prop} (h0 : P []) (h1 : ∀ l c, P l → P (l ++ [c])) (l : List UInt8) : P l := by
  have : ∀ n (l : List UInt8), l.length = n → P l := by
    intro n
    induction n with
    | zero => intro l hl; rw [List.length_eq_zero_iff.1 hl]; exact h0
    | succ n ih =>
      intro l hl
      have hne : l ≠ [] := fun e => by rw [e] at hl; cases hl
      rw [← List.dropLast_concat_getLast hne]
      exact h1 _ _ (ih _ (by rw [List.length_dropLast]; omega))
  exact this _ l rfl
theorem vl_bd (l : List UInt8) : l.all dgB = true → 0 ≤ vl l ∧ vl l < (10 : Int) ^ l.length := by
  induction l using snoc_ind with
  | h0 => intro _; simp [vl_nil]
  | h1 l c ih =>
    intro h
    rw [all_snoc, Bool.and_eq_true] at h
    have h1 := ih h.1
    have h2 := dgB_t h.2
    rw [vl_snoc, List.length_append, List.length_singleton, Int.pow_succ]
    omega
/-- may a text of so many bytes, and this first one, be a number? -/
def nfB (l : List UInt8) : Bool := decide (1 ≤ l.length ∧ l.length ≤ 10 ∧ (l.length = 1 ∨ (l.getD 0 0).toNat ≠ 48))
def nmB (l : List UInt8) : Bool := nfB l && l.all dgB
def nmV (l : List UInt8) : Int := if nmB l then vl l else 0
def nmR (l : List UInt8) : Int := if nmB l then vl l else -1
theorem pow_le10 {k : Nat} (h : k ≤ 10) : (10 : Int) ^ k ≤ 10000000000 := by
  have h2 : k = 0 ∨ k = 1 ∨ k = 2 ∨ k = 3 ∨ k = 4 ∨ k = 5 ∨ k = 6 ∨ k = 7 ∨ k = 8 ∨ k = 9 ∨ k = 10 := by omega
  rcases h2 with rfl | rfl | rfl | rfl | rfl | rfl | rfl | rfl | rfl | rfl | rfl <;> decide
theorem nmB_t {l : List UInt8} (h : nmB l = true) : (1 ≤ l.length ∧ l.length ≤ 10 ∧ (l.length = 1 ∨ (l.getD 0 0).toNat ≠ 48)) ∧ l.all dgB = true := by
  unfold nmB nfB at h
  rw [Bool.and_eq_true, decide_eq_true_eq] at h
  exact h
theorem nm_bd {l : List UInt8} (h : nmB l = true) : 0 ≤ vl l ∧ vl l < 10000000000 := by
  obtain ⟨h1, h2⟩ := nmB_t h
  have := vl_bd l h2
  exact ⟨this.1, Int.lt_of_lt_of_le this.2 (pow_le10 h1.2.1)⟩
/-- cut at each of some byte -/
def ct (b : UInt8) : List UInt8 → List UInt8 → List (List UInt8)
  | cur, [] => [cur]
  | cur, c :: r => if c.toNat = b.toNat then cur :: ct b [] r else ct b (cur ++ [c]) r
theorem ct_nil (b : UInt8) (cur : List UInt8) : ct b cur [] = [cur] := by rw [ct]
theorem ct_hit {b c : UInt8} (h : c.toNat = b.toNat) (cur r : List UInt8) : ct b cur (c :: r) = cur :: ct b [] r := by rw [ct, if_pos h]
theorem ct_miss {b c : UInt8} (h : c.toNat ≠ b.toNat) (cur r : List UInt8) : ct b cur (c :: r) = ct b (cur ++ [c]) r := by rw [ct, if_neg h]
theorem ct_len (b : UInt8) : ∀ (l cur : List UInt8), (ct b cur l).length ≤ l.length + 1 := by
  intro l
  induction l with
  | nil => intro cur; rw [ct_nil]; simp
  | cons c r ih =>
    intro cur
    by_cases h : c.toNat = b.toNat
    · rw [ct_hit h]; have := ih []; simp; omega
    · rw [ct_miss h]; have := ih (cur ++ [c]); simp; omega
theorem ct_index (b : UInt8) : ∀ (l cur : List UInt8), (Lib.indexByte l b = -1 → ct b cur l = [cur ++ l]) ∧ (∀ i : Nat, Lib.indexByte l b = i → ct b cur l = (cur ++ l.take i) :: ct b [] (l.drop (i + 1))) := by
  intro l
  induction l with
  | nil => intro cur; exact ⟨fun _ => by rw [ct_nil]; simp, fun i h => by simp [Lib.indexByte] at h⟩
  | cons c r ih =>
    intro cur
    by_cases h : c = b
    · have hn : c.toNat = b.toNat := by rw [h]
      refine ⟨fun e => ?_, fun i e => ?_⟩
      · rw [Lib.indexByte, if_pos (by simpa using h)] at e; omega
      · rw [Lib.indexByte, if_pos (by simpa using h)] at e
        have : i = 0 := by omega
        subst this
        rw [ct_hit hn]; simp
    · have hn : c.toNat ≠ b.toNat := fun e => h (UInt8.toNat_inj.1 e)
      have hi := ih (cur ++ [c])
      refine ⟨fun e => ?_, fun i e => ?_⟩
      · rw [Lib.indexByte, if_neg (by simpa using h)] at e
        have e1 : Lib.indexByte r b = -1 := by
          have := Lib.indexByte_ge r b
          by_cases h1 : Lib.indexByte r b = -1
          · exact h1
          · rw [if_neg (by simpa using h1)] at e; omega
        rw [ct_miss hn, hi.1 e1]; simp
      · rw [Lib.indexByte, if_neg (by simpa using h)] at e
        by_cases h1 : Lib.indexByte r b = -1
        · rw [if_pos (by simpa using h1)] at e; omega
        · rw [if_neg (by simpa using h1)] at e
          obtain ⟨j, rfl⟩ : ∃ j, i = j + 1 := ⟨i - 1, by have := Lib.indexByte_ge r b; omega⟩
          rw [ct_miss hn, hi.2 j (by omega)]; simp
theorem ct_pos (b : UInt8) (l cur : List UInt8) : 1 ≤ (ct b cur l).length := by
  have h := ct_index b l cur
  by_cases h1 : Lib.indexByte l b = -1
  · rw [h.1 h1]; simp
  · have := Lib.indexByte_ge l b
    rw [h.2 (Lib.indexByte l b).toNat (by omega)]; simp
theorem split_ct (b : UInt8) : ∀ (k : Nat) (l : List UInt8), ((ct b [] l).length ≤ k + 1 → Lib.splitK [b] 0 k l = ct b [] l) ∧ (k + 1 < (ct b [] l).length → (Lib.splitK [b] 0 k l).length = k + 1) := by
  intro k
  induction k with
  | zero =>
    intro l
    have h := ct_index b l []
    refine ⟨fun hl => ?_, fun hl => rfl⟩
    by_cases h1 : Lib.indexByte l b = -1
    · rw [h.1 h1]; rfl
    · have := Lib.indexByte_ge l b
      rw [h.2 (Lib.indexByte l b).toNat (by omega)] at hl
      have := ct_pos b (l.drop ((Lib.indexByte l b).toNat + 1)) []
      rw [List.length_cons] at hl
      omega
  | succ k ih =>
    intro l
    have h := ct_index b l []
    by_cases h1 : Lib.indexByte l b = -1
    · have e : Lib.splitK [b] 0 (k + 1) l = [l] := by rw [Lib.splitK, Lib.index_one, if_pos (by simpa using h1)]
      rw [e, h.1 h1]
      exact ⟨fun _ => rfl, fun hl => by simp at hl⟩
    · have hg := Lib.indexByte_ge l b
      have e : Lib.splitK [b] 0 (k + 1) l = l.take (Lib.indexByte l b).toNat :: Lib.splitK [b] 0 k (l.drop ((Lib.indexByte l b).toNat + 1)) := by
        rw [Lib.splitK, Lib.index_one, if_neg (by simpa using h1)]; rfl
      have hi := ih (l.drop ((Lib.indexByte l b).toNat + 1))
      rw [e, h.2 (Lib.indexByte l b).toNat (by omega)]
      refine ⟨fun hl => ?_, fun hl => ?_⟩
      · rw [hi.1 (by simp at hl; omega)]; simp
      · have := hi.2 (by simp at hl; omega)
        simp [this]
/-- what SplitN makes of a text, at most five pieces -/
theorem splitN_ct (b : UInt8) (l : List UInt8) (K : Nat) (hK : K = min 5 (l.length + 1) - 1) :
    ((Lib.splitK [b] 0 K l).length = 4 ↔ (ct b [] l).length = 4) ∧ ((ct b [] l).length = 4 → Lib.splitK [b] 0 K l = ct b [] l) := by
  have h := split_ct b K l
  have hc := ct_len b l []
  by_cases hl : (ct b [] l).length ≤ K + 1
  · rw [h.1 hl]; exact ⟨Iff.rfl, fun _ => rfl⟩
  · have := h.2 (by omega)
    rw [this]
    exact ⟨⟨fun e => by omega, fun e => by omega⟩, fun e => by omega⟩
/-- an address out of four numbers -/
def okP (p : List UInt8) : Bool := nmB p && decide (vl p ≤ 255)
def adB (ps : List (List UInt8)) : Bool := decide (ps.length = 4) && ps.all okP
def adV (ps : List (List UInt8)) : Int := ps.foldl (fun a p => a * 256 + vl p) 0
theorem adV_snoc (ps : List (List UInt8)) (p : List UInt8) : adV (ps ++ [p]) = adV ps * 256 + vl p := by unfold adV; rw [List.foldl_append]; rfl
theorem okP_t {p : List UInt8} (h : okP p = true) : nmB p = true ∧ 0 ≤ vl p ∧ vl p ≤ 255 := by
  unfold okP at h
  rw [Bool.and_eq_true, decide_eq_true_eq] at h
  exact ⟨h.1, (nm_bd h.1).1, h.2⟩
end Go.Proofs.YthoilihokbakoaaDoor
