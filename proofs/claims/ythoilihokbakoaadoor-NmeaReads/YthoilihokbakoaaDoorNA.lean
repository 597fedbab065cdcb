/- Sentences cut out of bytes, in lists. -/
import Derived.Test.YthoilihokbakoaaDoorCWp
namespace Go.Proofs.YthoilihokbakoaaDoor
/-- may a sentence go on with a byte that is neither a dollar sign nor a line feed? -/
def mtB (cur : List UInt8) (c : UInt8) : Bool := decide (cur.length < 82) && (decide (cur.getLast? ≠ some 13) && (decide (c.toNat = 13) || decide (32 ≤ c.toNat ∧ c.toNat ≤ 126)))
/-- a carriage return at the end is taken away -/
def chop (cur : List UInt8) : List UInt8 := if cur.getLast? = some 13 then cur.dropLast else cur
/-- a line: the sentence that it is within, the sentences that were told, how many were lost -/
structure LS where
  st : Option (List UInt8)
  out : List (List UInt8)
  lost : Nat
def stp (s : LS) (c : UInt8) : LS :=
  match s.st with
  | none => if c.toNat = 36 then ⟨some [], s.out, s.lost⟩ else s
  | some cur => if c.toNat = 36 then ⟨some [], s.out, s.lost + 1⟩ else if c.toNat = 10 then ⟨none, s.out ++ [chop cur], s.lost⟩ else if mtB cur c then ⟨some (cur ++ [c]), s.out, s.lost⟩ else ⟨none, s.out, s.lost + 1⟩
def fdL (s : LS) (b : List UInt8) : LS := b.foldl stp s
theorem fdL_nil (s : LS) : fdL s [] = s := rfl
theorem fdL_app (s : LS) (a b : List UInt8) : fdL s (a ++ b) = fdL (fdL s a) b := by unfold fdL; rw [List.foldl_append]
theorem fdL_cons (s : LS) (c : UInt8) (b : List UInt8) : fdL s (c :: b) = fdL (stp s c) b := rfl
theorem fdL_take (s : LS) (b : List UInt8) (k : Nat) (h : k < b.length) : fdL s (b.take (k + 1)) = stp (fdL s (b.take k)) b[k] := by
  rw [List.take_succ_eq_append_getElem h, fdL_app]; rfl
theorem stp_out {O : List (List UInt8)} {n : Nat} {c : UInt8} (h : c.toNat ≠ 36) : stp ⟨none, O, n⟩ c = ⟨none, O, n⟩ := by unfold stp; simp [h]
theorem stp_begin {O : List (List UInt8)} {n : Nat} {c : UInt8} (h : c.toNat = 36) : stp ⟨none, O, n⟩ c = ⟨some [], O, n⟩ := by unfold stp; simp [h]
theorem stp_again {cur : List UInt8} {O : List (List UInt8)} {n : Nat} {c : UInt8} (h : c.toNat = 36) : stp ⟨some cur, O, n⟩ c = ⟨some [], O, n + 1⟩ := by unfold stp; simp [h]
theorem stp_done {cur : List UInt8} {O : List (List UInt8)} {n : Nat} {c : UInt8} (h : c.toNat = 10) : stp ⟨some cur, O, n⟩ c = ⟨none, O ++ [chop cur], n⟩ := by unfold stp; simp [h]
theorem stp_take {cur : List UInt8} {O : List (List UInt8)} {n : Nat} {c : UInt8} (h1 : c.toNat ≠ 36) (h2 : c.toNat ≠ 10) (h3 : mtB cur c = true) : stp ⟨some cur, O, n⟩ c = ⟨some (cur ++ [c]), O, n⟩ := by unfold stp; simp [h1, h2, h3]
theorem stp_lose {cur : List UInt8} {O : List (List UInt8)} {n : Nat} {c : UInt8} (h1 : c.toNat ≠ 36) (h2 : c.toNat ≠ 10) (h3 : mtB cur c = false) : stp ⟨some cur, O, n⟩ c = ⟨none, O, n + 1⟩ := by unfold stp; simp [h1, h2, h3]
/-- what was told and lost ahead of it changes nothing -/
theorem stp_from (st : Option (List UInt8)) (O : List (List UInt8)) (n : Nat) (c : UInt8) : stp ⟨st, O, n⟩ c = ⟨(stp ⟨st, [], 0⟩ c).st, O ++ (stp ⟨st, [], 0⟩ c).out, n + (stp ⟨st, [], 0⟩ c).lost⟩ := by
  unfold stp
  cases st with
  | none => simp only; split <;> simp
  | some cur =>
    simp only
    split
    · simp
    · split
      · simp
      · split <;> simp
theorem fdL_from (b : List UInt8) : ∀ (st : Option (List UInt8)) (O : List (List UInt8)) (n : Nat), fdL ⟨st, O, n⟩ b = ⟨(fdL ⟨st, [], 0⟩ b).st, O ++ (fdL ⟨st, [], 0⟩ b).out, n + (fdL ⟨st, [], 0⟩ b).lost⟩ := by
  induction b with
  | nil => intro st O n; simp [fdL_nil]
  | cons c r ih =>
    intro st O n
    rw [fdL_cons, fdL_cons, stp_from, ih]
    have e := ih (stp ⟨st, [], 0⟩ c).st (stp ⟨st, [], 0⟩ c).out (stp ⟨st, [], 0⟩ c).lost
    have e2 : (⟨(stp ⟨st, [], 0⟩ c).st, (stp ⟨st, [], 0⟩ c).out, (stp ⟨st, [], 0⟩ c).lost⟩ : LS) = stp ⟨st, [], 0⟩ c := rfl
    rw [e2] at e
    rw [e]
    simp [List.append_assoc, Nat.add_assoc]
theorem stp_grow (s : LS) (c : UInt8) : (stp s c).out.length ≤ s.out.length + 1 ∧ (stp s c).lost ≤ s.lost + 1 := by
  obtain ⟨st, O, n⟩ := s
  cases st with
  | none =>
    by_cases h : c.toNat = 36
    · rw [stp_begin h]; simp
    · rw [stp_out h]; simp
  | some cur =>
    by_cases h : c.toNat = 36
    · rw [stp_again h]; simp
    · by_cases h2 : c.toNat = 10
      · rw [stp_done h2]; simp
      · cases h3 : mtB cur c
        · rw [stp_lose h h2 h3]; simp
        · rw [stp_take h h2 h3]; simp
/-- how many sentences are begun -/
def beg (b : List UInt8) : Nat := b.countP (fun c => decide (c.toNat = 36))
def opn (st : Option (List UInt8)) : Nat := if st.isSome then 1 else 0
theorem stp_count (s : LS) (c : UInt8) : (stp s c).out.length + (stp s c).lost + opn (stp s c).st = s.out.length + s.lost + opn s.st + (if c.toNat = 36 then 1 else 0) := by
  obtain ⟨st, O, n⟩ := s
  cases st with
  | none =>
    by_cases h : c.toNat = 36
    · rw [stp_begin h, if_pos h]; simp [opn]
    · rw [stp_out h, if_neg h]; simp
  | some cur =>
    by_cases h : c.toNat = 36
    · rw [stp_again h, if_pos h]; simp [opn]; omega
    · rw [if_neg h]
      by_cases h2 : c.toNat = 10
      · rw [stp_done h2]; simp [opn]; omega
      · cases h3 : mtB cur c
        · rw [stp_lose h h2 h3]; simp [opn]; omega
        · rw [stp_take h h2 h3]; simp [opn]
theorem fdL_count (b : List UInt8) : ∀ s : LS, (fdL s b).out.length + (fdL s b).lost + opn (fdL s b).st = s.out.length + s.lost + opn s.st + beg b := by
  induction b with
  | nil => intro s; simp [fdL_nil, beg]
  | cons c r ih =>
    intro s
    rw [fdL_cons, ih, stp_count]
    unfold beg
    rw [List.countP_cons]
    simp only [decide_eq_true_eq]
    omega
/-- a sentence that may be -/
def plainL (s : List UInt8) : Prop := (∀ c ∈ s, 32 ≤ c.toNat ∧ c.toNat ≤ 126 ∧ c.toNat ≠ 36) ∧ s.length ≤ 81
theorem not_cr {s : List UInt8} (h : ∀ c ∈ s, 32 ≤ c.toNat) : s.getLast? ≠ some 13 := fun e => by
  have := h 13 (List.mem_of_getLast? e)
  simp at this
theorem fdL_plain (r : List UInt8) : ∀ (cur : List UInt8) (O : List (List UInt8)) (n : Nat), plainL (cur ++ r) → fdL ⟨some cur, O, n⟩ r = ⟨some (cur ++ r), O, n⟩ := by
  induction r with
  | nil => intro cur O n _; simp [fdL_nil]
  | cons c r ih =>
    intro cur O n h
    have hc := h.1 c (by simp)
    have hl := h.2
    rw [List.length_append, List.length_cons] at hl
    have hcr : cur.getLast? ≠ some 13 := not_cr (fun x hx => (h.1 x (by simp [hx])).1)
    have hm : mtB cur c = true := by unfold mtB; simp [hcr]; omega
    rw [fdL_cons, stp_take hc.2.2 (by omega) hm, ih _ _ _ (by simpa using h)]
    simp
theorem fdL_told (st : Option (List UInt8)) (s : List UInt8) (h : plainL s) : (fdL ⟨st, [], 0⟩ ([36] ++ s ++ [13, 10])).out = [s] := by
  have h0 : ∃ n, stp ⟨st, [], 0⟩ 36 = ⟨some [], [], n⟩ := by
    cases st with
    | none => exact ⟨_, stp_begin rfl⟩
    | some cur => exact ⟨_, stp_again rfl⟩
  obtain ⟨n, h0⟩ := h0
  have h1 : fdL ⟨st, [], 0⟩ [36] = ⟨some [], [], n⟩ := h0
  rw [fdL_app, fdL_app, h1, fdL_plain s [] [] n (by simpa using h), List.nil_append, fdL_cons, fdL_cons, fdL_nil]
  have hcr : s.getLast? ≠ some 13 := not_cr (fun x hx => (h.1 x hx).1)
  have hm : mtB s 13 = true := by unfold mtB; have := h.2; simp [hcr]; omega
  rw [stp_take (by decide) (by decide) hm, stp_done rfl]
  simp [chop]
/-- a sentence on the way is no longer than may be -/
theorem stp_len {s : LS} {c : UInt8} (h : ∀ cur, s.st = some cur → cur.length ≤ 82) : ∀ cur, (stp s c).st = some cur → cur.length ≤ 82 := by
  obtain ⟨st, O, n⟩ := s
  intro x hx
  cases st with
  | none =>
    by_cases h1 : c.toNat = 36
    · rw [stp_begin h1] at hx; injection hx with hx; subst hx; simp
    · rw [stp_out h1] at hx; cases hx
  | some cur =>
    by_cases h1 : c.toNat = 36
    · rw [stp_again h1] at hx; injection hx with hx; subst hx; simp
    · by_cases h2 : c.toNat = 10
      · rw [stp_done h2] at hx; cases hx
      · cases h3 : mtB cur c
        · rw [stp_lose h1 h2 h3] at hx; cases hx
        · rw [stp_take h1 h2 h3] at hx
          injection hx with hx
          subst hx
          unfold mtB at h3
          simp at h3
          simp; omega
end Go.Proofs.YthoilihokbakoaaDoor
