/- assoc: what is dropped with what, in lists. -/
import Derived.Test.YtnjdmkgkpdebdaaKE
namespace Go.Proofs.Ytnjdmkgkpdebdaa
open Go Go.RowKit Go.Sort
set_option linter.unusedVariables false
def at0 (T : List (Option Mb)) (i : Nat) : Option Mb := T.getD i none
/-- what is among S, or has a parent that is reached -/
def Rch (T : List (Option Mb)) (S : Nat → Prop) (i : Nat) : Prop := ∀ Q : Nat → Prop, (∀ (i : Nat) (m : Mb), at0 T i = some m → S i → Q i) → (∀ (i j : Nat) (m : Mb), at0 T i = some m → m.par = (j : Int) + 1 → Q j → Q i) → Q i
theorem Rch.base {T : List (Option Mb)} {S : Nat → Prop} (i : Nat) (m : Mb) (h1 : at0 T i = some m) (h2 : S i) : Rch T S i := fun _ b _ => b i m h1 h2
theorem Rch.step {T : List (Option Mb)} {S : Nat → Prop} (i j : Nat) (m : Mb) (h1 : at0 T i = some m) (h2 : m.par = (j : Int) + 1) (r : Rch T S j) : Rch T S i := fun Q b s => s i j m h1 h2 (r Q b s)
structure SpS (T : List (Option Mb)) (S : Nat → Prop) (T' : List (Option Mb)) : Prop where
  len : T'.length = T.length
  sub : ∀ i, at0 T' i = at0 T i ∨ at0 T' i = none
  snd : ∀ i m, at0 T i = some m → at0 T' i = none → Rch T S i
  gone : ∀ i, S i → at0 T' i = none
  clo : ∀ (i : Nat) m, at0 T i = some m → at0 T' i = none → ∀ j n, at0 T' j = some n → n.par ≠ (i : Int) + 1
theorem SpS.out {T T' : List (Option Mb)} {S : Nat → Prop} (h : SpS T S T') {i : Nat} (r : Rch T S i) : at0 T' i = none := by
  refine (r (fun i => at0 T i ≠ none ∧ at0 T' i = none) (fun i m h1 h2 => ⟨by rw [h1]; exact Option.some_ne_none _, h.gone i h2⟩) (fun i j m h1 h2 ih => ⟨by rw [h1]; exact Option.some_ne_none _, ?_⟩)).2
  rcases h.sub i with e | e
  · rw [h1] at e
    cases hj : at0 T j with
    | none => exact absurd hj ih.1
    | some m' => exact absurd h2 (h.clo j m' hj ih.2 i m e)
  · exact e
theorem SpS.iff {T T' : List (Option Mb)} {S : Nat → Prop} (h : SpS T S T') (i : Nat) (m : Mb) (hm : at0 T i = some m) : at0 T' i = none ↔ Rch T S i := ⟨h.snd i m hm, h.out⟩
theorem SpS.same {T T' : List (Option Mb)} {S : Nat → Prop} (h : SpS T S T') (i : Nat) (m : Mb) (hm : at0 T' i = some m) : at0 T i = some m := by
  rcases h.sub i with e | e
  · rw [← e]; exact hm
  · rw [e] at hm; cases hm
theorem Rch.mono {T U : List (Option Mb)} {S R : Nat → Prop} (hT : ∀ i m, at0 T i = some m → at0 U i = some m) (hS : ∀ i m, at0 T i = some m → S i → Rch U R i) {i : Nat} (r : Rch T S i) : Rch U R i :=
  r (fun i => Rch U R i) hS (fun i j m h1 h2 ih => Rch.step i j m (hT i m h1) h2 ih)
theorem SpS.idle {T : List (Option Mb)} {S : Nat → Prop} (h : ∀ i, S i → at0 T i = none) : SpS T S T :=
  ⟨rfl, fun i => .inl rfl, fun i m h1 h2 => (by rw [h1] at h2; cases h2), h, fun i m h1 h2 => (by rw [h1] at h2; cases h2)⟩
/-- how many there are -/
def cnt : List (Option Mb) → Nat
  | [] => 0
  | none :: t => cnt t
  | some _ :: t => cnt t + 1
theorem cnt_set : ∀ (T : List (Option Mb)) (i : Nat) (m : Mb), T[i]? = some (some m) → cnt (T.set i none) + 1 = cnt T
  | [], i, m, h => by simp at h
  | x :: t, 0, m, h => by simp at h; subst h; simp [cnt]
  | x :: t, i + 1, m, h => by
    have := cnt_set t i m (by simpa using h)
    cases x <;> simp [cnt] <;> omega
theorem cnt_le : ∀ (T T' : List (Option Mb)), T'.length = T.length → (∀ i, at0 T' i = at0 T i ∨ at0 T' i = none) → cnt T' ≤ cnt T
  | [], [], _, _ => Nat.le_refl _
  | [], _ :: _, h, _ => by simp at h
  | _ :: _, [], h, _ => by simp at h
  | x :: t, y :: u, h, hs => by
    have := cnt_le t u (by simpa using h) (fun i => by simpa [at0] using hs (i + 1))
    have h0 := hs 0
    simp [at0] at h0
    cases x <;> cases y <;> simp [cnt] at h0 ⊢ <;> omega
theorem cnt_len (T : List (Option Mb)) : cnt T ≤ T.length := by
  induction T with
  | nil => exact Nat.le_refl _
  | cons x t ih => cases x <;> simp [cnt] <;> omega
theorem at0_some {T : List (Option Mb)} {i : Nat} {m : Mb} : at0 T i = some m ↔ T[i]? = some (some m) := by
  unfold at0
  constructor
  · exact getD_some
  · intro h; rw [List.getD_eq_getElem?_getD, h]; rfl
theorem at0_none {T : List (Option Mb)} {i : Nat} (h : at0 T i = none) (hi : i < T.length) : T[i]? = some none := by
  unfold at0 at h
  rw [List.getD_eq_getElem?_getD, List.getElem?_eq_getElem hi] at h
  rw [List.getElem?_eq_getElem hi]
  exact congrArg some h
theorem at0_set (T : List (Option Mb)) (i j : Nat) (x : Option Mb) (hj : i < T.length) : at0 (T.set i x) j = if i = j then x else at0 T j := by
  unfold at0
  rw [List.getD_eq_getElem?_getD, List.getElem?_set]
  split
  · rename_i e; subst e; simp
  · rw [← List.getD_eq_getElem?_getD]
theorem atM_at {T : List (Option Mb)} (k : Nat) (hk : k < 16) : atM T ((k : Int) + 1) = at0 T k := by
  unfold atM at0
  rw [if_pos (by omega)]
  have e : ((k : Int) + 1 - 1).toNat = k := by omega
  rw [e]
theorem atM_not {T : List (Option Mb)} {id : Int} (h : ∀ i : Nat, i < 16 → at0 T i ≠ none → (i : Int) + 1 ≠ id) : atM T id = none := by
  unfold atM
  split
  · rename_i hi
    cases hm : T.getD (id - 1).toNat none with
    | none => rfl
    | some m => exact absurd (by omega) (h (id - 1).toNat (by omega) (by unfold at0; rw [hm]; simp))
  · rfl
/-- a table of which some are no more -/
theorem Tb.less {w w' : World} {q : Nat} {T T' : List (Option Mb)} (h : Tb w q T) (hl : T'.length = T.length) (hs : ∀ i, at0 T' i = at0 T i ∨ at0 T' i = none) (hq : Bk q w' (T'.map ptr).toArray 74) (hg : w.grownBy w' (some q)) : Tb w' q T' := by
  have hh : ∀ (i : Nat) m, T'[i]? = some (some m) → T[i]? = some (some m) := fun i m hm => by
    rw [← at0_some] at hm ⊢
    rcases hs i with e | e
    · rw [← e]; exact hm
    · rw [e] at hm; cases hm
  refine ⟨hq, hl.trans h.len, fun i m hm => ?_, fun i j m n hi hj hb => h.inj i j m n (hh i m hi) (hh j n hj) hb⟩
  have k := h.mem i m (hh i m hm)
  exact ⟨k.1.kept (hg.block _ k.1.lt (fun e => k.2.1 (Option.some.inj e))), k.2⟩
/-- where a loop over those that there were stands -/
structure Lp (T T1 : List (Option Mb)) (S C : Nat → Prop) (k : Nat) (Tc : List (Option Mb)) : Prop where
  len : Tc.length = T1.length
  sub : ∀ i, at0 Tc i = at0 T1 i ∨ at0 Tc i = none
  snd : ∀ i m, at0 T1 i = some m → at0 Tc i = none → Rch T S i
  clo : ∀ (i : Nat) m, at0 T1 i = some m → at0 Tc i = none → ∀ j n, at0 Tc j = some n → n.par ≠ (i : Int) + 1
  vis : ∀ j, j < k → C j → at0 Tc j = none
theorem Lp.start (T T1 : List (Option Mb)) (S C : Nat → Prop) : Lp T T1 S C 0 T1 :=
  ⟨rfl, fun i => .inl rfl, fun i m h1 h2 => (by rw [h1] at h2; cases h2), fun i m h1 h2 => (by rw [h1] at h2; cases h2), fun j hj => absurd hj (by omega)⟩
theorem Lp.skip {T T1 Tc : List (Option Mb)} {S C : Nat → Prop} {k : Nat} (h : Lp T T1 S C k Tc) (hk : C k → at0 Tc k = none) : Lp T T1 S C (k + 1) Tc :=
  ⟨h.len, h.sub, h.snd, h.clo, fun j hj hC => by
    by_cases e : j = k
    · subst e; exact hk hC
    · exact h.vis j (by omega) hC⟩
theorem Lp.drop {T T1 Tc T' : List (Option Mb)} {S C : Nat → Prop} {k : Nat} (h : Lp T T1 S C k Tc) (hT : ∀ i m, at0 T1 i = some m → at0 T i = some m) (hk : Rch T S k) (h' : SpS Tc (fun i => i = k) T') : Lp T T1 S C (k + 1) T' := by
  have hs : ∀ i m, at0 Tc i = some m → at0 T1 i = some m := fun i m hm => by
    rcases h.sub i with e | e
    · rw [← e]; exact hm
    · rw [e] at hm; cases hm
  refine ⟨h'.len.trans h.len, fun i => ?_, fun i m h1 h2 => ?_, fun i m h1 h2 j n hj => ?_, fun j hj hC => ?_⟩
  · rcases h'.sub i with e | e
    · rw [e]; exact h.sub i
    · exact .inr e
  · cases hc : at0 Tc i with
    | none => exact h.snd i m h1 hc
    | some m' =>
      refine Rch.mono (fun i m hm => hT i m (hs i m hm)) (fun i m hm hS => ?_) (h'.snd i m' hc h2)
      subst hS
      exact hk
  · cases hc : at0 Tc i with
    | none => exact h.clo i m h1 hc j n (h'.same j n hj)
    | some m' => exact h'.clo i m' hc h2 j n hj
  · by_cases e : j = k
    · exact h'.gone j e
    · have := h.vis j (by omega) hC
      rcases h'.sub j with e2 | e2
      · rw [e2]; exact this
      · exact e2
/-- Drop's own end -/
theorem Lp.one {T Tc : List (Option Mb)} {i0 : Nat} {m0 : Mb} (hm : at0 T i0 = some m0) (hl : i0 < T.length) (h : Lp T (T.set i0 none) (fun i => i = i0) (fun j => ∃ n, at0 T j = some n ∧ n.par = (i0 : Int) + 1) T.length Tc) : SpS T (fun i => i = i0) Tc := by
  have hset := fun j => at0_set T i0 j none hl
  have hsub : ∀ i, at0 Tc i = at0 T i ∨ at0 Tc i = none := fun i => by
    rcases h.sub i with e | e
    · rw [hset] at e
      split at e
      · exact .inr e
      · exact .inl e
    · exact .inr e
  have hg : at0 Tc i0 = none := by
    rcases h.sub i0 with e | e
    · rw [hset, if_pos rfl] at e; exact e
    · exact e
  have hlt : ∀ j n, at0 T j = some n → j < T.length := fun j n hj => by
    rcases Nat.lt_or_ge j T.length with h | h
    · exact h
    · unfold at0 at hj; rw [List.getD_eq_getElem?_getD, List.getElem?_eq_none h] at hj; cases hj
  refine ⟨by rw [h.len, List.length_set], hsub, fun i m h1 h2 => ?_, fun i hi => by rw [hi]; exact hg, fun i m h1 h2 j n hj => ?_⟩
  · by_cases e : i = i0
    · exact .base i m h1 e
    · exact h.snd i m (by rw [hset, if_neg (fun x => e x.symm)]; exact h1) h2
  · by_cases e : i = i0
    · subst e
      intro hp
      have hjT : at0 T j = some n := by
        rcases hsub j with e | e
        · rw [← e]; exact hj
        · rw [e] at hj; cases hj
      have := h.vis j (hlt j n hjT) ⟨n, hjT, hp⟩
      rw [this] at hj
      cases hj
    · exact h.clo i m (by rw [hset, if_neg (fun x => e x.symm)]; exact h1) h2 j n hj
/-- Expire's end -/
theorem Lp.all {T Tc : List (Option Mb)} {S : Nat → Prop} (h : Lp T T S S T.length Tc) (hS : ∀ i, S i → i < T.length) : SpS T S Tc :=
  ⟨h.len, h.sub, h.snd, fun i hi => h.vis i (hS i hi) hi, h.clo⟩
end Go.Proofs.Ytnjdmkgkpdebdaa
