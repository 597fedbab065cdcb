/- A region that draws its order, whose last operation waits for all others and stores; the others only read. -/
import Derived.Test.YtocimfhagkcnlaaDoorRows
import Derived.WalkKit
import Derived.Deep.QuietTactic
import Derived.BigQuiet
import Derived.Deep.RegionWith
namespace Go.Proofs.YtocimfhagkcnlaaDoor
open Go Go.RowKit
/-- an operation that does nothing, in the last one's place -/
def idle (o : Oper) : Oper := { o with op := .move (.const (.bool true)) }
def idleLast : List Oper → List Oper
  | [] => []
  | [o] => [idle o]
  | o :: p :: r => o :: idleLast (p :: r)
theorem idle_len : ∀ l : List Oper, (idleLast l).length = l.length
  | [] => rfl
  | [_] => rfl
  | _ :: p :: r => by rw [idleLast, List.length_cons, List.length_cons, idle_len (p :: r)]
theorem idle_same : ∀ (l : List Oper) (i : Nat), i + 1 < l.length → (idleLast l)[i]? = l[i]?
  | [], i, h => by simp at h
  | [_], i, h => by simp at h
  | o :: p :: r, 0, _ => by rw [idleLast]; rfl
  | o :: p :: r, i + 1, h => by rw [idleLast, List.getElem?_cons_succ, List.getElem?_cons_succ]; exact idle_same (p :: r) i (by simp at h ⊢; omega)
theorem idle_last : ∀ (l : List Oper), l ≠ [] → (idleLast l)[l.length - 1]? = (l[l.length - 1]?).map idle
  | [], h => absurd rfl h
  | [_], _ => rfl
  | o :: p :: r, _ => by
    have := idle_last (p :: r) (by simp)
    rw [idleLast]
    simpa using this
/-- the last one stores, and waits for all others; all wait for earlier ones alone -/
def lastB (l : List Oper) : Bool :=
  match l[l.length - 1]? with
  | some o => o.dst.isNone && o.guard.isNone && (List.range (l.length - 1)).all (fun j => o.after.any fun e => Region.binds .any e && e.on == j) && (List.range l.length).all (fun i => (l[i]?.map fun o => o.after.all fun e => !Region.binds .any e || decide (e.on < i)).getD true)
  | none => false
theorem lastB_spec {l : List Oper} (h : lastB l = true) : ∃ o, l[l.length - 1]? = some o ∧ o.dst = none ∧ o.guard = none ∧ (∀ j, j < l.length - 1 → ∃ e ∈ o.after, Region.binds .any e = true ∧ e.on = j) ∧ (∀ i o', l[i]? = some o' → ∀ e ∈ o'.after, Region.binds .any e = true → e.on < i) := by
  unfold lastB at h
  split at h
  · rename_i o ho
    simp only [Bool.and_eq_true] at h
    obtain ⟨⟨⟨h1, h2⟩, h3⟩, h4⟩ := h
    refine ⟨o, ho, by simpa using h1, by simpa using h2, fun j hj => ?_, fun i o' hi e he hb => ?_⟩
    · have := List.all_eq_true.1 h3 j (List.mem_range.2 hj)
      rw [Array.any_eq_true] at this
      obtain ⟨i, hi, hh⟩ := this
      simp only [Bool.and_eq_true, beq_iff_eq] at hh
      exact ⟨o.after[i], Array.getElem_mem hi, hh.1, hh.2⟩
    · have hlt : i < l.length := by
        rcases Nat.lt_or_ge i l.length with h | h
        · exact h
        · rw [List.getElem?_eq_none h] at hi; cases hi
      have := List.all_eq_true.1 h4 i (List.mem_range.2 hlt)
      rw [hi] at this
      simp only [Option.map_some, Option.getD_some] at this
      have h5 := (Array.all_eq_true_iff_forall_mem.1 this) e he
      rw [hb] at h5
      simpa using h5
  · cases h
theorem ready_same {l : List Oper} (hn : l ≠ []) (listed : Array Bool) (i : Nat) : i ∈ Region.ready .any (idleLast l).toArray listed ↔ i ∈ Region.ready .any l.toArray listed := by
  rw [mem_ready, mem_ready]
  have hl := idle_len l
  have hp : 0 < l.length := List.length_pos_iff.2 hn
  have key : ∀ o, l[i]? = some o → ∃ o', (idleLast l)[i]? = some o' ∧ o'.after = o.after := fun o ho => by
    have hlt : i < l.length := by
      rcases Nat.lt_or_ge i l.length with h | h
      · exact h
      · rw [List.getElem?_eq_none h] at ho; cases ho
    rcases Nat.lt_or_ge (i + 1) l.length with h | h
    · exact ⟨o, by rw [idle_same l i h]; exact ho, rfl⟩
    · have e : i = l.length - 1 := by omega
      subst e
      exact ⟨idle o, by rw [idle_last l hn, ho]; rfl, rfl⟩
  constructor
  · rintro ⟨h0, o', ho', hall⟩
    have ho' : (idleLast l)[i]? = some o' := by simpa using ho'
    have hlt : i < l.length := by
      rcases Nat.lt_or_ge i l.length with h | h
      · exact h
      · rw [List.getElem?_eq_none (by omega)] at ho'; cases ho'
    obtain ⟨o2, k1, k2⟩ := key l[i] (List.getElem?_eq_getElem hlt)
    rw [k1] at ho'
    injection ho' with ho'
    subst ho'
    exact ⟨h0, l[i], by simp [hlt], fun e he hb => hall e (by rw [k2]; exact he) hb⟩
  · rintro ⟨h0, o, ho, hall⟩
    obtain ⟨o2, k1, k2⟩ := key o (by simpa using ho)
    exact ⟨h0, o2, by simpa using k1, fun e he hb => hall e (by rw [← k2]; exact he) hb⟩
theorem yielded_same {l : List Oper} (hn : l ≠ []) (tmps : Array Value) : yielded (idleLast l).toArray tmps = yielded l.toArray tmps := by
  funext j
  unfold yielded
  have e : ((idleLast l).toArray[j]?).bind (·.dst) = (l.toArray[j]?).bind (·.dst) := by
    have hl := idle_len l
    have hp : 0 < l.length := List.length_pos_iff.2 hn
    simp only [List.getElem?_toArray]
    rcases Nat.lt_or_ge (j + 1) l.length with h | h
    · rw [idle_same l j h]
    · rcases Nat.lt_or_ge j l.length with h' | h'
      · have e : j = l.length - 1 := by omega
        rw [e, idle_last l hn]
        cases l[l.length - 1]? <;> rfl
      · rw [List.getElem?_eq_none (by omega), List.getElem?_eq_none h']
  rw [e]
theorem put_none (a : Act) (v : Value) : a.put none v = a := rfl
theorem ready_ne {l : List Oper} (hB : lastB l = true) {listed : Array Bool} (hs : listed.size = l.length) (hN : listed.getD (l.length - 1) true = false) : Region.ready .any l.toArray listed ≠ [] := by
  obtain ⟨o, ho, _, _, _, hfw⟩ := lastB_spec hB
  have hlt : l.length - 1 < l.length := by
    rcases Nat.lt_or_ge (l.length - 1) l.length with h | h
    · exact h
    · rw [List.getElem?_eq_none h] at ho; cases ho
  -- the first that is not listed
  have key : ∀ n, n < l.length → listed.getD n true = false → ∃ j, j ≤ n ∧ listed.getD j true = false ∧ ∀ k, k < j → listed.getD k true = true := by
    intro n
    induction n using Nat.strongRecOn with
    | ind n ih =>
      intro hn h0
      by_cases hex : ∃ k, k < n ∧ listed.getD k true = false
      · obtain ⟨k, hk, hk0⟩ := hex
        obtain ⟨j, h1, h2, h3⟩ := ih k hk (by omega) hk0
        exact ⟨j, by omega, h2, h3⟩
      · refine ⟨n, Nat.le_refl _, h0, fun k hk => ?_⟩
        cases hv : listed.getD k true with
        | true => rfl
        | false => exact absurd ⟨k, hk, hv⟩ hex
  obtain ⟨j, h1, h2, h3⟩ := key _ hlt hN
  have hj : j < l.length := by omega
  have hm : j ∈ Region.ready .any l.toArray listed := by
    rw [mem_ready]
    refine ⟨h2, l[j], by simp [hj], fun e he hb => ?_⟩
    have := hfw j l[j] (List.getElem?_eq_getElem hj) e he hb
    have h4 := h3 e.on this
    have hes : e.on < listed.size := by omega
    simp only [Array.getD, hes] at h4 ⊢
    simpa using h4
  intro e
  rw [e] at hm
  cases hm
theorem wpAny_last {P : Program} {l : List Oper} {C : World → Prop} {Q' : Exit → Act → World → Prop} (hB : lastB l = true) (hn : l ≠ []) : ∀ (fuel : Nat) (listed : Array Bool) (a : Act) (w : World), C w → listed.size = l.length → listed.getD (l.length - 1) true = false →
    wpAnyQ P .any (idleLast l).toArray C (fun a => ∀ w, C w → wpOp P l.toArray Q' (l.length - 1) (fun a' w' => Q' .normal a' w') a w) fuel listed a → wpAny P .any l.toArray Q' fuel listed a w
  | 0, listed, a, w, hC, hs, hN, h => by
    have h0 : Region.ready .any l.toArray listed = [] := by
      rw [List.eq_nil_iff_forall_not_mem]
      intro i hi
      have := (ready_same hn listed i).2 hi
      rw [h.1] at this
      cases this
    exact absurd h0 (ready_ne hB hs hN)
  | fuel + 1, listed, a, w, hC, hs, hN, h => by
    refine ⟨fun h0 => absurd h0 (ready_ne hB hs hN), fun i hi => ?_⟩
    have h1 := h.2 i ((ready_same hn listed i).2 hi)
    obtain ⟨hi0, oi, hoi, hall⟩ := mem_ready.1 hi
    have hoi : l[i]? = some oi := by simpa using hoi
    have hlt : i < l.length := by
      rcases Nat.lt_or_ge i l.length with h | h
      · exact h
      · rw [List.getElem?_eq_none h] at hoi; cases hoi
    rcases Nat.lt_or_ge (i + 1) l.length with hi1 | hi1
    · -- another one
      have e0 : (idleLast l).toArray[i]? = some oi := by simp [idle_same l i hi1, hoi]
      have hq : qOp P l.toArray C i (wpAnyQ P .any (idleLast l).toArray C (fun a => ∀ w, C w → wpOp P l.toArray Q' (l.length - 1) (fun a' w' => Q' .normal a' w') a w) fuel (listed.setIfInBounds i true)) a := by
        unfold qOp at h1 ⊢
        rw [e0] at h1
        simp only [List.getElem?_toArray, hoi] at h1 ⊢
        rw [yielded_same hn] at h1
        exact h1
      exact wpOp_of_qOp hC (fun a' w' hw' h2 => wpAny_last hB hn fuel _ a' w' hw' (by simpa using hs) (by rw [getD_set_ne true (by omega)]; exact hN) h2) hq
    · -- the last one
      have e : i = l.length - 1 := by omega
      subst e
      obtain ⟨o, ho, hd, hg, hw, _⟩ := lastB_spec hB
      rw [ho] at hoi
      injection hoi with hoi
      subst hoi
      have hdone : Region.ready .any l.toArray (listed.setIfInBounds (l.length - 1) true) = [] := by
        rw [List.eq_nil_iff_forall_not_mem]
        intro j hj
        obtain ⟨hj0, oj, hoj, _⟩ := mem_ready.1 hj
        have hoj : l[j]? = some oj := by simpa using hoj
        have hjl : j < l.length := by
          rcases Nat.lt_or_ge j l.length with h | h
          · exact h
          · rw [List.getElem?_eq_none h] at hoj; cases hoj
        by_cases hjN : j = l.length - 1
        · subst hjN
          have : l.length - 1 < listed.size := by omega
          simp [this] at hj0
        · rw [getD_set_ne true (by omega)] at hj0
          obtain ⟨e, he, hb, hon⟩ := hw j (by omega)
          have := hall e he hb
          rw [hon] at this
          have hjs : j < listed.size := by omega
          simp [hjs] at hj0 this
          rw [hj0] at this
          cases this
      have hdone0 : Region.ready .any (idleLast l).toArray (listed.setIfInBounds (l.length - 1) true) = [] := by
        rw [List.eq_nil_iff_forall_not_mem]
        intro j hj
        have := (ready_same hn _ j).1 hj
        rw [hdone] at this
        cases this
      have hQ0 : ∀ w, C w → wpOp P l.toArray Q' (l.length - 1) (fun a' w' => Q' .normal a' w') a w := by
        have e0 : (idleLast l).toArray[l.length - 1]? = some (idle o) := by simp [idle_last l hn, ho]
        unfold qOp at h1
        rw [e0] at h1
        have hwd : Region.wanted (idle o) (yielded (idleLast l).toArray a.tmps) = true := by simp [Region.wanted, idle, hg]
        simp only [hwd, if_true] at h1
        obtain ⟨v, _, h2⟩ := h1
        have hpd : a.put (idle o).dst v = a := by show a.put o.dst v = a; rw [hd]; rfl
        rw [hpd] at h2
        cases fuel with
        | zero => exact h2.2
        | succ f => exact h2.1 hdone0
      refine wpOp_mono (fun a' w' hq => ?_) (hQ0 w hC)
      cases fuel with
      | zero => exact ⟨hdone, hq⟩
      | succ f => exact ⟨fun _ => hq, fun j hj => by rw [hdone] at hj; cases hj⟩
/-- the law, at operations that are written out -/
theorem wp_region_last {P : Program} {id : Nat} {Q : Exit → Act → World → Prop} {a : Act} {w : World} {l : List Oper} (hm : P.follows .mixedOrders = true) (hL : lastB l = true) (hn : l.isEmpty = false) (hB : Region.lexB .any (idleLast l).toArray = true)
    (h : wpQuiet P (idleLast l).toArray (fun w' => ∃ n, w' = w.drewN n) (fun a => ∀ w', (∃ n, w' = w.drewN n) → wpOp P l.toArray Q (l.length - 1) (fun a' w'' => Q .normal a' w'') a w') (idleLast l) a) : (Code.region id l.toArray true).wp P Q a w := by
  have hne : l ≠ [] := by intro e; rw [e] at hn; cases hn
  simp only [Region.lexB, Bool.and_eq_true] at hB
  refine wp_region_any hm (wpAny_last (C := fun w' => ∃ n, w' = w.drewN n) hL hne _ _ _ _ ⟨1, rfl⟩ (by simp) ?_ ?_)
  · have hp : 0 < l.length := List.length_pos_iff.2 hne
    have hp2 : l.length - 1 < l.length := by omega
    simp [hp2]
  · have := wpAnyQ_lex (C := fun w' => ∃ n, w' = w.drewN n) (md := .any) hB.1 (idleLast l) 0 (Array.replicate (idleLast l).toArray.size false) a (by simp) (by simpa using hB.2) h
    simpa [idle_len] using this
end Go.Proofs.YtocimfhagkcnlaaDoor
