/- GL's law, where the last operation waits for all others through others. -/
import Derived.Test.YtocimfhagkcnlaaDoorGL
import Derived.Lib.QuietBelow
namespace Go.Proofs.YtocimfhagkcnlaaDoor
open Go Go.RowKit Go.Sort
/-- is it waited for, in so many steps -/
def needs (l : List Oper) (o : Oper) : Nat → Nat → Bool
  | 0, j => o.after.any fun e => Region.binds .any e && e.on == j
  | f + 1, j => needs l o f j || (List.range l.length).any (fun i => needs l o f i && ((l[i]?.map fun o' => o'.after.any fun e => Region.binds .any e && e.on == j).getD false))
def lastT (l : List Oper) : Bool :=
  match l[l.length - 1]? with
  | some o => o.dst.isNone && o.guard.isNone && (List.range (l.length - 1)).all (fun j => needs l o 3 j) && (List.range l.length).all (fun i => (l[i]?.map fun o => o.after.all fun e => !Region.binds .any e || decide (e.on < i)).getD true)
  | none => false
/-- what is listed has what it waits for listed -/
def Cls (l : List Oper) (listed : Array Bool) : Prop := ∀ (i : Nat) (o : Oper), l[i]? = some o → listed.getD i false = true → ∀ e ∈ o.after, Region.binds .any e = true → listed.getD e.on false = true
theorem any_after {a : Array Edge} {j : Nat} (h : (a.any fun e => Region.binds .any e && e.on == j) = true) : ∃ e ∈ a, Region.binds .any e = true ∧ e.on = j := by
  rw [Array.any_eq_true] at h
  obtain ⟨i, hi, hh⟩ := h
  simp only [Bool.and_eq_true, beq_iff_eq] at hh
  exact ⟨a[i], Array.getElem_mem hi, hh.1, hh.2⟩
theorem needs_listed {l : List Oper} {o : Oper} {listed : Array Bool} (hc : Cls l listed) (hall : ∀ e ∈ o.after, Region.binds .any e = true → listed.getD e.on false = true) : ∀ f j, needs l o f j = true → listed.getD j false = true
  | 0, j, h => by
    obtain ⟨e, he, hb, hon⟩ := any_after h
    rw [← hon]; exact hall e he hb
  | f + 1, j, h => by
    rw [needs, Bool.or_eq_true] at h
    rcases h with h | h
    · exact needs_listed hc hall f j h
    · rw [List.any_eq_true] at h
      obtain ⟨i, hi, hh⟩ := h
      rw [Bool.and_eq_true] at hh
      have hli := needs_listed hc hall f i hh.1
      have hlt := List.mem_range.1 hi
      have hg := hh.2
      rw [List.getElem?_eq_getElem hlt] at hg
      obtain ⟨e, he, hb, hon⟩ := any_after hg
      rw [← hon]
      exact hc i _ (List.getElem?_eq_getElem hlt) hli e he hb
theorem lastT_spec {l : List Oper} (h : lastT l = true) : ∃ o, l[l.length - 1]? = some o ∧ o.dst = none ∧ o.guard = none ∧ (∀ j, j < l.length - 1 → needs l o 3 j = true) ∧ (∀ i o', l[i]? = some o' → ∀ e ∈ o'.after, Region.binds .any e = true → e.on < i) := by
  unfold lastT at h
  split at h
  · rename_i o ho
    simp only [Bool.and_eq_true] at h
    obtain ⟨⟨⟨h1, h2⟩, h3⟩, h4⟩ := h
    refine ⟨o, ho, by simpa using h1, by simpa using h2, fun j hj => List.all_eq_true.1 h3 j (List.mem_range.2 hj), fun i o' hi e he hb => ?_⟩
    have hlt : i < l.length := by
      rcases Nat.lt_or_ge i l.length with h | h
      · exact h
      · rw [List.getElem?_eq_none h] at hi; cases hi
    have := List.all_eq_true.1 h4 i (List.mem_range.2 hlt)
    rw [hi] at this
    simp only [Option.map_some, Option.getD_some] at this
    have h5 := (Array.all_eq_true_iff_forall_mem.1 this) e he
    rw [hb] at h5
    simpa using h5
  · cases h
theorem getD_tf {listed : Array Bool} {i : Nat} (h : i < listed.size) (a b : Bool) : listed.getD i a = listed.getD i b := by simp [Array.getD, h]
theorem Cls.set {l : List Oper} {listed : Array Bool} (hc : Cls l listed) (hs : listed.size = l.length) {i : Nat} {oi : Oper} (hoi : l[i]? = some oi) (hall : ∀ e ∈ oi.after, Region.binds .any e = true → listed.getD e.on false = true) : Cls l (listed.setIfInBounds i true) := by
  have mono : ∀ j, listed.getD j false = true → (listed.setIfInBounds i true).getD j false = true := fun j hj => by
    by_cases e : j = i
    · subst e
      have hlt : j < l.length := by
        rcases Nat.lt_or_ge j l.length with h | h
        · exact h
        · rw [List.getElem?_eq_none h] at hoi; cases hoi
      have : j < listed.size := by omega
      simp [this]
    · rw [getD_set_ne false (by omega)]; exact hj
  intro j o ho hj e he hb
  by_cases hji : j = i
  · subst hji
    rw [hoi] at ho
    injection ho with ho
    subst ho
    exact mono _ (hall e he hb)
  · rw [getD_set_ne false (by omega)] at hj
    exact mono _ (hc j o ho hj e he hb)
theorem ready_neT {l : List Oper} (hB : lastT l = true) {listed : Array Bool} (hs : listed.size = l.length) (hN : listed.getD (l.length - 1) true = false) : Region.ready .any l.toArray listed ≠ [] := by
  obtain ⟨o, ho, _, _, _, hfw⟩ := lastT_spec hB
  have hlt : l.length - 1 < l.length := by
    rcases Nat.lt_or_ge (l.length - 1) l.length with h | h
    · exact h
    · rw [List.getElem?_eq_none h] at ho; cases ho
  have key : ∀ n, n < l.length → listed.getD n true = false → ∃ j, j ≤ n ∧ listed.getD j true = false ∧ ∀ k, k < j → listed.getD k true = true := by
    intro n
    induction n using Nat.strongRecOn with
    | ind n ih =>
      intro hn h0
      by_cases hex : ∃ k, k < n ∧ listed.getD k true = false
      · obtain ⟨k, hk, hk0⟩ := hex
        obtain ⟨j, h1, h2, h3⟩ := ih k hk (by omega) hk0
        exact ⟨j, by omega, h2, h3⟩
      · refine ⟨n, Nat.le_refl _, h0, fun k hk => ?_⟩
        cases hv : listed.getD k true with
        | true => rfl
        | false => exact absurd ⟨k, hk, hv⟩ hex
  obtain ⟨j, h1, h2, h3⟩ := key _ hlt hN
  have hj : j < l.length := by omega
  have hm : j ∈ Region.ready .any l.toArray listed := by
    rw [mem_ready]
    refine ⟨h2, l[j], by simp [hj], fun e he hb => ?_⟩
    have := hfw j l[j] (List.getElem?_eq_getElem hj) e he hb
    have h4 := h3 e.on this
    have hes : e.on < listed.size := by omega
    simp only [Array.getD, hes] at h4 ⊢
    simpa using h4
  intro e
  rw [e] at hm
  cases hm
theorem wpAny_lastT {P : Program} {l : List Oper} {C : World → Prop} {Q' : Exit → Act → World → Prop} (hB : lastT l = true) (hn : l ≠ []) : ∀ (fuel : Nat) (listed : Array Bool) (a : Act) (w : World), C w → listed.size = l.length → listed.getD (l.length - 1) true = false → Cls l listed →
    wpAnyQ P .any (idleLast l).toArray C (fun a => ∀ w, C w → wpOp P l.toArray Q' (l.length - 1) (fun a' w' => Q' .normal a' w') a w) fuel listed a → wpAny P .any l.toArray Q' fuel listed a w
  | 0, listed, a, w, hC, hs, hN, hcl, h => by
    have h0 : Region.ready .any l.toArray listed = [] := by
      rw [List.eq_nil_iff_forall_not_mem]
      intro i hi
      have := (ready_same hn listed i).2 hi
      rw [h.1] at this
      cases this
    exact absurd h0 (ready_neT hB hs hN)
  | fuel + 1, listed, a, w, hC, hs, hN, hcl, h => by
    refine ⟨fun h0 => absurd h0 (ready_neT hB hs hN), fun i hi => ?_⟩
    have h1 := h.2 i ((ready_same hn listed i).2 hi)
    obtain ⟨hi0, oi, hoi, hall⟩ := mem_ready.1 hi
    have hoi : l[i]? = some oi := by simpa using hoi
    have hlt : i < l.length := by
      rcases Nat.lt_or_ge i l.length with h | h
      · exact h
      · rw [List.getElem?_eq_none h] at hoi; cases hoi
    rcases Nat.lt_or_ge (i + 1) l.length with hi1 | hi1
    · have e0 : (idleLast l).toArray[i]? = some oi := by simp [idle_same l i hi1, hoi]
      have hq : qOp P l.toArray C i (wpAnyQ P .any (idleLast l).toArray C (fun a => ∀ w, C w → wpOp P l.toArray Q' (l.length - 1) (fun a' w' => Q' .normal a' w') a w) fuel (listed.setIfInBounds i true)) a := by
        unfold qOp at h1 ⊢
        rw [e0] at h1
        simp only [List.getElem?_toArray, hoi] at h1 ⊢
        rw [yielded_same hn] at h1
        exact h1
      exact wpOp_of_qOp hC (fun a' w' hw' h2 => wpAny_lastT hB hn fuel _ a' w' hw' (by simpa using hs) (by rw [getD_set_ne true (by omega)]; exact hN) (hcl.set hs hoi hall) h2) hq
    · have e : i = l.length - 1 := by omega
      subst e
      obtain ⟨o, ho, hd, hg, hw, _⟩ := lastT_spec hB
      rw [ho] at hoi
      injection hoi with hoi
      subst hoi
      have hdone : Region.ready .any l.toArray (listed.setIfInBounds (l.length - 1) true) = [] := by
        rw [List.eq_nil_iff_forall_not_mem]
        intro j hj
        obtain ⟨hj0, oj, hoj, _⟩ := mem_ready.1 hj
        have hoj : l[j]? = some oj := by simpa using hoj
        have hjl : j < l.length := by
          rcases Nat.lt_or_ge j l.length with h | h
          · exact h
          · rw [List.getElem?_eq_none h] at hoj; cases hoj
        by_cases hjN : j = l.length - 1
        · subst hjN
          have : l.length - 1 < listed.size := by omega
          simp [this] at hj0
        · rw [getD_set_ne true (by omega)] at hj0
          have := needs_listed hcl hall 3 j (hw j (by omega))
          have hjs : j < listed.size := by omega
          rw [getD_tf hjs false true, hj0] at this
          cases this
      have hdone0 : Region.ready .any (idleLast l).toArray (listed.setIfInBounds (l.length - 1) true) = [] := by
        rw [List.eq_nil_iff_forall_not_mem]
        intro j hj
        have := (ready_same hn _ j).1 hj
        rw [hdone] at this
        cases this
      have hQ0 : ∀ w, C w → wpOp P l.toArray Q' (l.length - 1) (fun a' w' => Q' .normal a' w') a w := by
        have e0 : (idleLast l).toArray[l.length - 1]? = some (idle o) := by simp [idle_last l hn, ho]
        unfold qOp at h1
        rw [e0] at h1
        have hwd : Region.wanted (idle o) (yielded (idleLast l).toArray a.tmps) = true := by simp [Region.wanted, idle, hg]
        simp only [hwd, if_true] at h1
        obtain ⟨v, _, h2⟩ := h1
        have hpd : a.put (idle o).dst v = a := by show a.put o.dst v = a; rw [hd]; rfl
        rw [hpd] at h2
        cases fuel with
        | zero => exact h2.2
        | succ f => exact h2.1 hdone0
      refine wpOp_mono (fun a' w' hq => ?_) (hQ0 w hC)
      cases fuel with
      | zero => exact ⟨hdone, hq⟩
      | succ f => exact ⟨fun _ => hq, fun j hj => by rw [hdone] at hj; cases hj⟩
theorem cls_none (l : List Oper) (n : Nat) : Cls l (Array.replicate n false) := fun i o _ h => by
  have : (Array.replicate n false).getD i false = false := by
    unfold Array.getD
    split <;> simp
  rw [this] at h; cases h
/-- the law, at operations that are written out -/
theorem wp_region_lastT {P : Program} {id : Nat} {Q : Exit → Act → World → Prop} {a : Act} {w : World} {l : List Oper} (hm : P.follows .mixedOrders = true) (hL : lastT l = true) (hn : l.isEmpty = false) (hB : Region.lexB .any (idleLast l).toArray = true)
    (h : wpQuiet P (idleLast l).toArray (fun w' => ∃ n, w' = w.drewN n) (fun a => ∀ w', (∃ n, w' = w.drewN n) → wpOp P l.toArray Q (l.length - 1) (fun a' w'' => Q .normal a' w'') a w') (idleLast l) a) : (Code.region id l.toArray true).wp P Q a w := by
  have hne : l ≠ [] := by intro e; rw [e] at hn; cases hn
  simp only [Region.lexB, Bool.and_eq_true] at hB
  refine wp_region_any hm (wpAny_lastT (C := fun w' => ∃ n, w' = w.drewN n) hL hne _ _ _ _ ⟨1, rfl⟩ (by simp) ?_ (cls_none _ _) ?_)
  · have hp : 0 < l.length := List.length_pos_iff.2 hne
    have hp2 : l.length - 1 < l.length := by omega
    simp [hp2]
  · have := wpAnyQ_lex (C := fun w' => ∃ n, w' = w.drewN n) (md := .any) hB.1 (idleLast l) 0 (Array.replicate (idleLast l).toArray.size false) a (by simp) (by simpa using hB.2) h
    simpa [idle_len] using this
/-- the same, where the calls make blocks of their own -/
theorem wp_region_last_belowT {P : Program} {id : Nat} {Q : Exit → Act → World → Prop} {a : Act} {w : World} {l : List Oper} (hm : P.follows .mixedOrders = true) (hL : lastT l = true) (hn : l.isEmpty = false) (hB : Region.lexB .any (idleLast l).toArray = true)
    (h : wpQuiet P (idleLast l).toArray (fun w' => ∃ p : Regrown, w' = grow (redrawn w p.d) p.os) (fun a => ∀ w', (∃ p : Regrown, w' = grow (redrawn w p.d) p.os) → wpOp P l.toArray Q (l.length - 1) (fun a' w'' => Q .normal a' w'') a w') (idleLast l) a) : (Code.region id l.toArray true).wp P Q a w := by
  have hne : l ≠ [] := by intro e; rw [e] at hn; cases hn
  simp only [Region.lexB, Bool.and_eq_true] at hB
  refine wp_region_any hm (wpAny_lastT (C := fun w' => ∃ p : Regrown, w' = grow (redrawn w p.d) p.os) hL hne _ _ _ _ ⟨⟨w.drawn + 1, #[]⟩, by rw [grow_empty]; rfl⟩ (by simp) ?_ (cls_none _ _) ?_)
  · have hp : 0 < l.length := List.length_pos_iff.2 hne
    have hp2 : l.length - 1 < l.length := by omega
    simp [hp2]
  · have := wpAnyQ_lex (C := fun w' => ∃ p : Regrown, w' = grow (redrawn w p.d) p.os) (md := .any) hB.1 (idleLast l) 0 (Array.replicate (idleLast l).toArray.size false) a (by simp) (by simpa using hB.2) h
    simpa [idle_len] using this
end Go.Proofs.YtocimfhagkcnlaaDoor
