/- A drawn region whose last operation calls (its result in a slot of its own), waits for all others; the others read. -/
import Derived.Test.YtdmaaigchfgmdaaGP
namespace Go.Proofs.Ytdmaaigchfgmdaa
open Go Go.RowKit Go.Sort
theorem put_put (a : Act) (d : Tmp) (v : Value) : (a.put (some d) v).put (some d) (a.tmps.getD d undef) = a := by
  obtain ⟨tm, df⟩ := a
  show Act.mk ((tm.setIfInBounds d v).setIfInBounds d (tm.getD d undef)) df = _
  congr 1
  apply Array.ext
  · simp
  · intro i h1 h2
    by_cases e : i = d
    · subst e
      have hlt : i < tm.size := h2
      simp [Array.getD, hlt]
    · rw [Array.getElem_setIfInBounds_ne (by simpa using h1) (Ne.symm e), Array.getElem_setIfInBounds_ne (by simpa using h2) (Ne.symm e)]
def lastC (d : Tmp) (l : List Oper) : Bool :=
  match l[l.length - 1]? with
  | some o => (o.dst == some d) && o.guard.isNone && (List.range (l.length - 1)).all (fun j => needs l o 3 j) && (List.range l.length).all (fun i => (l[i]?.map fun o => o.after.all fun e => !Region.binds .any e || decide (e.on < i)).getD true)
  | none => false
theorem lastC_spec {d : Tmp} {l : List Oper} (h : lastC d l = true) : ∃ o, l[l.length - 1]? = some o ∧ o.dst = some d ∧ o.guard = none ∧ (∀ j, j < l.length - 1 → needs l o 3 j = true) ∧ (∀ i o', l[i]? = some o' → ∀ e ∈ o'.after, Region.binds .any e = true → e.on < i) := by
  unfold lastC at h
  split at h
  · rename_i o ho
    simp only [Bool.and_eq_true] at h
    obtain ⟨⟨⟨h1, h2⟩, h3⟩, h4⟩ := h
    refine ⟨o, ho, by simpa using h1, by simpa using h2, fun j hj => List.all_eq_true.1 h3 j (List.mem_range.2 hj), fun i o' hi e he hb => ?_⟩
    have hlt : i < l.length := by
      rcases Nat.lt_or_ge i l.length with h | h
      · exact h
      · rw [List.getElem?_eq_none h] at hi; cases hi
    have := List.all_eq_true.1 h4 i (List.mem_range.2 hlt)
    rw [hi] at this
    simp only [Option.map_some, Option.getD_some] at this
    have h5 := (Array.all_eq_true_iff_forall_mem.1 this) e he
    rw [hb] at h5
    simpa using h5
  · cases h
theorem ready_neC {d : Tmp} {l : List Oper} (hB : lastC d l = true) {listed : Array Bool} (hs : listed.size = l.length) (hN : listed.getD (l.length - 1) true = false) : Region.ready .any l.toArray listed ≠ [] := by
  obtain ⟨o, ho, _, _, _, hfw⟩ := lastC_spec hB
  have hlt : l.length - 1 < l.length := by
    rcases Nat.lt_or_ge (l.length - 1) l.length with h | h
    · exact h
    · rw [List.getElem?_eq_none h] at ho; cases ho
  have key : ∀ n, n < l.length → listed.getD n true = false → ∃ j, j ≤ n ∧ listed.getD j true = false ∧ ∀ k, k < j → listed.getD k true = true := by
    intro n
    induction n using Nat.strongRecOn with
    | ind n ih =>
      intro hn h0
      by_cases hex : ∃ k, k < n ∧ listed.getD k true = false
      · obtain ⟨k, hk, hk0⟩ := hex
        obtain ⟨j, h1, h2, h3⟩ := ih k hk (by omega) hk0
        exact ⟨j, by omega, h2, h3⟩
      · refine ⟨n, Nat.le_refl _, h0, fun k hk => ?_⟩
        cases hv : listed.getD k true with
        | true => rfl
        | false => exact absurd ⟨k, hk, hv⟩ hex
  obtain ⟨j, h1, h2, h3⟩ := key _ hlt hN
  have hj : j < l.length := by omega
  have hm : j ∈ Region.ready .any l.toArray listed := by
    rw [mem_ready]
    refine ⟨h2, l[j], by simp [hj], fun e he hb => ?_⟩
    have := hfw j l[j] (List.getElem?_eq_getElem hj) e he hb
    have h4 := h3 e.on this
    have hes : e.on < listed.size := by omega
    simp only [Array.getD, hes] at h4 ⊢
    simpa using h4
  intro e
  rw [e] at hm
  cases hm
theorem wpAny_lastC {P : Program} {d : Tmp} {l : List Oper} {C : World → Prop} {Q' : Exit → Act → World → Prop} (hB : lastC d l = true) (hn : l ≠ []) : ∀ (fuel : Nat) (listed : Array Bool) (a : Act) (w : World), C w → listed.size = l.length → listed.getD (l.length - 1) true = false → Cls l listed →
    wpAnyQ P .any (idleLast l).toArray C (fun a => ∀ w, C w → ∀ x, wpOp P l.toArray Q' (l.length - 1) (fun a' w' => Q' .normal a' w') (a.put (some d) x) w) fuel listed a → wpAny P .any l.toArray Q' fuel listed a w
  | 0, listed, a, w, hC, hs, hN, hcl, h => by
    have h0 : Region.ready .any l.toArray listed = [] := by
      rw [List.eq_nil_iff_forall_not_mem]
      intro i hi
      have := (ready_same hn listed i).2 hi
      rw [h.1] at this
      cases this
    exact absurd h0 (ready_neC hB hs hN)
  | fuel + 1, listed, a, w, hC, hs, hN, hcl, h => by
    refine ⟨fun h0 => absurd h0 (ready_neC hB hs hN), fun i hi => ?_⟩
    have h1 := h.2 i ((ready_same hn listed i).2 hi)
    obtain ⟨hi0, oi, hoi, hall⟩ := mem_ready.1 hi
    have hoi : l[i]? = some oi := by simpa using hoi
    have hlt : i < l.length := by
      rcases Nat.lt_or_ge i l.length with h | h
      · exact h
      · rw [List.getElem?_eq_none h] at hoi; cases hoi
    rcases Nat.lt_or_ge (i + 1) l.length with hi1 | hi1
    · have e0 : (idleLast l).toArray[i]? = some oi := by simp [idle_same l i hi1, hoi]
      have hq : qOp P l.toArray C i (wpAnyQ P .any (idleLast l).toArray C (fun a => ∀ w, C w → ∀ x, wpOp P l.toArray Q' (l.length - 1) (fun a' w' => Q' .normal a' w') (a.put (some d) x) w) fuel (listed.setIfInBounds i true)) a := by
        unfold qOp at h1 ⊢
        rw [e0] at h1
        simp only [List.getElem?_toArray, hoi] at h1 ⊢
        rw [yielded_same hn] at h1
        exact h1
      exact wpOp_of_qOp hC (fun a' w' hw' h2 => wpAny_lastC hB hn fuel _ a' w' hw' (by simpa using hs) (by rw [getD_set_ne true (by omega)]; exact hN) (hcl.set hs hoi hall) h2) hq
    · have e : i = l.length - 1 := by omega
      subst e
      obtain ⟨o, ho, hd, hg, hw, _⟩ := lastC_spec hB
      rw [ho] at hoi
      injection hoi with hoi
      subst hoi
      have hdone : Region.ready .any l.toArray (listed.setIfInBounds (l.length - 1) true) = [] := by
        rw [List.eq_nil_iff_forall_not_mem]
        intro j hj
        obtain ⟨hj0, oj, hoj, _⟩ := mem_ready.1 hj
        have hoj : l[j]? = some oj := by simpa using hoj
        have hjl : j < l.length := by
          rcases Nat.lt_or_ge j l.length with h | h
          · exact h
          · rw [List.getElem?_eq_none h] at hoj; cases hoj
        by_cases hjN : j = l.length - 1
        · subst hjN
          have : l.length - 1 < listed.size := by omega
          simp [this] at hj0
        · rw [getD_set_ne true (by omega)] at hj0
          have := needs_listed hcl hall 3 j (hw j (by omega))
          have hjs : j < listed.size := by omega
          rw [getD_tf hjs false true, hj0] at this
          cases this
      have hdone0 : Region.ready .any (idleLast l).toArray (listed.setIfInBounds (l.length - 1) true) = [] := by
        rw [List.eq_nil_iff_forall_not_mem]
        intro j hj
        have := (ready_same hn _ j).1 hj
        rw [hdone] at this
        cases this
      have hQ0 : ∀ w, C w → wpOp P l.toArray Q' (l.length - 1) (fun a' w' => Q' .normal a' w') a w := by
        have e0 : (idleLast l).toArray[l.length - 1]? = some (idle o) := by simp [idle_last l hn, ho]
        unfold qOp at h1
        rw [e0] at h1
        have hwd : Region.wanted (idle o) (yielded (idleLast l).toArray a.tmps) = true := by simp [Region.wanted, idle, hg]
        simp only [hwd, if_true] at h1
        obtain ⟨v, _, h2⟩ := h1
        have hq2 : ∀ w, C w → ∀ x, wpOp P l.toArray Q' (l.length - 1) (fun a' w' => Q' .normal a' w') ((a.put (some d) v).put (some d) x) w := by
          have hpd : a.put (idle o).dst v = a.put (some d) v := by show a.put o.dst v = _; rw [hd]
          rw [hpd] at h2
          cases fuel with
          | zero => exact h2.2
          | succ f => exact h2.1 hdone0
        intro w hw
        have := hq2 w hw (a.tmps.getD d undef)
        rwa [put_put] at this
      refine wpOp_mono (fun a' w' hq => ?_) (hQ0 w hC)
      cases fuel with
      | zero => exact ⟨hdone, hq⟩
      | succ f => exact ⟨fun _ => hq, fun j hj => by rw [hdone] at hj; cases hj⟩
theorem wp_region_lastC {P : Program} {id : Nat} {Q : Exit → Act → World → Prop} {a : Act} {w : World} {l : List Oper} (d : Tmp) (hm : P.follows .mixedOrders = true) (hL : lastC d l = true) (hn : l.isEmpty = false) (hB : Region.lexB .any (idleLast l).toArray = true)
    (h : wpQuiet P (idleLast l).toArray (fun w' => ∃ n, w' = w.drewN n) (fun a => ∀ w', (∃ n, w' = w.drewN n) → ∀ x, wpOp P l.toArray Q (l.length - 1) (fun a' w'' => Q .normal a' w'') (a.put (some d) x) w') (idleLast l) a) : (Code.region id l.toArray true).wp P Q a w := by
  have hne : l ≠ [] := by intro e; rw [e] at hn; cases hn
  simp only [Region.lexB, Bool.and_eq_true] at hB
  refine wp_region_any hm (wpAny_lastC (C := fun w' => ∃ n, w' = w.drewN n) hL hne _ _ _ _ ⟨1, rfl⟩ (by simp) ?_ (cls_none _ _) ?_)
  · have hp : 0 < l.length := List.length_pos_iff.2 hne
    have hp2 : l.length - 1 < l.length := by omega
    simp [hp2]
  · have := wpAnyQ_lex (C := fun w' => ∃ n, w' = w.drewN n) (md := .any) hB.1 (idleLast l) 0 (Array.replicate (idleLast l).toArray.size false) a (by simp) (by simpa using hB.2) h
    simpa [idle_len] using this
/-- a call, the last operation -/
theorem wpOp_callL {ops : Array Oper} {Q : Exit → Act → World → Prop} {i0 : Nat} {K : Act → World → Prop} {a : Act} {w : World} (o : Oper) (ho : ops[i0]? = some o) (hgd : o.guard = none) (f : FuncId) (args : Array Value) (v : Value) {R : World → Prop}
    (h1 : (execOp a.eval o).run Try.prog w = .ok (.enter f args) w) (hc : Calls Try.prog f args w fun e w' => e = .returned v ∧ R w')
    (hK : ∀ w', R w' → K (a.put o.dst v) w') : wpOp Try.prog ops Q i0 K a w := by
  unfold wpOp
  have hw : Region.wanted o (yielded ops a.tmps) = true := by simp [Region.wanted, hgd]
  simp only [ho, hw, if_true]
  refine .inl ?_
  unfold Oper.wp
  rw [h1, Oper.upon_enter]
  refine hc.mono ?_
  rintro e w' ⟨rfl, hr⟩
  exact hK w' hr
end Go.Proofs.Ytdmaaigchfgmdaa
