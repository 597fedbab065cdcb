/- A drawn region whose last operation stores, and waits for all others: the others go as in a held region (what is loaded may be overwritten by that store; calls may write elsewhere). -/
import Derived.Test.YtocimfhagkcnlaaDoorGN
import Derived.Deep.RegionHeld3
namespace Go.Proofs.YtocimfhagkcnlaaDoor
open Go Go.RowKit
/-- behind all others the last one is carried out -/
def lastQ (P : Program) (l : List Oper) (Q : Exit → Act → World → Prop) : Exit → Act → World → Prop
  | .normal, a, w => wpOp P l.toArray Q (l.length - 1) (fun a' w' => Q .normal a' w') a w
  | _, _, _ => False
theorem wpOp_lastQ {P : Program} {l : List Oper} {Q : Exit → Act → World → Prop} {ops : Array Oper} {i : Nat} {K : Act → World → Prop} {a : Act} {w : World} (h : wpOp P ops (lastQ P l Q) i K a w) : wpOp P ops Q i K a w := by
  unfold wpOp at *
  split
  · rename_i e; simpa [e] using h
  · rename_i o e
    simp only [e] at h
    split
    · rename_i hw
      simp only [hw, if_true] at h
      rcases h with h | ⟨h1, h2⟩
      · refine .inl ?_
        unfold Oper.wp at *
        generalize (execOp a.eval o).run P w = r at *
        cases r with
        | ok n w' =>
          cases n with
          | value v => exact h
          | skip => exact h
          | defer d => exact h
          | enter f args =>
            refine Calls.mono h fun e w'' he => ?_
            cases e with
            | returned v => exact he
            | panicked c => exact absurd he id
            | outgrown => exact absurd he (fun ⟨_, _, h⟩ => h)
          | row row args => exact h
          | _ => exact h
        | halt x w' =>
          cases x <;> first | exact h | exact absurd h id
      · exact absurd h2 (fun ⟨_, _, h⟩ => h)
    · rename_i hw
      simpa [hw] using h
theorem wpAny_lastH {P : Program} {l : List Oper} {S : World → Prop} {Q' : Exit → Act → World → Prop} (hB : lastT l = true) (hn : l ≠ []) : ∀ (fuel : Nat) (listed : Array Bool) (a : Act) (w : World), listed.size = l.length → listed.getD (l.length - 1) true = false → Cls l listed →
    wpAnyH P .any (idleLast l).toArray (lastQ P l Q') S fuel listed a w → wpAny P .any l.toArray Q' fuel listed a w
  | 0, listed, a, w, hs, hN, hcl, h => by
    have h0 : Region.ready .any l.toArray listed = [] := by
      rw [List.eq_nil_iff_forall_not_mem]
      intro i hi
      have := (ready_same hn listed i).2 hi
      rw [h.1] at this
      cases this
    exact absurd h0 (ready_neT hB hs hN)
  | fuel + 1, listed, a, w, hs, hN, hcl, h => by
    refine ⟨fun h0 => absurd h0 (ready_neT hB hs hN), fun i hi => ?_⟩
    have h1 := h.2 i ((ready_same hn listed i).2 hi)
    obtain ⟨hi0, oi, hoi, hall⟩ := mem_ready.1 hi
    have hoi : l[i]? = some oi := by simpa using hoi
    have hlt : i < l.length := by
      rcases Nat.lt_or_ge i l.length with h | h
      · exact h
      · rw [List.getElem?_eq_none h] at hoi; cases hoi
    rcases Nat.lt_or_ge (i + 1) l.length with hi1 | hi1
    · have e0 : (idleLast l).toArray[i]? = some oi := by simp [idle_same l i hi1, hoi]
      have h2 := wpOp_lastQ h1
      have h3 : wpOp P l.toArray Q' i (fun a' w' => S w' ∧ wpAnyH P .any (idleLast l).toArray (lastQ P l Q') S fuel (listed.setIfInBounds i true) a' w') a w := by
        unfold wpOp at h2 ⊢
        rw [e0] at h2
        simp only [List.getElem?_toArray, hoi] at h2 ⊢
        rw [yielded_same hn] at h2
        exact h2
      exact wpOp_mono (fun a' w' h4 => wpAny_lastH hB hn fuel _ a' w' (by simpa using hs) (by rw [getD_set_ne true (by omega)]; exact hN) (hcl.set hs hoi hall) h4.2) h3
    · have e : i = l.length - 1 := by omega
      subst e
      obtain ⟨o, ho, hd, hg, hw, _⟩ := lastT_spec hB
      rw [ho] at hoi
      injection hoi with hoi
      subst hoi
      have hdone : Region.ready .any l.toArray (listed.setIfInBounds (l.length - 1) true) = [] := by
        rw [List.eq_nil_iff_forall_not_mem]
        intro j hj
        obtain ⟨hj0, oj, hoj, _⟩ := mem_ready.1 hj
        have hoj : l[j]? = some oj := by simpa using hoj
        have hjl : j < l.length := by
          rcases Nat.lt_or_ge j l.length with h | h
          · exact h
          · rw [List.getElem?_eq_none h] at hoj; cases hoj
        by_cases hjN : j = l.length - 1
        · subst hjN
          have : l.length - 1 < listed.size := by omega
          simp [this] at hj0
        · rw [getD_set_ne true (by omega)] at hj0
          have := needs_listed hcl hall 3 j (hw j (by omega))
          have hjs : j < listed.size := by omega
          rw [getD_tf hjs false true, hj0] at this
          cases this
      have hdone0 : Region.ready .any (idleLast l).toArray (listed.setIfInBounds (l.length - 1) true) = [] := by
        rw [List.eq_nil_iff_forall_not_mem]
        intro j hj
        have := (ready_same hn _ j).1 hj
        rw [hdone] at this
        cases this
      have hQ0 : wpOp P l.toArray Q' (l.length - 1) (fun a' w' => Q' .normal a' w') a w := by
        have e0 : (idleLast l).toArray[l.length - 1]? = some (idle o) := by simp [idle_last l hn, ho]
        unfold wpOp at h1
        rw [e0] at h1
        have hwd : Region.wanted (idle o) (yielded (idleLast l).toArray a.tmps) = true := by simp [Region.wanted, idle, hg]
        simp only [hwd, if_true] at h1
        rcases h1 with h1 | ⟨_, h1⟩
        · have h2 : S w ∧ wpAnyH P .any (idleLast l).toArray (lastQ P l Q') S fuel (listed.setIfInBounds (l.length - 1) true) (a.put (idle o).dst (.bool true)) w := h1
          have hpd : a.put (idle o).dst (.bool true) = a := by show a.put o.dst _ = a; rw [hd]; rfl
          rw [hpd] at h2
          have h3 : lastQ P l Q' .normal a w := by
            cases fuel with
            | zero => exact h2.2.2
            | succ f => exact h2.2.1 hdone0
          exact h3
        · exact absurd h1 (fun ⟨_, _, h⟩ => h)
      refine wpOp_mono (fun a' w' hq => ?_) hQ0
      cases fuel with
      | zero => exact ⟨hdone, hq⟩
      | succ f => exact ⟨fun _ => hq, fun j hj => by rw [hdone] at hj; cases hj⟩
/-- the law, at operations that are written out -/
theorem wp_region_lastH {P : Program} {id : Nat} {Q : Exit → Act → World → Prop} {a : Act} {w : World} {l : List Oper} (S : World → Prop) (hm : P.follows .mixedOrders = true) (hL : lastT l = true) (hn : l.isEmpty = false)
    (hS : S w.drew) (h : S w.drew → wpAnyH P .any (idleLast l).toArray (lastQ P l Q) S l.length (Array.replicate l.length false) a w.drew) : (Code.region id l.toArray true).wp P Q a w := by
  have hne : l ≠ [] := by intro e; rw [e] at hn; cases hn
  refine wp_region_any hm (wpAny_lastH (S := S) hL hne _ _ _ _ (by simp) ?_ (cls_none _ _) ?_)
  · have hp : 0 < l.length := List.length_pos_iff.2 hne
    have hp2 : l.length - 1 < l.length := by omega
    simp [hp2]
  · have := h hS
    simpa using this
/-- taken first, its slot typed out -/
theorem wpAnyH_takeD {P : Program} {md : Region.Mode} {ops : Array Oper} {Q : Exit → Act → World → Prop} {S : World → Prop} {i : Nat} {oi : Oper} {v : Value} {fuel : Nat} {listed : Array Bool} {a : Act} {w : World} (d : Option Tmp) (hi : ops[i]? = some oi)
    (hs : Region.noSelect ops = true) (hf : Region.free md ops listed i = true) (hr : (Region.ready md ops listed).contains i = true)
    (hQ : ∀ c a w, Q (.panic c) (a.put oi.dst v) w → Q (.panic c) a w) (hy : YieldsIf P ops S oi v a) (hS : S w) (hd : oi.dst = d)
    (h : wpAnyH P md ops Q S fuel (listed.setIfInBounds i true) (a.put d v) w) : wpAnyH P md ops Q S (fuel + 1) listed a w :=
  wpAnyH_take hi hs hf hr hQ hy hS (by rw [hd]; exact h)
/-- an operation without a slot, taken first -/
theorem wpAnyH_idle {P : Program} {md : Region.Mode} {ops : Array Oper} {Q : Exit → Act → World → Prop} {S : World → Prop} {i : Nat} {oi : Oper} {v : Value} {fuel : Nat} {listed : Array Bool} {a : Act} {w : World} (hi : ops[i]? = some oi)
    (hs : Region.noSelect ops = true) (hf : Region.free md ops listed i = true) (hr : (Region.ready md ops listed).contains i = true)
    (hQ : ∀ c a w, Q (.panic c) (a.put oi.dst v) w → Q (.panic c) a w) (hy : YieldsIf P ops S oi v a) (hS : S w) (hd : oi.dst = none)
    (h : wpAnyH P md ops Q S fuel (listed.setIfInBounds i true) a w) : wpAnyH P md ops Q S (fuel + 1) listed a w :=
  wpAnyH_take hi hs hf hr hQ hy hS (by rw [hd]; exact h)
/-- a call, its arguments read off by reduction -/
theorem wp_enter {P : Program} {o : Oper} {a : Act} {w : World} {K : Act → World → Prop} {Q : Exit → Act → World → Prop} (f : FuncId) (args : Array Value) (h1 : (execOp a.eval o).run P w = .ok (.enter f args) w) (hc : Calls P f args w fun e w' => ∃ v, e = .returned v ∧ K (a.put o.dst v) w') : Oper.wp P o a w K Q := by
  unfold Oper.wp
  rw [h1, Oper.upon_enter]
  refine hc.mono ?_
  rintro e w' ⟨v, rfl, h⟩
  exact h
/-- the last operation, as a list of one -/
theorem lastQ_of {P : Program} {l : List Oper} {Q : Exit → Act → World → Prop} {a : Act} {w : World} (o : Oper) (ho : l[l.length - 1]? = some o) (h : wpList P l.toArray Q [o] a w) : lastQ P l Q .normal a w := by
  show wpOp P l.toArray Q (l.length - 1) (fun a' w' => Q .normal a' w') a w
  unfold wpOp
  rw [List.getElem?_toArray, ho]
  exact h
end Go.Proofs.YtocimfhagkcnlaaDoor
