/- HL's law, where the calls make blocks of their own. -/
import Derived.Test.YtlggademcmkihaaHL
import Derived.Test.YtlggademcmkihaaJM
namespace Go.Proofs.Ytlggademcmkihaa
open Go Go.RowKit Go.Sort
/-- the operation that makes the block, as one that hands an address on -/
def laid (oa : Oper) (g : Nat) : Oper := { oa with op := .move (.const (.pointer (some ⟨g, 0, none⟩))) }
/-- worlds that grew out of one -/
def Gr (w u : World) : Prop := Below w.heap.size w u
theorem Gr.alloc {w u : World} (h : Gr w u) (z : Obj) : Gr w (u.alloc z) := Below.alloc h h.size z
theorem Gr.trans {a b c : World} (h : Gr a b) (k : Gr b c) : Gr a c := Below.trans h (Below.mono k h.size)
theorem wpAny_allocB {l : List Oper} {m : Nat} {oa : Oper} {z : Obj} {w : World} {Q' : Exit → Act → World → Prop} (hL : ∀ g, lastT (l.set m (laid oa g)) = true) (hn : l ≠ []) (hoa : l[m]? = some oa) (hml : m + 1 < l.length) (hg : oa.guard = none)
    (hrun : ∀ (a : Act) (u : World), (execOp a.eval oa).run Try.prog u = .ok (.value (.pointer (some ⟨u.heap.size, 0, none⟩))) (u.alloc z)) (Q0 : Act → Prop) :
    ∀ (fuel : Nat) (listed : Array Bool) (a : Act) (u : World), Gr w u → listed.size = l.length → listed.getD m true = false → listed.getD (l.length - 1) true = false → Cls l listed →
    wpAnyQ Try.prog .any (idleLast (l.set m (laid oa 0))).toArray (Gr w) Q0 fuel listed a →
    (∀ u0, Gr w u0 → wpAnyQ Try.prog .any (idleLast (l.set m (laid oa u0.heap.size))).toArray (Gr (u0.alloc z)) (fun a => ∀ u, Gr (u0.alloc z) u → wpOp Try.prog (l.set m (laid oa u0.heap.size)).toArray Q' ((l.set m (laid oa u0.heap.size)).length - 1) (fun a' w' => Q' .normal a' w') a u) fuel listed a) →
    wpAny Try.prog .any l.toArray Q' fuel listed a u
  | 0, listed, a, u, hC, hs, hm, hN, hcl, g0, g1 => by
    have hls : (l.set m (laid oa 0)).length = l.length := by simp
    have hn1 : l.set m (laid oa 0) ≠ [] := by intro e; rw [e] at hls; exact hn (List.length_eq_zero_iff.1 hls.symm)
    have h0 : Region.ready .any (l.set m (laid oa 0)).toArray listed = [] := by
      rw [List.eq_nil_iff_forall_not_mem]
      intro i hi
      have := (ready_same hn1 listed i).2 hi
      rw [g0.1] at this
      cases this
    exact absurd h0 (ready_neT (hL 0) (by rw [hls]; exact hs) (by rw [hls]; exact hN))
  | fuel + 1, listed, a, u, hC, hs, hm, hN, hcl, g0, g1 => by
    have hls : ∀ g, (l.set m (laid oa g)).length = l.length := fun g => by simp
    have hn1 : ∀ g, l.set m (laid oa g) ≠ [] := fun g e => by have h := hls g; rw [e] at h; exact hn (List.length_eq_zero_iff.1 h.symm)
    have hlm : ∀ g, (l.set m (laid oa g))[m]? = some (laid oa g) := fun g => List.getElem?_set_self (by omega)
    have clg : ∀ g (L : Array Bool), Cls l L → Cls (l.set m (laid oa g)) L := fun g L hc i o ho hi e he hb => by
      by_cases him : i = m
      · subst him
        rw [hlm g] at ho
        injection ho with ho
        subst ho
        exact hc i oa hoa hi e he hb
      · rw [set_get l m _ i him] at ho
        exact hc i o ho hi e he hb
    refine ⟨fun h0 => ?_, fun i hi => ?_⟩
    · refine absurd ?_ (ready_neT (hL 0) (by rw [hls]; exact hs) (by rw [hls]; exact hN))
      rw [List.eq_nil_iff_forall_not_mem]
      intro i hi
      have := (ready_set (ob := laid oa 0) hoa rfl listed i).1 hi
      rw [h0] at this
      cases this
    · have hi1 : ∀ g, i ∈ Region.ready .any (l.set m (laid oa g)).toArray listed := fun g => (ready_set (ob := laid oa g) hoa rfl listed i).2 hi
      have hi2 : ∀ g, i ∈ Region.ready .any (idleLast (l.set m (laid oa g))).toArray listed := fun g => (ready_same (hn1 g) listed i).2 (hi1 g)
      obtain ⟨hi0, oi, hoi, hall⟩ := mem_ready.1 hi
      have hoi : l[i]? = some oi := by simpa using hoi
      have hlt : i < l.length := by
        rcases Nat.lt_or_ge i l.length with h | h
        · exact h
        · rw [List.getElem?_eq_none h] at hoi; cases hoi
      by_cases him : i = m
      · subst him
        obtain ⟨ob, hob⟩ : ∃ ob, ob = laid oa u.heap.size := ⟨_, rfl⟩
        have g1u := g1 u hC
        have e2 : (idleLast (l.set i (laid oa u.heap.size))).toArray[i]? = some (laid oa u.heap.size) := by rw [List.getElem?_toArray, idle_same _ _ (by rw [hls]; omega), hlm]
        obtain ⟨v, hy, hK⟩ := yieldsIn_of_qOp e2 (g1u.2 i (hi2 _))
        have hv : v = .pointer (some ⟨u.heap.size, 0, none⟩) := by
          rcases hy with ⟨_, h2⟩ | ⟨h1, _⟩
          · have := h2 (u.alloc z) (Below.refl _ _)
            unfold Oper.quietAt execOp laid at this
            simp [Oper.quietUpon, Act.eval] at this
            exact this.symm
          · simp [Region.wanted, laid, hg] at h1
        subst hv
        have hwa : Region.wanted oa (yielded l.toArray a.tmps) = true := by simp [Region.wanted, hg]
        unfold wpOp
        simp only [List.getElem?_toArray, hoa, hwa, if_true]
        left
        unfold Oper.wp
        rw [hrun]
        simp only [Oper.upon]
        have hoe : oa = oi := Option.some.inj (hoa.symm.trans hoi)
        have hcl' : Cls (l.set i (laid oa u.heap.size)) (listed.setIfInBounds i true) := (clg _ _ hcl).set (by rw [hls]; exact hs) (hlm _) (by show ∀ e ∈ oa.after, _; rw [hoe]; exact hall)
        have hK2 := wpAny_lastT (P := Try.prog) (Q' := Q') (C := Gr (u.alloc z)) (hL u.heap.size) (hn1 _) fuel (listed.setIfInBounds i true) (a.put (laid oa u.heap.size).dst (.pointer (some ⟨u.heap.size, 0, none⟩))) (u.alloc z) (Below.refl _ _) (by rw [hls]; simpa using hs) (by rw [hls, getD_set_ne true (by omega)]; exact hN) hcl' hK
        have hil : i < listed.size := by omega
        exact wpAny_set (ob := laid oa u.heap.size) hoa rfl rfl fuel _ _ _ (by simp [hil]) hK2
      · by_cases hil : i + 1 < l.length
        · have e2 : ∀ g, (idleLast (l.set m (laid oa g))).toArray[i]? = some oi := fun g => by rw [List.getElem?_toArray, idle_same _ _ (by rw [hls]; omega), set_get l m _ i him, hoi]
          have ye : ∀ g C v, YieldsIn Try.prog (idleLast (l.set m (laid oa g))).toArray C oi v a ↔ YieldsIn Try.prog l.toArray C oi v a := fun g C v => by
            unfold YieldsIn
            rw [yielded_same (hn1 g), yielded_set (ob := laid oa g) hoa rfl]
          obtain ⟨v0, y0, k0⟩ := yieldsIn_of_qOp (e2 0) (g0.2 i (hi2 0))
          have k1 : ∀ u0, Gr w u0 → wpAnyQ Try.prog .any (idleLast (l.set m (laid oa u0.heap.size))).toArray (Gr (u0.alloc z)) (fun a => ∀ u, Gr (u0.alloc z) u → wpOp Try.prog (l.set m (laid oa u0.heap.size)).toArray Q' ((l.set m (laid oa u0.heap.size)).length - 1) (fun a' w' => Q' .normal a' w') a u) fuel (listed.setIfInBounds i true) (a.put oi.dst v0) := fun u0 hu0 => by
            obtain ⟨v1, y1, k1⟩ := yieldsIn_of_qOp (e2 u0.heap.size) ((g1 u0 hu0).2 i (hi2 _))
            obtain rfl := yields_unique ((ye _ _ _).1 y1) ((ye _ _ _).1 y0) (u0.alloc z) (Below.refl _ _) (hu0.alloc z)
            exact k1
          exact wpOp_of_qOp (C := Gr w) (K := fun a' => wpAnyQ Try.prog .any (idleLast (l.set m (laid oa 0))).toArray (Gr w) Q0 fuel (listed.setIfInBounds i true) a' ∧ ∀ u0, Gr w u0 → wpAnyQ Try.prog .any (idleLast (l.set m (laid oa u0.heap.size))).toArray (Gr (u0.alloc z)) (fun a => ∀ u, Gr (u0.alloc z) u → wpOp Try.prog (l.set m (laid oa u0.heap.size)).toArray Q' ((l.set m (laid oa u0.heap.size)).length - 1) (fun a' w' => Q' .normal a' w') a u) fuel (listed.setIfInBounds i true) a') hC
            (fun a' w' hw' ⟨q0, q1⟩ => wpAny_allocB hL hn hoa hml hg hrun Q0 fuel _ a' w' hw' (by simpa using hs) (by rw [getD_set_ne true him]; exact hm) (by rw [getD_set_ne true (by omega)]; exact hN) (hcl.set hs hoi hall) q0 q1)
            (((ye _ _ _).1 y0).qOp (by rw [List.getElem?_toArray]; exact hoi) ⟨k0, k1⟩)
        · exfalso
          obtain ⟨o, ho, _, _, hw, _⟩ := lastT_spec (hL 0)
          have hi9 : i = (l.set m (laid oa 0)).length - 1 := by rw [hls]; omega
          rw [← hi9, set_get l m _ i him, hoi] at ho
          injection ho with ho
          subst ho
          have := needs_listed (clg 0 _ hcl) hall 3 m (hw m (by rw [hls]; omega))
          have hms : m < listed.size := by omega
          rw [getD_tf hms false true, hm] at this
          cases this
/-- the law: one walk, in a class that is a letter, whatever address the new block has -/
theorem wp_region_allocB {id : Nat} {Q : Exit → Act → World → Prop} {a : Act} {w : World} {l : List Oper} (m : Nat) (oa : Oper) (z : Obj) (hoa : l[m]? = some oa) (hml : m + 1 < l.length) (hg : oa.guard = none)
    (hrun : ∀ (a : Act) (u : World), (execOp a.eval oa).run Try.prog u = .ok (.value (.pointer (some ⟨u.heap.size, 0, none⟩))) (u.alloc z)) (hm : Try.prog.follows .mixedOrders = true) (hL : ∀ g, lastT (l.set m (laid oa g)) = true) (hB : ∀ g, Region.lexB .any (idleLast (l.set m (laid oa g))).toArray = true)
    (H : ∀ (g : Nat) (C : World → Prop) (D : World → Prop), (∀ u, C u → Gr w u) → (∀ u u', C u → Gr u u' → C u') → (∀ u, D u → Gr w u ∧ w.heap.size ≤ g ∧ g < u.heap.size ∧ u.heap[g]? = some z) → wpQuiet Try.prog (idleLast (l.set m (laid oa g))).toArray C (fun a => ∀ u, D u → wpOp Try.prog (l.set m (laid oa g)).toArray Q ((l.set m (laid oa g)).length - 1) (fun a' w' => Q .normal a' w') a u) (idleLast (l.set m (laid oa g))) a) : (Code.region id l.toArray true).wp Try.prog Q a w := by
  have hne : l ≠ [] := by intro e; rw [e] at hml; simp at hml
  have G : ∀ (g : Nat) (C D : World → Prop), (∀ u, C u → Gr w u) → (∀ u u', C u → Gr u u' → C u') → (∀ u, D u → Gr w u ∧ w.heap.size ≤ g ∧ g < u.heap.size ∧ u.heap[g]? = some z) → wpAnyQ Try.prog .any (idleLast (l.set m (laid oa g))).toArray C (fun a => ∀ u, D u → wpOp Try.prog (l.set m (laid oa g)).toArray Q ((l.set m (laid oa g)).length - 1) (fun a' w' => Q .normal a' w') a u) l.length (Array.replicate l.length false) a := fun g C D h1 h2 h3 => by
    have hB' := hB g
    simp only [Region.lexB, Bool.and_eq_true] at hB'
    have := wpAnyQ_lex (C := C) (md := .any) hB'.1 (idleLast (l.set m (laid oa g))) 0 (Array.replicate (idleLast (l.set m (laid oa g))).toArray.size false) a (by simp) (by simpa using hB'.2) (H g C D h1 h2 h3)
    simpa [idle_len] using this
  have hlen : l.toArray.size = l.length := by simp
  refine wp_region_any hm ?_
  rw [hlen]
  refine wpAny_allocB hL hne hoa hml hg hrun _ l.length (Array.replicate l.length false) a _ ((Below.refl _ _).drew) (by simp) ?_ ?_ (cls_none _ _) (G 0 (Gr w) (fun _ => False) (fun u h => h) (fun u u' h k => h.trans k) (fun u h => h.elim)) (fun u0 h0 => G u0.heap.size (Gr (u0.alloc z)) (Gr (u0.alloc z)) (fun u h => (h0.alloc z).trans h) (fun u u' h k => h.trans k) (fun u h => ⟨(h0.alloc z).trans h, h0.size, ?_, ?_⟩))
  · have : m < l.length := by omega
    simp [this]
  · have : l.length - 1 < l.length := by omega
    simp [this]
  · have := h.size
    simp at this
    omega
  · exact (h.block u0.heap.size (by simp)).trans (alloc_at u0 z)
end Go.Proofs.Ytlggademcmkihaa
