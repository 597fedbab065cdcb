/- A region that draws its order, in which a block is made and whose last operation stores; the others only read, or call what leaves the world as it was but for draws. -/
import Derived.Test.YtocimfhagkcnlaaDoorGP
namespace Go.Proofs.YtocimfhagkcnlaaDoor
open Go Go.RowKit Go.Sort
/-- a call hands back one value -/
theorem ret_unique {f : FuncId} {args : Array Value} {u : World} {v v' : Value} {A B : World → Prop} (h : Calls Tryd.prog f args u fun e w' => e = .returned v ∧ A w') (h' : Calls Tryd.prog f args u fun e w' => e = .returned v' ∧ B w') : v = v' := by
  by_cases h2 : f = 2
  · subst h2
    obtain ⟨e, w1, fr, ⟨rfl, _⟩, _, hfn, hl⟩ := h []
    obtain ⟨e', w2, fr', ⟨rfl, _⟩, _, hfn', hl'⟩ := h' []
    have key : ∀ (fr : Frame) (w : World) (v : Value), fr.fn = 2 → fr.leaving Tryd.prog w (.returned v) → v = .tuple #[] := fun fr w v hf hl => by
      obtain ⟨_, _, _, fn, hfn, hr⟩ := hl
      rw [hf, Tryd.func2] at hfn
      obtain rfl : Tryd.f2 = fn := Option.some.inj hfn
      rw [results_none rfl] at hr
      injection hr with hr _
      exact hr.symm
    rw [key _ _ _ hfn hl, key _ _ _ hfn' hl']
  · have hi : Tryd.prog.inits.idxOf? f = none := by
      have e : Tryd.prog.inits = #[2] := by kernel_rfl
      rw [e]
      simp [Array.idxOf?, Array.finIdxOf?, Array.idxOfAux, Ne.symm h2]
    obtain ⟨n1, x1, w1, r1, rfl⟩ := Calls.done (R := fun x _ => x = v) (h.mono fun e w' ⟨he, _⟩ => by subst he; rfl) hi
    obtain ⟨n2, x2, w2, r2, rfl⟩ := Calls.done (R := fun x _ => x = v') (h'.mono fun e w' ⟨he, _⟩ => by subst he; rfl) hi
    have e1 := runN_ended r1 n2
    have e2 := runN_ended r2 n1
    rw [Nat.add_comm] at e2
    rw [e1] at e2
    injection e2 with e2 _
    injection e2
theorem quietAt_unique {o : Oper} {a : Act} {C C' : World → Prop} {u : World} {v v' : Value} (h : o.quietAt Tryd.prog a C u v) (h' : o.quietAt Tryd.prog a C' u v') : v = v' := by
  unfold Oper.quietAt at h h'
  generalize (execOp a.eval o).run Tryd.prog u = r at h h'
  cases r with
  | ok n w' =>
    cases n <;> simp only [Oper.quietUpon] at h h'
    case value x => exact h.2.symm.trans h'.2
    case skip => exact h.2.trans h'.2.symm
    case enter f args => exact ret_unique h.2 h'.2
  | halt x w' => exact h.elim
theorem yields_unique {ops : Array Oper} {C C' : World → Prop} {o : Oper} {v v' : Value} {a : Act} (h : YieldsIn Tryd.prog ops C o v a) (h' : YieldsIn Tryd.prog ops C' o v' a) (u : World) (hu : C u) (hu' : C' u) : v = v' := by
  rcases h with ⟨h1, h2⟩ | ⟨h1, h2⟩ <;> rcases h' with ⟨h3, h4⟩ | ⟨h3, h4⟩
  · exact quietAt_unique (h2 u hu) (h4 u hu')
  · rw [h1] at h3; cases h3
  · rw [h1] at h3; cases h3
  · rw [h2, h4]
theorem set_get (l : List Oper) (m : Nat) (ob : Oper) (i : Nat) (h : i ≠ m) : (l.set m ob)[i]? = l[i]? := by rw [List.getElem?_set]; simp [Ne.symm h]
theorem yielded_set {l : List Oper} {m : Nat} {oa ob : Oper} (hoa : l[m]? = some oa) (hd : ob.dst = oa.dst) (tmps : Array Value) : yielded (l.set m ob).toArray tmps = yielded l.toArray tmps := by
  funext j
  unfold yielded
  have e : ((l.set m ob).toArray[j]?).bind (·.dst) = (l.toArray[j]?).bind (·.dst) := by
    simp only [List.getElem?_toArray]
    by_cases h : j = m
    · subst h
      have hlt : j < l.length := by
        rcases Nat.lt_or_ge j l.length with h | h
        · exact h
        · rw [List.getElem?_eq_none h] at hoa; cases hoa
      rw [List.getElem?_set_self hlt, hoa]
      exact hd
    · rw [set_get l m ob j h]
  rw [e]
theorem ready_set {l : List Oper} {m : Nat} {oa ob : Oper} (hoa : l[m]? = some oa) (ha : ob.after = oa.after) (listed : Array Bool) (i : Nat) : i ∈ Region.ready .any (l.set m ob).toArray listed ↔ i ∈ Region.ready .any l.toArray listed := by
  rw [mem_ready, mem_ready]
  simp only [List.getElem?_toArray]
  by_cases h : i = m
  · subst h
    have hlt : i < l.length := by
      rcases Nat.lt_or_ge i l.length with h | h
      · exact h
      · rw [List.getElem?_eq_none h] at hoa; cases hoa
    rw [List.getElem?_set_self hlt, hoa]
    constructor
    · rintro ⟨h0, o, ho, hall⟩
      injection ho with ho
      subst ho
      exact ⟨h0, _, rfl, ha ▸ hall⟩
    · rintro ⟨h0, o, ho, hall⟩
      injection ho with ho
      subst ho
      exact ⟨h0, _, rfl, ha ▸ hall⟩
  · rw [set_get l m ob i h]
/-- what came up already may be another one -/
theorem wpAny_set {l : List Oper} {m : Nat} {oa ob : Oper} {Q : Exit → Act → World → Prop} (hoa : l[m]? = some oa) (hd : ob.dst = oa.dst) (ha : ob.after = oa.after) : ∀ (fuel : Nat) (listed : Array Bool) (a : Act) (w : World), listed.getD m true = true →
    wpAny Tryd.prog .any (l.set m ob).toArray Q fuel listed a w → wpAny Tryd.prog .any l.toArray Q fuel listed a w
  | 0, listed, a, w, hm, h => by
    refine ⟨?_, h.2⟩
    rw [List.eq_nil_iff_forall_not_mem]
    intro i hi
    have := (ready_set hoa ha listed i).2 hi
    rw [h.1] at this
    cases this
  | fuel + 1, listed, a, w, hm, h => by
    refine ⟨fun h0 => h.1 ?_, fun i hi => ?_⟩
    · rw [List.eq_nil_iff_forall_not_mem]
      intro i hi
      have := (ready_set hoa ha listed i).1 hi
      rw [h0] at this
      cases this
    · have h1 := h.2 i ((ready_set hoa ha listed i).2 hi)
      have hne : i ≠ m := fun e => by
        have := (mem_ready.1 hi).1
        rw [e, hm] at this
        cases this
      have h2 : wpOp Tryd.prog l.toArray Q i (wpAny Tryd.prog .any (l.set m ob).toArray Q fuel (listed.setIfInBounds i true)) a w := by
        unfold wpOp at h1 ⊢
        rw [yielded_set hoa hd] at h1
        simp only [List.getElem?_toArray, set_get l m ob i hne] at h1 ⊢
        exact h1
      exact wpOp_mono (fun a' w' hq => wpAny_set hoa hd ha fuel _ a' w' (by rw [getD_set_ne true hne]; exact hm) hq) h2
theorem wpAnyQ_mono {P : Program} {md : Region.Mode} {ops : Array Oper} {C : World → Prop} {Q Q2 : Act → Prop} (h : ∀ a, Q a → Q2 a) : ∀ (fuel : Nat) (listed : Array Bool) (a : Act), wpAnyQ P md ops C Q fuel listed a → wpAnyQ P md ops C Q2 fuel listed a
  | 0, _, _, hh => ⟨hh.1, h _ hh.2⟩
  | f + 1, _, _, hh => ⟨fun h0 => h _ (hh.1 h0), fun i hi => qOp_mono (fun a' => wpAnyQ_mono h f _ a') (hh.2 i hi)⟩
theorem wpAny_alloc {l : List Oper} {m : Nat} {oa ob : Oper} {z : Obj} {w : World} {Q' : Exit → Act → World → Prop} (hL : lastT (l.set m ob) = true) (hn : l.set m ob ≠ []) (hoa : l[m]? = some oa) (hml : m + 1 < l.length) (hob : ob = { oa with op := .move (.const (.pointer (some ⟨w.heap.size, 0, none⟩))) }) (hg : oa.guard = none)
    (hrun : ∀ (a : Act) (u : World), (execOp a.eval oa).run Tryd.prog u = .ok (.value (.pointer (some ⟨u.heap.size, 0, none⟩))) (u.alloc z)) (QQ : Act → Prop) (hQQ : ∀ a, QQ a → ∀ u, (∃ n, u = (w.alloc z).drewN n) → wpOp Tryd.prog (l.set m ob).toArray Q' ((l.set m ob).length - 1) (fun a' w' => Q' .normal a' w') a u) :
    ∀ (fuel : Nat) (listed : Array Bool) (a : Act) (u : World), (∃ n, u = w.drewN n) → listed.size = l.length → listed.getD m true = false → listed.getD (l.length - 1) true = false → Cls (l.set m ob) listed →
    wpAnyQ Tryd.prog .any (idleLast (l.set m ob)).toArray (fun u => ∃ n, u = w.drewN n) QQ fuel listed a →
    wpAnyQ Tryd.prog .any (idleLast (l.set m ob)).toArray (fun u => ∃ n, u = (w.alloc z).drewN n) QQ fuel listed a →
    wpAnyQ Tryd.prog .any (idleLast (l.set m ob)).toArray (fun u => (∃ n, u = w.drewN n) ∨ ∃ n, u = (w.alloc z).drewN n) QQ fuel listed a → wpAny Tryd.prog .any l.toArray Q' fuel listed a u
  | 0, listed, a, u, hC, hs, hm, hN, hcl, g0, g1, g2 => by
    have hls : (l.set m ob).length = l.length := by simp
    have h0 : Region.ready .any (l.set m ob).toArray listed = [] := by
      rw [List.eq_nil_iff_forall_not_mem]
      intro i hi
      have := (ready_same hn listed i).2 hi
      rw [g0.1] at this
      cases this
    exact absurd h0 (ready_neT hL (by rw [hls]; exact hs) (by rw [hls]; exact hN))
  | fuel + 1, listed, a, u, hC, hs, hm, hN, hcl, g0, g1, g2 => by
    have hls : (l.set m ob).length = l.length := by simp
    have haf : ob.after = oa.after := by rw [hob]
    have hdt : ob.dst = oa.dst := by rw [hob]
    have hlm : (l.set m ob)[m]? = some ob := List.getElem?_set_self (by omega)
    refine ⟨fun h0 => ?_, fun i hi => ?_⟩
    · refine absurd ?_ (ready_neT hL (by rw [hls]; exact hs) (by rw [hls]; exact hN))
      rw [List.eq_nil_iff_forall_not_mem]
      intro i hi
      have := (ready_set hoa haf listed i).1 hi
      rw [h0] at this
      cases this
    · have hi1 := (ready_set hoa haf listed i).2 hi
      have hi2 := (ready_same hn listed i).2 hi1
      obtain ⟨hi0, oi, hoi, hall⟩ := mem_ready.1 hi1
      have hoi : (l.set m ob)[i]? = some oi := by simpa using hoi
      have hlt : i < l.length := by
        rcases Nat.lt_or_ge i l.length with h | h
        · exact h
        · rw [List.getElem?_eq_none (by omega)] at hoi; cases hoi
      by_cases him : i = m
      · subst him
        have e2 : (idleLast (l.set i ob)).toArray[i]? = some ob := by rw [List.getElem?_toArray, idle_same _ _ (by omega), hlm]
        obtain ⟨v, hy, hK⟩ := yieldsIn_of_qOp e2 (g1.2 i hi2)
        have hv : v = .pointer (some ⟨w.heap.size, 0, none⟩) := by
          rcases hy with ⟨_, h2⟩ | ⟨h1, _⟩
          · have := h2 _ ⟨0, rfl⟩
            rw [hob] at this
            unfold Oper.quietAt execOp at this
            simp [Oper.quietUpon, Act.eval] at this
            exact this.symm
          · simp [Region.wanted, hob, hg] at h1
        subst hv
        obtain ⟨n, rfl⟩ := hC
        have hwa : Region.wanted oa (yielded l.toArray a.tmps) = true := by simp [Region.wanted, hg]
        unfold wpOp
        simp only [List.getElem?_toArray, hoa, hwa, if_true]
        left
        unfold Oper.wp
        rw [hrun]
        simp only [Oper.upon]
        have hcl' : Cls (l.set i ob) (listed.setIfInBounds i true) := hcl.set (by rw [hls]; exact hs) hlm (by have he : ob = oi := Option.some.inj (hlm.symm.trans hoi); rw [he]; exact hall)
        have hK2 := wpAny_lastT (P := Tryd.prog) (Q' := Q') (C := fun u => ∃ n, u = (w.alloc z).drewN n) hL hn fuel (listed.setIfInBounds i true) (a.put ob.dst (.pointer (some ⟨w.heap.size, 0, none⟩))) ((w.alloc z).drewN n) ⟨n, rfl⟩ (by rw [hls]; simpa using hs) (by rw [hls, getD_set_ne true (by omega)]; exact hN) hcl' (wpAnyQ_mono hQQ _ _ _ hK)
        rw [hdt] at hK2
        have hil : i < listed.size := by omega
        exact wpAny_set hoa hdt haf fuel _ _ _ (by simp [hil]) hK2
      · by_cases hil : i + 1 < l.length
        · have hoi' : l[i]? = some oi := by rw [← set_get l m ob i him]; exact hoi
          have e2 : (idleLast (l.set m ob)).toArray[i]? = some oi := by rw [List.getElem?_toArray, idle_same _ _ (by omega), hoi]
          obtain ⟨v0, y0, k0⟩ := yieldsIn_of_qOp e2 (g0.2 i hi2)
          obtain ⟨v1, y1, k1⟩ := yieldsIn_of_qOp e2 (g1.2 i hi2)
          obtain ⟨v2, y2, k2⟩ := yieldsIn_of_qOp e2 (g2.2 i hi2)
          obtain rfl := yields_unique y0 y2 w ⟨0, rfl⟩ (.inl ⟨0, rfl⟩)
          obtain rfl := yields_unique y1 y2 (w.alloc z) ⟨0, rfl⟩ (.inr ⟨0, rfl⟩)
          have y3 : YieldsIn Tryd.prog l.toArray (fun u => ∃ n, u = w.drewN n) oi v1 a := by
            unfold YieldsIn at y0 ⊢
            rw [yielded_same hn, yielded_set hoa hdt] at y0
            exact y0
          exact wpOp_of_qOp (K := fun a' => wpAnyQ Tryd.prog .any (idleLast (l.set m ob)).toArray (fun u => ∃ n, u = w.drewN n) QQ fuel (listed.setIfInBounds i true) a' ∧ wpAnyQ Tryd.prog .any (idleLast (l.set m ob)).toArray (fun u => ∃ n, u = (w.alloc z).drewN n) QQ fuel (listed.setIfInBounds i true) a' ∧ wpAnyQ Tryd.prog .any (idleLast (l.set m ob)).toArray (fun u => (∃ n, u = w.drewN n) ∨ ∃ n, u = (w.alloc z).drewN n) QQ fuel (listed.setIfInBounds i true) a') hC
            (fun a' w' hw' ⟨q0, q1, q2⟩ => wpAny_alloc hL hn hoa hml hob hg hrun QQ hQQ fuel _ a' w' hw' (by simpa using hs) (by rw [getD_set_ne true him]; exact hm) (by rw [getD_set_ne true (by omega)]; exact hN) (hcl.set (by rw [hls]; exact hs) hoi hall) q0 q1 q2)
            (y3.qOp (by rw [List.getElem?_toArray]; exact hoi') ⟨k0, k1, k2⟩)
        · exfalso
          obtain ⟨o, ho, _, _, hw, _⟩ := lastT_spec hL
          have hi9 : i = (l.set m ob).length - 1 := by omega
          rw [← hi9, hoi] at ho
          injection ho with ho
          subst ho
          have := needs_listed hcl hall 3 m (hw m (by omega))
          have hms : m < listed.size := by omega
          rw [getD_tf hms false true, hm] at this
          cases this
/-- the law -/
theorem wp_region_alloc {id : Nat} {Q : Exit → Act → World → Prop} {a : Act} {w : World} {l : List Oper} (m : Nat) (oa ob : Oper) (z : Obj) (hoa : l[m]? = some oa) (hob : ob = { oa with op := .move (.const (.pointer (some ⟨w.heap.size, 0, none⟩))) }) (hml : m + 1 < l.length) (hg : oa.guard = none)
    (hrun : ∀ (a : Act) (u : World), (execOp a.eval oa).run Tryd.prog u = .ok (.value (.pointer (some ⟨u.heap.size, 0, none⟩))) (u.alloc z)) (hm : Tryd.prog.follows .mixedOrders = true) (hL : lastT (l.set m ob) = true) (hB : Region.lexB .any (idleLast (l.set m ob)).toArray = true)
    (H : ∀ C : World → Prop, (∀ u, C u → (∃ n, u = w.drewN n) ∨ ∃ n, u = (w.alloc z).drewN n) → (∀ u n, C u → C (u.drewN n)) → wpQuiet Tryd.prog (idleLast (l.set m ob)).toArray C (fun a => ∀ u, (∃ n, u = (w.alloc z).drewN n) → wpOp Tryd.prog (l.set m ob).toArray Q ((l.set m ob).length - 1) (fun a' w' => Q .normal a' w') a u) (idleLast (l.set m ob)) a) : (Code.region id l.toArray true).wp Tryd.prog Q a w := by
  have hls : (l.set m ob).length = l.length := by simp
  have hne : l.set m ob ≠ [] := by intro e; rw [e] at hls; simp at hls; omega
  simp only [Region.lexB, Bool.and_eq_true] at hB
  have G : ∀ C : World → Prop, (∀ u, C u → (∃ n, u = w.drewN n) ∨ ∃ n, u = (w.alloc z).drewN n) → (∀ u n, C u → C (u.drewN n)) → wpAnyQ Tryd.prog .any (idleLast (l.set m ob)).toArray C (fun a => ∀ u, (∃ n, u = (w.alloc z).drewN n) → wpOp Tryd.prog (l.set m ob).toArray Q ((l.set m ob).length - 1) (fun a' w' => Q .normal a' w') a u) l.length (Array.replicate l.length false) a := fun C h1 h2 => by
    have := wpAnyQ_lex (C := C) (md := .any) hB.1 (idleLast (l.set m ob)) 0 (Array.replicate (idleLast (l.set m ob)).toArray.size false) a (by simp) (by simpa using hB.2) (H C h1 h2)
    simpa [idle_len] using this
  have hlen : l.toArray.size = l.length := by simp
  refine wp_region_any hm ?_
  rw [hlen]
  refine wpAny_alloc hL hne hoa hml hob hg hrun _ (fun a h => h) l.length (Array.replicate l.length false) a _ ⟨1, rfl⟩ (by simp) ?_ ?_ (cls_none _ _) (G _ (fun u h => .inl h) ?_) (G _ (fun u h => .inr h) ?_) (G _ (fun u h => h) ?_)
  · have : m < l.length := by omega
    simp [this]
  · have : l.length - 1 < l.length := by omega
    simp [this]
  · rintro u n ⟨k, rfl⟩; exact ⟨_, World.drewN_drewN _ _ _⟩
  · rintro u n ⟨k, rfl⟩; exact ⟨_, World.drewN_drewN _ _ _⟩
  · rintro u n (⟨k, rfl⟩ | ⟨k, rfl⟩)
    · exact .inl ⟨_, World.drewN_drewN _ _ _⟩
    · exact .inr ⟨_, World.drewN_drewN _ _ _⟩
/-- steps of the quiet walk, in a class that is a letter -/
theorem qa_val {ops : Array Oper} {C : World → Prop} {Q : Act → Prop} {rest : List Oper} {o : Oper} {a : Act} (hw : Region.wanted o (yielded ops a.tmps) = true) (h : ∃ v, (∀ u, C u → (execOp a.eval o).run Tryd.prog u = .ok (.value v) u) ∧ wpQuiet Tryd.prog ops C Q rest (a.put o.dst v)) : wpQuiet Tryd.prog ops C Q (o :: rest) a := by
  obtain ⟨v, h1, h2⟩ := h
  unfold wpQuiet
  rw [if_pos hw]
  refine ⟨v, fun u hu => ?_, h2⟩
  unfold Oper.quietAt
  rw [h1 u hu]
  exact ⟨rfl, rfl⟩
theorem qa_call {ops : Array Oper} {C : World → Prop} {Q : Act → Prop} {rest : List Oper} {o : Oper} {a : Act} (hw : Region.wanted o (yielded ops a.tmps) = true) (f : FuncId) (args : Array Value) (v : Value) (h1 : ∀ u, C u → (execOp a.eval o).run Tryd.prog u = .ok (.enter f args) u) (hc : ∀ u, C u → Calls Tryd.prog f args u fun e w' => e = .returned v ∧ C w')
    (h2 : wpQuiet Tryd.prog ops C Q rest (a.put o.dst v)) : wpQuiet Tryd.prog ops C Q (o :: rest) a := by
  unfold wpQuiet
  rw [if_pos hw]
  refine ⟨v, fun u hu => ?_, h2⟩
  unfold Oper.quietAt
  rw [h1 u hu]
  exact ⟨rfl, hc u hu⟩
/-- the same, behind a shut door -/
theorem qa_valW {ops : Array Oper} {C : World → Prop} {Q : Act → Prop} {rest : List Oper} {o : Oper} {a : Act} (hw : Region.wanted o (yielded ops a.tmps) = true) (h : ∃ v, (∀ u, C u → (execOp a.eval o).run Tryd.prog u = .ok (.value v) u) ∧ QW Tryd.prog ops C Q rest (a.put o.dst v)) : QW Tryd.prog ops C Q (o :: rest) a := by
  obtain ⟨v, h1, h2⟩ := h
  exact ⟨qa_val hw ⟨v, h1, h2.out⟩⟩
theorem qa_callW {ops : Array Oper} {C : World → Prop} {Q : Act → Prop} {rest : List Oper} {o : Oper} {a : Act} (hw : Region.wanted o (yielded ops a.tmps) = true) (f : FuncId) (args : Array Value) (v : Value) (h1 : ∀ u, C u → (execOp a.eval o).run Tryd.prog u = .ok (.enter f args) u) (hc : ∀ u, C u → Calls Tryd.prog f args u fun e w' => e = .returned v ∧ C w')
    (h2 : QW Tryd.prog ops C Q rest (a.put o.dst v)) : QW Tryd.prog ops C Q (o :: rest) a := ⟨qa_call hw f args v h1 hc h2.out⟩
end Go.Proofs.YtocimfhagkcnlaaDoor
