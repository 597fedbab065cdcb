/- Two peers that know the same. -/
import Derived.Test.YtlggademcmkihaaIF
import Derived.Test.YtlggademcmkihaaIC
import Derived.Deep.Cut
namespace Go.Proofs.Ytlggademcmkihaa
open Go Go.RowKit Go.Sort
/-- a slice of slices of steps -/
structure Sxx (N : Nat) (w : World) (v : Value) (xss : List (List Stp)) : Prop where
  ex : ∃ ao cap, v = .slice ao xss.length cap ∧ ∀ (k : Nat) (xs : List Stp), xss[k]? = some xs → ∃ ad v', ao = some ad ∧ ad.block < N ∧ w.cell? (ad.add k) = some v' ∧ Sx N w v' xs
  len : xss.length ≤ 9223372036854775807
theorem Sxx.below {N B : Nat} {w w' : World} {v : Value} {xss : List (List Stp)} (h : Sxx N w v xss) (hb : Below B w w') (hN : N ≤ B) : Sxx N w' v xss := by
  obtain ⟨⟨ao, cap, h1, h2⟩, h4⟩ := h
  refine ⟨⟨ao, cap, h1, fun k xs hk => ?_⟩, h4⟩
  obtain ⟨ad, v', k1, k2, k3, k4⟩ := h2 k xs hk
  exact ⟨ad, v', k1, k2, (hb.cell (p := ad.add k) (by rw [add_block]; omega)).trans k3, k4.below hb hN⟩
theorem Sxx.at {N : Nat} {w : World} {ao : Option Addr} {n cap : Nat} {xss : List (List Stp)} (h : Sxx N w (.slice ao n cap) xss) (k : Nat) (xs : List Stp) (hk : xss[k]? = some xs) : ∃ (ad : Addr) (v' : Value), (∀ u, Sem.run Try.prog (Instr.indexAt 76 (.slice ao n cap) (.int .i64 (k : Int))) u = .ok (.pointer (some ad)) u) ∧ ad.block < N ∧ w.cell? ad = some v' ∧ Sx N w v' xs := by
  obtain ⟨⟨ao', cap', h1, h2⟩, _⟩ := h
  injection h1 with e1 e2 e3
  subst e1 e2 e3
  obtain ⟨ad, v', k1, k2, k3, k4⟩ := h2 k xs hk
  have hkl : k < xss.length := by
    rcases Nat.lt_or_ge k xss.length with hlt | hge
    · exact hlt
    · rw [List.getElem?_eq_none hge] at hk; cases hk
  refine ⟨ad.add k, v', fun u => ?_, by rw [add_block]; exact k2, k3, k4⟩
  subst k1
  have u' := Try.underlying76
  have c3 : Try.prog.cellsOf 32 = 1 := by kernel_rfl
  have h0 : (0 : Int) ≤ k := Int.natCast_nonneg k
  have h1 : (k : Int) < xss.length := by omega
  go_simp
/-- two peers that know the same, and what each has asked last -/
structure FW (w W : World) (p q x y : Nat) (s : Ps) (org : Int) : Prop where
  pp : Pm W p s
  pq : Pm W q s
  bx : Bk x W #[.int .u64 org] 23
  byy : Bk y W #[.int .u64 org] 23
  ne : p ≠ q ∧ p ≠ x ∧ p ≠ y ∧ q ≠ x ∧ q ≠ y ∧ x ≠ y
  lo : w.heap.size ≤ p ∧ w.heap.size ≤ q ∧ w.heap.size ≤ x ∧ w.heap.size ≤ y
  be : Below w.heap.size w W
  ok : okS s
  o64 : U64 org
  ky : s.key ≠ 0
/-- within a round: both peers, what each has asked last, the round's own blocks -/
structure FL (w W : World) (p q x y : Nat) (s1 s2 : Ps) (o1 o2 : Int) (L : List (Nat × List Value × TypeId)) : Prop where
  pp : Pm W p s1
  pq : Pm W q s2
  bx : Bk x W #[.int .u64 o1] 23
  byy : Bk y W #[.int .u64 o2] 23
  ne : p ≠ q ∧ p ≠ x ∧ p ≠ y ∧ q ≠ x ∧ q ≠ y ∧ x ≠ y
  lo : w.heap.size ≤ p ∧ w.heap.size ≤ q ∧ w.heap.size ≤ x ∧ w.heap.size ≤ y
  be : Below w.heap.size w W
  bl : ∀ b ∈ L, Bk b.1 W b.2.1.toArray b.2.2 ∧ b.1 ≠ p ∧ b.1 ≠ q ∧ b.1 ≠ x ∧ b.1 ≠ y
theorem FL.step {w W W' : World} {p q x y : Nat} {s1 s2 : Ps} {o1 o2 : Int} {L : List (Nat × List Value × TypeId)} (h : FL w W p q x y s1 s2 o1 o2 L) (hb : Below W.heap.size W W') : FL w W' p q x y s1 s2 o1 o2 L :=
  ⟨h.pp.kept (hb.block _ h.pp.lt), h.pq.kept (hb.block _ h.pq.lt), h.bx.kept (hb.block _ h.bx.lt), h.byy.kept (hb.block _ h.byy.lt), h.ne, h.lo, h.be.trans (hb.mono h.be.size), fun b hb' => ⟨(h.bl b hb').1.kept (hb.block _ (h.bl b hb').1.lt), (h.bl b hb').2⟩⟩
theorem FL.push {w W : World} {p q x y : Nat} {s1 s2 : Ps} {o1 o2 : Int} {L : List (Nat × List Value × TypeId)} (h : FL w W p q x y s1 s2 o1 o2 L) (cs cs' : List Value) (T : TypeId) : FL w ((W.alloc (.cells cs.toArray T)).setRow W.heap.size cs'.toArray) p q x y s1 s2 o1 o2 ((W.heap.size, cs', T) :: L) := by
  have hb : Below W.heap.size W ((W.alloc (.cells cs.toArray T)).setRow W.heap.size cs'.toArray) := below_row ((Below.refl _ _).alloc (Nat.le_refl _) _) (Nat.le_refl _) _
  have h2 := h.step hb
  refine ⟨h2.pp, h2.pq, h2.bx, h2.byy, h2.ne, h2.lo, h2.be, fun b hb' => ?_⟩
  rcases List.mem_cons.1 hb' with rfl | hb'
  · have l1 := h.pp.lt
    have l2 := h.pq.lt
    have l3 := h.bx.lt
    have l4 := h.byy.lt
    refine ⟨(Bk.new _ _ _).row _, ?_, ?_, ?_, ?_⟩ <;> (simp only; omega)
  · exact h2.bl b hb'
/-- a block just made is stored -/
theorem step_fnew {ops : Array Oper} {rest : List Oper} {ob : Oper} {a : Act} {W : World} {Q : Exit → Act → World → Prop} {T : TypeId} (hw : Region.wanted ob (yielded ops a.tmps) = true) (xo yo : Operand) (hop : ob.op = .store T xo yo)
    (cs cs' : List Value) (hx : a.eval xo = .pointer (some ⟨W.heap.size, 0, none⟩)) (hy : a.eval yo = .agg cs'.toArray) {w : World} {p q x y : Nat} {s1 s2 : Ps} {o1 o2 : Int} {L : List (Nat × List Value × TypeId)} (h : FL w W p q x y s1 s2 o1 o2 L)
    (hs : (Try.prog.info? T).map (·.size) = some cs'.toArray.size) (hold : cs.length = cs'.length) (h1 : cs'.toArray.all (·.oneCell') = true)
    (hK : ∀ W', FL w W' p q x y s1 s2 o1 o2 ((W.heap.size, cs', T) :: L) → wpList Try.prog ops Q rest (a.put ob.dst undef) W') : wpList Try.prog ops Q (ob :: rest) a (W.alloc (.cells cs.toArray T)) :=
  step_stR hw xo yo hop W.heap.size cs'.toArray hx hy cs.toArray hs (by simpa using hold) h1 (Bk.new _ _ _) (hK _ (h.push cs cs' T))
theorem FL.pushz {w W : World} {p q x y : Nat} {s1 s2 : Ps} {o1 o2 : Int} {L : List (Nat × List Value × TypeId)} (h : FL w W p q x y s1 s2 o1 o2 L) (cs : List Value) (T : TypeId) : FL w (W.alloc (.cells cs.toArray T)) p q x y s1 s2 o1 o2 ((W.heap.size, cs, T) :: L) := by
  have h2 := h.step ((Below.refl W.heap.size W).alloc (Nat.le_refl _) (.cells cs.toArray T))
  refine ⟨h2.pp, h2.pq, h2.bx, h2.byy, h2.ne, h2.lo, h2.be, fun b hb' => ?_⟩
  rcases List.mem_cons.1 hb' with rfl | hb'
  · have l1 := h.pp.lt
    have l2 := h.pq.lt
    have l3 := h.bx.lt
    have l4 := h.byy.lt
    refine ⟨Bk.new _ _ _, ?_, ?_, ?_, ?_⟩ <;> (simp only; omega)
  · exact h2.bl b hb'
theorem FL.two {w W : World} {p q x y : Nat} {s1 s2 : Ps} {o1 o2 : Int} {L : List (Nat × List Value × TypeId)} (h : FL w W p q x y s1 s2 o1 o2 L) (cs ds : List Value) (T U : TypeId) : FL w ((W.alloc (.cells cs.toArray T)).alloc (.cells ds.toArray U)) p q x y s1 s2 o1 o2 ((W.heap.size + 1, ds, U) :: (W.heap.size, cs, T) :: L) := by
  have h2 := (h.pushz cs T).pushz ds U
  rw [size_alloc1] at h2
  exact h2
theorem FL.own {w W W' : World} {p q x y g : Nat} {s1 s2 : Ps} {o1 o2 : Int} {cs cs' : List Value} {T : TypeId} {L L' : List (Nat × List Value × TypeId)} (h : FL w W p q x y s1 s2 o1 o2 (L ++ (g, cs, T) :: L')) (hne : ∀ b ∈ L ++ L', b.1 ≠ g) (hgw : w.heap.size ≤ g) (hg : W.grownBy W' (some g)) (hb : Bk g W' cs'.toArray T) : FL w W' p q x y s1 s2 o1 o2 (L ++ (g, cs', T) :: L') := by
  have hk : ∀ k, k < W.heap.size → k ≠ g → W'.heap[k]? = W.heap[k]? := fun k hk hne => hg.block k hk (fun e => hne (Option.some.inj e))
  obtain ⟨b0, b1, b2, b3, b4⟩ := h.bl (g, cs, T) (by simp)
  refine ⟨h.pp.kept (hk _ h.pp.lt (fun e => b1 e.symm)), h.pq.kept (hk _ h.pq.lt (fun e => b2 e.symm)), h.bx.kept (hk _ h.bx.lt (fun e => b3 e.symm)), h.byy.kept (hk _ h.byy.lt (fun e => b4 e.symm)), h.ne, h.lo, h.be.grown hg h.be.size (fun k hk => by injection hk with hk; omega), fun b hb' => ?_⟩
  rcases List.mem_append.1 hb' with h1 | h1
  · have h2 := h.bl b (List.mem_append.2 (.inl h1))
    exact ⟨h2.1.kept (hk _ h2.1.lt (hne b (List.mem_append.2 (.inl h1)))), h2.2⟩
  · rcases List.mem_cons.1 h1 with rfl | h1
    · exact ⟨hb, b1, b2, b3, b4⟩
    · have h2 := h.bl b (List.mem_append.2 (.inr (List.mem_cons_of_mem _ h1)))
      exact ⟨h2.1.kept (hk _ h2.1.lt (hne b (List.mem_append.2 (.inr h1)))), h2.2⟩
theorem step_fown {ops : Array Oper} {rest : List Oper} {ob : Oper} {a : Act} {W : World} {Q : Exit → Act → World → Prop} {T : TypeId} (hw : Region.wanted ob (yielded ops a.tmps) = true) (xo yo : Operand) (hop : ob.op = .store T xo yo)
    (g : Nat) (cs' : List Value) (hx : a.eval xo = .pointer (some ⟨g, 0, none⟩)) (hy : a.eval yo = .agg cs'.toArray) {w : World} {p q x y : Nat} {s1 s2 : Ps} {o1 o2 : Int} {cs : List Value} (L L' : List (Nat × List Value × TypeId)) (h : FL w W p q x y s1 s2 o1 o2 (L ++ (g, cs, T) :: L')) (hne : ∀ b ∈ L ++ L', b.1 ≠ g) (hgw : w.heap.size ≤ g)
    (hs : (Try.prog.info? T).map (·.size) = some cs'.toArray.size) (hold : cs.length = cs'.length) (h1 : cs'.toArray.all (·.oneCell') = true)
    (hK : ∀ W', FL w W' p q x y s1 s2 o1 o2 (L ++ (g, cs', T) :: L') → wpList Try.prog ops Q rest (a.put ob.dst undef) W') : wpList Try.prog ops Q (ob :: rest) a W :=
  step_stR hw xo yo hop g cs'.toArray hx hy cs.toArray hs (by simpa using hold) h1 (h.bl (g, cs, T) (by simp)).1 (hK _ (h.own hne hgw (grownBy_row _ _ _) ((h.bl (g, cs, T) (by simp)).1.row _)))
theorem FL.at {w W : World} {p q x y : Nat} {s1 s2 : Ps} {o1 o2 : Int} {L : List (Nat × List Value × TypeId)} (h : FL w W p q x y s1 s2 o1 o2 L) (g : Nat) (cs : List Value) (T : TypeId) (hm : (g, cs, T) ∈ L) : ∀ j u, cs[j]? = some u → W.cell? ((⟨g, 0, none⟩ : Addr).add j) = some u := cells_of (h.bl _ hm).1
theorem FL.junk {w W W' : World} {p q x y : Nat} {s1 s2 s2' : Ps} {o1 o2 : Int} {L : List (Nat × List Value × TypeId)} (h : FL w W p q x y s1 s2 o1 o2 L) (hp : Pm W' q s2') (hg : W.grownBy W' (some q)) : FL w W' p q x y s1 s2' o1 o2 L := by
  have hk : ∀ k, k < W.heap.size → k ≠ q → W'.heap[k]? = W.heap[k]? := fun k hk hne => hg.block k hk (fun e => hne (Option.some.inj e))
  obtain ⟨n1, n2, n3, n4, n5, n6⟩ := h.ne
  exact ⟨h.pp.kept (hk _ h.pp.lt n1), hp, h.bx.kept (hk _ h.bx.lt (fun e => n4 e.symm)), h.byy.kept (hk _ h.byy.lt (fun e => n5 e.symm)), h.ne, h.lo, h.be.grown hg h.be.size (fun k hk => by have := h.lo.2.1; injection hk with hk; omega), fun b hb => ⟨(h.bl b hb).1.kept (hk _ (h.bl b hb).1.lt (h.bl b hb).2.2.1), (h.bl b hb).2⟩⟩
theorem FL.doesP {w W W' : World} {p q x y : Nat} {s1 s2 s1' : Ps} {o1 o2 o1' : Int} {L : List (Nat × List Value × TypeId)} (h : FL w W p q x y s1 s2 o1 o2 L) (hp : Pm W' p s1') (ho : Bk x W' #[.int .u64 o1'] 23) (hg : G2 p x W W') : FL w W' p q x y s1' s2 o1' o2 L := by
  obtain ⟨n1, n2, n3, n4, n5, n6⟩ := h.ne
  exact ⟨hp, h.pq.kept (hg.block _ h.pq.lt (fun e => n1 e.symm) n4), ho, h.byy.kept (hg.block _ h.byy.lt (fun e => n3 e.symm) (fun e => n6 e.symm)), h.ne, h.lo, G2.below h.be hg h.be.size h.lo.1 h.lo.2.2.1, fun b hb => ⟨(h.bl b hb).1.kept (hg.block _ (h.bl b hb).1.lt (h.bl b hb).2.1 (h.bl b hb).2.2.2.1), (h.bl b hb).2⟩⟩
theorem FL.doesQ {w W W' : World} {p q x y : Nat} {s1 s2 s2' : Ps} {o1 o2 o2' : Int} {L : List (Nat × List Value × TypeId)} (h : FL w W p q x y s1 s2 o1 o2 L) (hp : Pm W' q s2') (ho : Bk y W' #[.int .u64 o2'] 23) (hg : G2 q y W W') : FL w W' p q x y s1 s2' o1 o2' L := by
  obtain ⟨n1, n2, n3, n4, n5, n6⟩ := h.ne
  exact ⟨h.pp.kept (hg.block _ h.pp.lt n1 n3), hp, h.bx.kept (hg.block _ h.bx.lt (fun e => n4 e.symm) n6), ho, h.ne, h.lo, G2.below h.be hg h.be.size h.lo.2.1 h.lo.2.2.2, fun b hb => ⟨(h.bl b hb).1.kept (hg.block _ (h.bl b hb).1.lt (h.bl b hb).2.2.1 (h.bl b hb).2.2.2.2), (h.bl b hb).2⟩⟩
theorem dsS_key (s : Ps) (x : Stp) (org : Int) : (dsS s x org).key = s.key := by
  unfold dsS rqS hrP lrn clr
  (repeat' split) <;> rfl
theorem step_ldatW {ops : Array Oper} {rest : List Oper} {op : Oper} {a : Act} {w : World} {Q : Exit → Act → World → Prop} (hw : Region.wanted op (yielded ops a.tmps) = true) (ty : TypeId) (x : Operand) (ho : op.op = .load ty x)
    (ad : Addr) (hx : a.eval x = .pointer (some ad)) (cs : List Value) (d : TypeDesc) (hu : Try.prog.underlying ty = some d) (hd : d.isRow = true) (hi : (Try.prog.info? ty).map (·.size) = some cs.length)
    (hc : ∀ j u, cs[j]? = some u → w.cell? (ad.add j) = some u)
    (h : wpList Try.prog ops Q rest (a.put op.dst (.agg cs.toArray)) w) : wpList Try.prog ops Q (op :: rest) a w :=
  wpList_step fun K hK => by
    rw [if_pos hw]
    unfold Oper.wp execOp
    simp only [ho, hx, Instr.loadAt, Instr.sureAddr, Sem.run_bind, Sem.run_pure, Result.andThen_ok, run_loadVar_at w ad ty cs d hc hu hd hi]
    exact hK _ _ h
theorem step_valW {ops : Array Oper} {rest : List Oper} {op : Oper} {a : Act} {w : World} {Q : Exit → Act → World → Prop} (hw : Region.wanted op (yielded ops a.tmps) = true) (v : Value) (hr : (execOp a.eval op).run Try.prog w = .ok (.value v) w)
    (h : wpList Try.prog ops Q rest (a.put op.dst v) w) : wpList Try.prog ops Q (op :: rest) a w :=
  wpList_step fun K hK => by
    rw [if_pos hw]
    unfold Oper.wp
    rw [hr]
    exact hK _ _ h
end Go.Proofs.Ytlggademcmkihaa
