/- same, of a packet and itself. -/
import Derived.Test.YtlggademcmkihaaIA
import Derived.Test.YtlggademcmkihaaIF
import Derived.Deep.Cut
import Derived.Test.YtlggademcmkihaaZa
namespace Go.Proofs.Ytlggademcmkihaa
open Go Go.RowKit Go.Sort
set_option maxRecDepth 20000 in
set_option maxHeartbeats 1000000 in
theorem same_any (q : Pk) (w : World) : Calls Try.prog 15 #[.agg (pkC q).toArray, .agg (pkC q).toArray] w fun e w' => e = .returned (.bool true) ∧ Below w.heap.size w w' := by
  go_enter Try.func15, Try.ntmps15
  refine post_hid fun Q hQ => ?_
  refine seq_hid fun R hR => ?_
  go_wp2_with fail
  refine world_hid fun W hW => ?_
  have HW : Hid (Bk w.heap.size W (pkC q).toArray 44 ∧ Bk (w.heap.size + 1) W (pkC q).toArray 44 ∧ Below w.heap.size w W) := by
    rw [hW.out]
    have h1 := Bk.new w (pkC q).toArray 44
    have h2 := Bk.new (w.alloc (.cells (pkC q).toArray 44)) (pkC q).toArray 44
    rw [size_alloc1] at h2
    exact ⟨h1.kept (((Below.refl _ _).alloc (Nat.le_refl _) _).block _ (by simp)), h2, ((Below.refl _ _).alloc (Nat.le_refl _) _).alloc (by simp) _⟩
  clear hW
  rw [hR.out]
  clear hR
  have a0 : W.cell? ⟨w.heap.size, 0, none⟩ = some (.int .i64 q.leap) := HW.out.1.cell 0
  have b0 : W.cell? ⟨w.heap.size + 1, 0, none⟩ = some (.int .i64 q.leap) := HW.out.2.1.cell 0
  have a1 : W.cell? ⟨w.heap.size, 1, none⟩ = some (.int .i64 q.ver) := HW.out.1.cell 1
  have b1 : W.cell? ⟨w.heap.size + 1, 1, none⟩ = some (.int .i64 q.ver) := HW.out.2.1.cell 1
  have a2 : W.cell? ⟨w.heap.size, 2, none⟩ = some (.int .i64 q.mode) := HW.out.1.cell 2
  have b2 : W.cell? ⟨w.heap.size + 1, 2, none⟩ = some (.int .i64 q.mode) := HW.out.2.1.cell 2
  have a3 : W.cell? ⟨w.heap.size, 3, none⟩ = some (.int .i64 q.str) := HW.out.1.cell 3
  have b3 : W.cell? ⟨w.heap.size + 1, 3, none⟩ = some (.int .i64 q.str) := HW.out.2.1.cell 3
  have a4 : W.cell? ⟨w.heap.size, 4, none⟩ = some (.int .i64 q.poll) := HW.out.1.cell 4
  have b4 : W.cell? ⟨w.heap.size + 1, 4, none⟩ = some (.int .i64 q.poll) := HW.out.2.1.cell 4
  have a5 : W.cell? ⟨w.heap.size, 5, none⟩ = some (.int .i64 q.prec) := HW.out.1.cell 5
  have b5 : W.cell? ⟨w.heap.size + 1, 5, none⟩ = some (.int .i64 q.prec) := HW.out.2.1.cell 5
  have a6 : W.cell? ⟨w.heap.size, 6, none⟩ = some (.int .i64 q.del) := HW.out.1.cell 6
  have b6 : W.cell? ⟨w.heap.size + 1, 6, none⟩ = some (.int .i64 q.del) := HW.out.2.1.cell 6
  have a7 : W.cell? ⟨w.heap.size, 7, none⟩ = some (.int .i64 q.dis) := HW.out.1.cell 7
  have b7 : W.cell? ⟨w.heap.size + 1, 7, none⟩ = some (.int .i64 q.dis) := HW.out.2.1.cell 7
  have a8 : W.cell? ⟨w.heap.size, 8, none⟩ = some (.int .u32 q.rid) := HW.out.1.cell 8
  have b8 : W.cell? ⟨w.heap.size + 1, 8, none⟩ = some (.int .u32 q.rid) := HW.out.2.1.cell 8
  have a9 : W.cell? ⟨w.heap.size, 9, none⟩ = some (.int .u64 q.ref) := HW.out.1.cell 9
  have b9 : W.cell? ⟨w.heap.size + 1, 9, none⟩ = some (.int .u64 q.ref) := HW.out.2.1.cell 9
  have a10 : W.cell? ⟨w.heap.size, 10, none⟩ = some (.int .u64 q.org) := HW.out.1.cell 10
  have b10 : W.cell? ⟨w.heap.size + 1, 10, none⟩ = some (.int .u64 q.org) := HW.out.2.1.cell 10
  have a11 : W.cell? ⟨w.heap.size, 11, none⟩ = some (.int .u64 q.rc) := HW.out.1.cell 11
  have b11 : W.cell? ⟨w.heap.size + 1, 11, none⟩ = some (.int .u64 q.rc) := HW.out.2.1.cell 11
  have a12 : W.cell? ⟨w.heap.size, 12, none⟩ = some (.int .u64 q.xmt) := HW.out.1.cell 12
  have b12 : W.cell? ⟨w.heap.size + 1, 12, none⟩ = some (.int .u64 q.xmt) := HW.out.2.1.cell 12
  have a13 : W.cell? ⟨w.heap.size, 13, none⟩ = some (.slice q.eo q.en q.ec) := HW.out.1.cell 13
  have b13 : W.cell? ⟨w.heap.size + 1, 13, none⟩ = some (.slice q.eo q.en q.ec) := HW.out.2.1.cell 13
  have a14 : W.cell? ⟨w.heap.size, 14, none⟩ = some (.int .i64 q.key) := HW.out.1.cell 14
  have b14 : W.cell? ⟨w.heap.size + 1, 14, none⟩ = some (.int .i64 q.key) := HW.out.2.1.cell 14
  have a15 : W.cell? ⟨w.heap.size, 15, none⟩ = some (.bool q.nak) := HW.out.1.cell 15
  have b15 : W.cell? ⟨w.heap.size + 1, 15, none⟩ = some (.bool q.nak) := HW.out.2.1.cell 15
  have a16 : W.cell? ⟨w.heap.size, 16, none⟩ = some (.slice q.mo q.mn q.mc) := HW.out.1.cell 16
  have b16 : W.cell? ⟨w.heap.size + 1, 16, none⟩ = some (.slice q.mo q.mn q.mc) := HW.out.2.1.cell 16
  go_wp2_with fail
  rw [hQ.out]
  go_ret
  exact ⟨rfl, HW.out.2.2⟩
end Go.Proofs.Ytlggademcmkihaa
/- Two peers that know the same. -/
namespace Go.Proofs.Ytlggademcmkihaa
open Go Go.RowKit Go.Sort
/-- a slice of slices of steps -/
structure Sxx (N : Nat) (w : World) (v : Value) (xss : List (List Stp)) : Prop where
  ex : ∃ ao cap, v = .slice ao xss.length cap ∧ ∀ (k : Nat) (xs : List Stp), xss[k]? = some xs → ∃ ad v', ao = some ad ∧ ad.block < N ∧ w.cell? (ad.add k) = some v' ∧ Sx N w v' xs
  len : xss.length ≤ 9223372036854775807
theorem Sxx.below {N B : Nat} {w w' : World} {v : Value} {xss : List (List Stp)} (h : Sxx N w v xss) (hb : Below B w w') (hN : N ≤ B) : Sxx N w' v xss := by
  obtain ⟨⟨ao, cap, h1, h2⟩, h4⟩ := h
  refine ⟨⟨ao, cap, h1, fun k xs hk => ?_⟩, h4⟩
  obtain ⟨ad, v', k1, k2, k3, k4⟩ := h2 k xs hk
  exact ⟨ad, v', k1, k2, (hb.cell (p := ad.add k) (by rw [add_block]; omega)).trans k3, k4.below hb hN⟩
theorem Sxx.at {N : Nat} {w : World} {ao : Option Addr} {n cap : Nat} {xss : List (List Stp)} (h : Sxx N w (.slice ao n cap) xss) (k : Nat) (xs : List Stp) (hk : xss[k]? = some xs) : ∃ (ad : Addr) (v' : Value), (∀ u, Sem.run Try.prog (Instr.indexAt 76 (.slice ao n cap) (.int .i64 (k : Int))) u = .ok (.pointer (some ad)) u) ∧ ad.block < N ∧ w.cell? ad = some v' ∧ Sx N w v' xs := by
  obtain ⟨⟨ao', cap', h1, h2⟩, _⟩ := h
  injection h1 with e1 e2 e3
  subst e1 e2 e3
  obtain ⟨ad, v', k1, k2, k3, k4⟩ := h2 k xs hk
  have hkl : k < xss.length := by
    rcases Nat.lt_or_ge k xss.length with hlt | hge
    · exact hlt
    · rw [List.getElem?_eq_none hge] at hk; cases hk
  refine ⟨ad.add k, v', fun u => ?_, by rw [add_block]; exact k2, k3, k4⟩
  subst k1
  have u' := Try.underlying76
  have c3 : Try.prog.cellsOf 32 = 1 := by kernel_rfl
  have h0 : (0 : Int) ≤ k := Int.natCast_nonneg k
  have h1 : (k : Int) < xss.length := by omega
  go_simp
/-- two peers that know the same, and what each has asked last -/
structure FW (w W : World) (p q x y : Nat) (s : Ps) (org : Int) : Prop where
  pp : Pm W p s
  pq : Pm W q s
  bx : Bk x W #[.int .u64 org] 23
  byy : Bk y W #[.int .u64 org] 23
  ne : p ≠ q ∧ p ≠ x ∧ p ≠ y ∧ q ≠ x ∧ q ≠ y ∧ x ≠ y
  lo : w.heap.size ≤ p ∧ w.heap.size ≤ q ∧ w.heap.size ≤ x ∧ w.heap.size ≤ y
  be : Below w.heap.size w W
  ok : okS s
  o64 : U64 org
  ky : s.key ≠ 0
/-- within a round: both peers, what each has asked last, the round's own blocks -/
structure FL (w W : World) (p q x y : Nat) (s1 s2 : Ps) (o1 o2 : Int) (L : List (Nat × List Value × TypeId)) : Prop where
  pp : Pm W p s1
  pq : Pm W q s2
  bx : Bk x W #[.int .u64 o1] 23
  byy : Bk y W #[.int .u64 o2] 23
  ne : p ≠ q ∧ p ≠ x ∧ p ≠ y ∧ q ≠ x ∧ q ≠ y ∧ x ≠ y
  lo : w.heap.size ≤ p ∧ w.heap.size ≤ q ∧ w.heap.size ≤ x ∧ w.heap.size ≤ y
  be : Below w.heap.size w W
  bl : ∀ b ∈ L, Bk b.1 W b.2.1.toArray b.2.2 ∧ b.1 ≠ p ∧ b.1 ≠ q ∧ b.1 ≠ x ∧ b.1 ≠ y
theorem FL.step {w W W' : World} {p q x y : Nat} {s1 s2 : Ps} {o1 o2 : Int} {L : List (Nat × List Value × TypeId)} (h : FL w W p q x y s1 s2 o1 o2 L) (hb : Below W.heap.size W W') : FL w W' p q x y s1 s2 o1 o2 L :=
  ⟨h.pp.kept (hb.block _ h.pp.lt), h.pq.kept (hb.block _ h.pq.lt), h.bx.kept (hb.block _ h.bx.lt), h.byy.kept (hb.block _ h.byy.lt), h.ne, h.lo, h.be.trans (hb.mono h.be.size), fun b hb' => ⟨(h.bl b hb').1.kept (hb.block _ (h.bl b hb').1.lt), (h.bl b hb').2⟩⟩
theorem FL.push {w W : World} {p q x y : Nat} {s1 s2 : Ps} {o1 o2 : Int} {L : List (Nat × List Value × TypeId)} (h : FL w W p q x y s1 s2 o1 o2 L) (cs cs' : List Value) (T : TypeId) : FL w ((W.alloc (.cells cs.toArray T)).setRow W.heap.size cs'.toArray) p q x y s1 s2 o1 o2 ((W.heap.size, cs', T) :: L) := by
  have hb : Below W.heap.size W ((W.alloc (.cells cs.toArray T)).setRow W.heap.size cs'.toArray) := below_row ((Below.refl _ _).alloc (Nat.le_refl _) _) (Nat.le_refl _) _
  have h2 := h.step hb
  refine ⟨h2.pp, h2.pq, h2.bx, h2.byy, h2.ne, h2.lo, h2.be, fun b hb' => ?_⟩
  rcases List.mem_cons.1 hb' with rfl | hb'
  · have l1 := h.pp.lt
    have l2 := h.pq.lt
    have l3 := h.bx.lt
    have l4 := h.byy.lt
    refine ⟨(Bk.new _ _ _).row _, ?_, ?_, ?_, ?_⟩ <;> (simp only; omega)
  · exact h2.bl b hb'
/-- a block just made is stored -/
theorem step_fnew {ops : Array Oper} {rest : List Oper} {ob : Oper} {a : Act} {W : World} {Q : Exit → Act → World → Prop} {T : TypeId} (hw : Region.wanted ob (yielded ops a.tmps) = true) (xo yo : Operand) (hop : ob.op = .store T xo yo)
    (cs cs' : List Value) (hx : a.eval xo = .pointer (some ⟨W.heap.size, 0, none⟩)) (hy : a.eval yo = .agg cs'.toArray) {w : World} {p q x y : Nat} {s1 s2 : Ps} {o1 o2 : Int} {L : List (Nat × List Value × TypeId)} (h : FL w W p q x y s1 s2 o1 o2 L)
    (hs : (Try.prog.info? T).map (·.size) = some cs'.toArray.size) (hold : cs.length = cs'.length) (h1 : cs'.toArray.all (·.oneCell') = true)
    (hK : ∀ W', FL w W' p q x y s1 s2 o1 o2 ((W.heap.size, cs', T) :: L) → wpList Try.prog ops Q rest (a.put ob.dst undef) W') : wpList Try.prog ops Q (ob :: rest) a (W.alloc (.cells cs.toArray T)) :=
  step_stR hw xo yo hop W.heap.size cs'.toArray hx hy cs.toArray hs (by simpa using hold) h1 (Bk.new _ _ _) (hK _ (h.push cs cs' T))
theorem FL.pushz {w W : World} {p q x y : Nat} {s1 s2 : Ps} {o1 o2 : Int} {L : List (Nat × List Value × TypeId)} (h : FL w W p q x y s1 s2 o1 o2 L) (cs : List Value) (T : TypeId) : FL w (W.alloc (.cells cs.toArray T)) p q x y s1 s2 o1 o2 ((W.heap.size, cs, T) :: L) := by
  have h2 := h.step ((Below.refl W.heap.size W).alloc (Nat.le_refl _) (.cells cs.toArray T))
  refine ⟨h2.pp, h2.pq, h2.bx, h2.byy, h2.ne, h2.lo, h2.be, fun b hb' => ?_⟩
  rcases List.mem_cons.1 hb' with rfl | hb'
  · have l1 := h.pp.lt
    have l2 := h.pq.lt
    have l3 := h.bx.lt
    have l4 := h.byy.lt
    refine ⟨Bk.new _ _ _, ?_, ?_, ?_, ?_⟩ <;> (simp only; omega)
  · exact h2.bl b hb'
theorem FL.two {w W : World} {p q x y : Nat} {s1 s2 : Ps} {o1 o2 : Int} {L : List (Nat × List Value × TypeId)} (h : FL w W p q x y s1 s2 o1 o2 L) (cs ds : List Value) (T U : TypeId) : FL w ((W.alloc (.cells cs.toArray T)).alloc (.cells ds.toArray U)) p q x y s1 s2 o1 o2 ((W.heap.size + 1, ds, U) :: (W.heap.size, cs, T) :: L) := by
  have h2 := (h.pushz cs T).pushz ds U
  rw [size_alloc1] at h2
  exact h2
theorem FL.own {w W W' : World} {p q x y g : Nat} {s1 s2 : Ps} {o1 o2 : Int} {cs cs' : List Value} {T : TypeId} {L L' : List (Nat × List Value × TypeId)} (h : FL w W p q x y s1 s2 o1 o2 (L ++ (g, cs, T) :: L')) (hne : ∀ b ∈ L ++ L', b.1 ≠ g) (hgw : w.heap.size ≤ g) (hg : W.grownBy W' (some g)) (hb : Bk g W' cs'.toArray T) : FL w W' p q x y s1 s2 o1 o2 (L ++ (g, cs', T) :: L') := by
  have hk : ∀ k, k < W.heap.size → k ≠ g → W'.heap[k]? = W.heap[k]? := fun k hk hne => hg.block k hk (fun e => hne (Option.some.inj e))
  obtain ⟨b0, b1, b2, b3, b4⟩ := h.bl (g, cs, T) (by simp)
  refine ⟨h.pp.kept (hk _ h.pp.lt (fun e => b1 e.symm)), h.pq.kept (hk _ h.pq.lt (fun e => b2 e.symm)), h.bx.kept (hk _ h.bx.lt (fun e => b3 e.symm)), h.byy.kept (hk _ h.byy.lt (fun e => b4 e.symm)), h.ne, h.lo, h.be.grown hg h.be.size (fun k hk => by injection hk with hk; omega), fun b hb' => ?_⟩
  rcases List.mem_append.1 hb' with h1 | h1
  · have h2 := h.bl b (List.mem_append.2 (.inl h1))
    exact ⟨h2.1.kept (hk _ h2.1.lt (hne b (List.mem_append.2 (.inl h1)))), h2.2⟩
  · rcases List.mem_cons.1 h1 with rfl | h1
    · exact ⟨hb, b1, b2, b3, b4⟩
    · have h2 := h.bl b (List.mem_append.2 (.inr (List.mem_cons_of_mem _ h1)))
      exact ⟨h2.1.kept (hk _ h2.1.lt (hne b (List.mem_append.2 (.inr h1)))), h2.2⟩
theorem step_fown {ops : Array Oper} {rest : List Oper} {ob : Oper} {a : Act} {W : World} {Q : Exit → Act → World → Prop} {T : TypeId} (hw : Region.wanted ob (yielded ops a.tmps) = true) (xo yo : Operand) (hop : ob.op = .store T xo yo)
    (g : Nat) (cs' : List Value) (hx : a.eval xo = .pointer (some ⟨g, 0, none⟩)) (hy : a.eval yo = .agg cs'.toArray) {w : World} {p q x y : Nat} {s1 s2 : Ps} {o1 o2 : Int} {cs : List Value} (L L' : List (Nat × List Value × TypeId)) (h : FL w W p q x y s1 s2 o1 o2 (L ++ (g, cs, T) :: L')) (hne : ∀ b ∈ L ++ L', b.1 ≠ g) (hgw : w.heap.size ≤ g)
    (hs : (Try.prog.info? T).map (·.size) = some cs'.toArray.size) (hold : cs.length = cs'.length) (h1 : cs'.toArray.all (·.oneCell') = true)
    (hK : ∀ W', FL w W' p q x y s1 s2 o1 o2 (L ++ (g, cs', T) :: L') → wpList Try.prog ops Q rest (a.put ob.dst undef) W') : wpList Try.prog ops Q (ob :: rest) a W :=
  step_stR hw xo yo hop g cs'.toArray hx hy cs.toArray hs (by simpa using hold) h1 (h.bl (g, cs, T) (by simp)).1 (hK _ (h.own hne hgw (grownBy_row _ _ _) ((h.bl (g, cs, T) (by simp)).1.row _)))
theorem FL.at {w W : World} {p q x y : Nat} {s1 s2 : Ps} {o1 o2 : Int} {L : List (Nat × List Value × TypeId)} (h : FL w W p q x y s1 s2 o1 o2 L) (g : Nat) (cs : List Value) (T : TypeId) (hm : (g, cs, T) ∈ L) : ∀ j u, cs[j]? = some u → W.cell? ((⟨g, 0, none⟩ : Addr).add j) = some u := cells_of (h.bl _ hm).1
theorem FL.junk {w W W' : World} {p q x y : Nat} {s1 s2 s2' : Ps} {o1 o2 : Int} {L : List (Nat × List Value × TypeId)} (h : FL w W p q x y s1 s2 o1 o2 L) (hp : Pm W' q s2') (hg : W.grownBy W' (some q)) : FL w W' p q x y s1 s2' o1 o2 L := by
  have hk : ∀ k, k < W.heap.size → k ≠ q → W'.heap[k]? = W.heap[k]? := fun k hk hne => hg.block k hk (fun e => hne (Option.some.inj e))
  obtain ⟨n1, n2, n3, n4, n5, n6⟩ := h.ne
  exact ⟨h.pp.kept (hk _ h.pp.lt n1), hp, h.bx.kept (hk _ h.bx.lt (fun e => n4 e.symm)), h.byy.kept (hk _ h.byy.lt (fun e => n5 e.symm)), h.ne, h.lo, h.be.grown hg h.be.size (fun k hk => by have := h.lo.2.1; injection hk with hk; omega), fun b hb => ⟨(h.bl b hb).1.kept (hk _ (h.bl b hb).1.lt (h.bl b hb).2.2.1), (h.bl b hb).2⟩⟩
theorem FL.doesP {w W W' : World} {p q x y : Nat} {s1 s2 s1' : Ps} {o1 o2 o1' : Int} {L : List (Nat × List Value × TypeId)} (h : FL w W p q x y s1 s2 o1 o2 L) (hp : Pm W' p s1') (ho : Bk x W' #[.int .u64 o1'] 23) (hg : G2 p x W W') : FL w W' p q x y s1' s2 o1' o2 L := by
  obtain ⟨n1, n2, n3, n4, n5, n6⟩ := h.ne
  exact ⟨hp, h.pq.kept (hg.block _ h.pq.lt (fun e => n1 e.symm) n4), ho, h.byy.kept (hg.block _ h.byy.lt (fun e => n3 e.symm) (fun e => n6 e.symm)), h.ne, h.lo, G2.below h.be hg h.be.size h.lo.1 h.lo.2.2.1, fun b hb => ⟨(h.bl b hb).1.kept (hg.block _ (h.bl b hb).1.lt (h.bl b hb).2.1 (h.bl b hb).2.2.2.1), (h.bl b hb).2⟩⟩
theorem FL.doesQ {w W W' : World} {p q x y : Nat} {s1 s2 s2' : Ps} {o1 o2 o2' : Int} {L : List (Nat × List Value × TypeId)} (h : FL w W p q x y s1 s2 o1 o2 L) (hp : Pm W' q s2') (ho : Bk y W' #[.int .u64 o2'] 23) (hg : G2 q y W W') : FL w W' p q x y s1 s2' o1 o2' L := by
  obtain ⟨n1, n2, n3, n4, n5, n6⟩ := h.ne
  exact ⟨h.pp.kept (hg.block _ h.pp.lt n1 n3), hp, h.bx.kept (hg.block _ h.bx.lt (fun e => n4 e.symm) n6), ho, h.ne, h.lo, G2.below h.be hg h.be.size h.lo.2.1 h.lo.2.2.2, fun b hb => ⟨(h.bl b hb).1.kept (hg.block _ (h.bl b hb).1.lt (h.bl b hb).2.2.1 (h.bl b hb).2.2.2.2), (h.bl b hb).2⟩⟩
theorem dsS_key (s : Ps) (x : Stp) (org : Int) : (dsS s x org).key = s.key := by
  unfold dsS rqS hrP lrn clr
  (repeat' split) <;> rfl
theorem step_ldatW {ops : Array Oper} {rest : List Oper} {op : Oper} {a : Act} {w : World} {Q : Exit → Act → World → Prop} (hw : Region.wanted op (yielded ops a.tmps) = true) (ty : TypeId) (x : Operand) (ho : op.op = .load ty x)
    (ad : Addr) (hx : a.eval x = .pointer (some ad)) (cs : List Value) (d : TypeDesc) (hu : Try.prog.underlying ty = some d) (hd : d.isRow = true) (hi : (Try.prog.info? ty).map (·.size) = some cs.length)
    (hc : ∀ j u, cs[j]? = some u → w.cell? (ad.add j) = some u)
    (h : wpList Try.prog ops Q rest (a.put op.dst (.agg cs.toArray)) w) : wpList Try.prog ops Q (op :: rest) a w :=
  wpList_step fun K hK => by
    rw [if_pos hw]
    unfold Oper.wp execOp
    simp only [ho, hx, Instr.loadAt, Instr.sureAddr, Sem.run_bind, Sem.run_pure, Result.andThen_ok, run_loadVar_at w ad ty cs d hc hu hd hi]
    exact hK _ _ h
theorem step_valW {ops : Array Oper} {rest : List Oper} {op : Oper} {a : Act} {w : World} {Q : Exit → Act → World → Prop} (hw : Region.wanted op (yielded ops a.tmps) = true) (v : Value) (hr : (execOp a.eval op).run Try.prog w = .ok (.value v) w)
    (h : wpList Try.prog ops Q rest (a.put op.dst v) w) : wpList Try.prog ops Q (op :: rest) a w :=
  wpList_step fun K hK => by
    rw [if_pos hw]
    unfold Oper.wp
    rw [hr]
    exact hK _ _ h
end Go.Proofs.Ytlggademcmkihaa
/- Slices of steps, opened. -/
namespace Go.Proofs.Ytlggademcmkihaa
open Go.ChangeShapes Go.WideShapes Go.ChangeAt Go.RowKit Go.Deep
theorem open_stepsX {H : Type} {enc : TypeId × Value → H} {w : World} {base : Nat} {spare : Nat → Bool} {held : Bool} {fuel : Nat} {c : Value} {x : DataW H × List MemPlace}
    (h : DataW.trod enc Try.prog w base spare held fuel 32 [c] = some x) : ∃ ss : List Stp, Sx w.heap.size w c ss := by
  have ht := Try.underlying32
  have ce : Try.prog.cellsOf 46 = 32 := by kernel_rfl
  rcases open_slice ht h with ⟨hcs, _⟩ | ⟨a, len, cap, m, n, D, Pl, hcs, hb, hl, hm, hmm, hxd, hx⟩
  · simp at hcs
    exact ⟨[], ⟨⟨none, 0, (by rw [hcs]; rfl), fun k x hk => (by simp at hk)⟩, fun s hs => (by cases hs), (by simp)⟩⟩
  · simp at hcs
    have hlm : len ≤ m := by rw [hmm]; split <;> omega
    have each : ∀ i, ∃ r : Stp, i < len → (∀ j u, (spC r)[j]? = some u → w.cell? ((a.add (i * 32)).add j) = some u) ∧ okX r := fun i => by
      by_cases hi : i < len
      · obtain ⟨cs', h1, h2⟩ := hx i (by omega)
        rw [ce] at h1
        obtain ⟨_, hlen, hcell⟩ := World.cells?_some h1
        obtain ⟨s, rfl, ok⟩ := open_step hlen h2
        refine ⟨s, fun _ => ⟨fun j u hu => ?_, ok⟩⟩
        have hj : j < 32 := by
          rcases Nat.lt_or_ge j 32 with hlt | hge
          · exact hlt
          · rw [List.getElem?_eq_none (by rw [spC_len]; exact hge)] at hu; cases hu
        rw [hcell j hj]
        exact hu
      · exact ⟨sp0, fun h => absurd h hi⟩
    obtain ⟨F, hF⟩ := Classical.axiomOfChoice each
    have hlen : ((List.range len).map F).length = len := by simp
    refine ⟨(List.range len).map F, ⟨⟨some a, cap, (by rw [hlen]; exact hcs), fun k x hk => ?_⟩, fun s hs => ?_, ?_⟩⟩
    · have hkl : k < len := by
        rcases Nat.lt_or_ge k len with hlt | hge
        · exact hlt
        · rw [List.getElem?_eq_none (by rw [hlen]; exact hge)] at hk; cases hk
      rw [List.getElem?_map, List.getElem?_range hkl] at hk
      simp at hk
      subst hk
      refine ⟨a, rfl, ?_, (hF k hkl).1⟩
      have := World.block_lt_of_cell? w _ ((hF k hkl).1 0 _ rfl)
      rwa [add_block, add_block] at this
    · obtain ⟨i, hi, rfl⟩ := List.mem_map.1 hs
      exact (hF i (List.mem_range.1 hi)).2
    · rw [hlen]
      have : cap ≤ maxLen := hm
      unfold maxLen at this
      omega
theorem open_stepss {H : Type} {enc : TypeId × Value → H} {w : World} {base : Nat} {spare : Nat → Bool} {held : Bool} {fuel : Nat} {c : Value} {x : DataW H × List MemPlace}
    (h : DataW.trod enc Try.prog w base spare held fuel 76 [c] = some x) : ∃ ss : List (List Stp), Sxx w.heap.size w c ss := by
  have ht := Try.underlying76
  have ce : Try.prog.cellsOf 32 = 1 := by kernel_rfl
  rcases open_slice ht h with ⟨hcs, _⟩ | ⟨a, len, cap, m, n, D, Pl, hcs, hb, hl, hm, hmm, hxd, hx⟩
  · simp at hcs
    exact ⟨[], ⟨⟨none, 0, (by rw [hcs]; rfl), fun k x hk => (by simp at hk)⟩, (by simp)⟩⟩
  · simp at hcs
    have hlm : len ≤ m := by rw [hmm]; split <;> omega
    have each : ∀ i, ∃ r : Value × List Stp, i < len → w.cell? (a.add i) = some r.1 ∧ Sx w.heap.size w r.1 r.2 := fun i => by
      by_cases hi : i < len
      · obtain ⟨cs', h1, h2⟩ := hx i (by omega)
        rw [ce] at h1
        obtain ⟨_, hlen, hcell⟩ := World.cells?_some h1
        obtain ⟨c0, rfl⟩ := list1 hlen
        obtain ⟨ss, hss⟩ := open_stepsX h2
        refine ⟨(c0, ss), fun _ => ⟨?_, hss⟩⟩
        have := hcell 0 (by omega)
        rw [add_add, Nat.add_zero, Nat.mul_one] at this
        simpa using this
      · exact ⟨(.slice none 0 0, []), fun h => absurd h hi⟩
    obtain ⟨F, hF⟩ := Classical.axiomOfChoice each
    have hlen : ((List.range len).map (fun i => (F i).2)).length = len := by simp
    refine ⟨(List.range len).map (fun i => (F i).2), ⟨⟨some a, cap, (by rw [hlen]; exact hcs), fun k x hk => ?_⟩, ?_⟩⟩
    · have hkl : k < len := by
        rcases Nat.lt_or_ge k len with hlt | hge
        · exact hlt
        · rw [List.getElem?_eq_none (by rw [hlen]; exact hge)] at hk; cases hk
      rw [List.getElem?_map, List.getElem?_range hkl] at hk
      simp at hk
      subst hk
      refine ⟨a, (F k).1, rfl, ?_, (hF k hkl).1, (hF k hkl).2⟩
      have := World.block_lt_of_cell? w _ (hF k hkl).1
      rwa [add_block] at this
    · rw [hlen]
      have : cap ≤ maxLen := hm
      unfold maxLen at this
      omega
end Go.Proofs.Ytlggademcmkihaa
/- A peer of the program and one of the reference that know the same. -/
namespace Go.Proofs.Ytlggademcmkihaa
open Go Go.RowKit Go.Sort
theorem rhear_any (p : Nat) (a : As) (s : Ps) (rq : Int) (q : Pk) (rec : Int) (au : Bool) (w : World) (h : Rm w p a s rq) (hs : okS s) (hq : okP q) : Calls Try.prog 16 #[.pointer (some ⟨p, 0, none⟩), .agg (pkC q).toArray, .int .u64 rec, .bool au] w fun e w' => e = .returned (.tuple #[.int .i64 (vdI s q au), .agg (smL (hrS s q rec au)).toArray]) ∧ (∃ rq', Rm w' p a (hrP s q rec au) rq') ∧ w.grownBy w' (some p) := by
  have hr := vd_rng s q au
  obtain ⟨V, hV⟩ : ∃ V, vdI s q au = V := ⟨_, rfl⟩
  rw [hV] at hr
  unfold hrS hrP lrn
  have : V = 0 ∨ V = 1 ∨ V = 2 ∨ V = 3 ∨ V = 4 ∨ V = 5 ∨ V = 6 ∨ V = 7 ∨ V = 8 ∨ V = 9 ∨ V = 10 := by omega
  rcases this with rfl | rfl | rfl | rfl | rfl | rfl | rfl | rfl | rfl | rfl | rfl <;> rw [hV]
  · exact rhear_0 p a s rq q rec au w h hs hq hV
  · exact rhear_1 p a s rq q rec au w h hs hq hV
  · exact rhear_2 p a s rq q rec au w h hs hq hV
  · exact rhear_3 p a s rq q rec au w h hs hq hV _ rfl
  · exact rhear_4 p a s rq q rec au w h hs hq hV _ rfl
  · exact rhear_5 p a s rq q rec au w h hs hq hV
  · exact rhear_6 p a s rq q rec au w h hs hq hV
  · exact rhear_7 p a s rq q rec au w h hs hq hV
  · exact rhear_8 p a s rq q rec au w h hs hq hV
  · exact rhear_9 p a s rq q rec au w h hs hq hV
  · exact rhear_10 p a s rq q rec au w h hs hq hV
set_option maxRecDepth 20000 in
set_option maxHeartbeats 400000 in
theorem ltold_any (t : Td) (w : World) : Calls Try.prog 18 #[.agg (tdL t).toArray] w fun e w' => e = .returned (.agg (tdL t).toArray) ∧ Below w.heap.size w w' := by
  go_enter Try.func18, Try.ntmps18
  refine post_hid fun Q hQ => ?_
  refine seq_hid fun R hR => ?_
  go_wp2
  refine world_hid fun W hW => ?_
  have hB : Below w.heap.size w W := by rw [hW.out]; exact ((Below.refl _ _).alloc (Nat.le_refl _) _).alloc (by simp) _
  have hK : Bk w.heap.size W (tdL t).toArray 60 := by rw [hW.out]; exact (Bk.new w _ _).kept (((Below.refl _ _).alloc (Nat.le_refl _) _).block _ (by simp))
  have HZ : Hid (Bk (w.heap.size + 1) W tdZ 58) := by
    show Bk _ _ _ _
    rw [hW.out]
    have := Bk.new (w.alloc (.cells (tdL t).toArray 60)) tdZ 58
    rw [size_alloc1] at this
    exact this
  have HT : Hid (∀ j u, (tdL t)[j]? = some u → W.cell? ((⟨w.heap.size, 0, none⟩ : Addr).add j) = some u) := cells_of hK
  have HB : Hid (Below w.heap.size w W) := hB
  clear hW hB hK
  rw [hR.out]
  clear hR
  go_wp2_with (first
    | (refine step_ldat 60 _ rfl rfl ⟨w.heap.size, 0, none⟩ (by rfl) (tdL t) _ Try.underlying60 rfl (by kernel_rfl) HT.out ?_)
    | (refine step_stR (by rfl) _ _ rfl (w.heap.size + 1) (tdL t).toArray (by rfl) (by rfl) tdZ (by kernel_rfl) (by kernel_rfl) (tdL_one _) HZ.out ?_))
  rw [hQ.out]
  exact bodyPost_ret (v := .agg (tdL t).toArray) (results_cell_row Try.results18 _ _ (w.heap.size + 1) _ _ (0, 0) _ (by rfl) (setRow_heap _ _ _ _ _ _ HZ.out) Try.underlying58 rfl (by kernel_rfl)) rfl ⟨rfl, below_row HB.out (Nat.le_succ _) _⟩
set_option maxRecDepth 20000 in
theorem ne_rtd (t : Td) (o : Oper) (a : Act) (x y : Operand) (ho : o.op = .binOp .neq 58 x y 58) (hx : a.eval x = .agg (tdL t).toArray) (hy : a.eval y = .agg (tdL t).toArray) (u : World) : (execOp a.eval o).run Try.prog u = .ok (.value (.bool false)) u := by
  obtain ⟨t0, t1, t2, t3, t4, t5, t6, t7⟩ := t
  unfold tdL at hx hy
  unfold execOp
  simp only [ho, hx, hy]
  go_simp
/-- within a round: both peers, what was asked last, the round's own blocks -/
structure SL (w W : World) (p d x : Nat) (a : As) (s1 s2 : Ps) (rq org : Int) (L : List (Nat × List Value × TypeId)) : Prop where
  pp : Pm W p s1
  pd : Rm W d a s2 rq
  bx : Bk x W #[.int .u64 org] 23
  ne : p ≠ d ∧ p ≠ x ∧ d ≠ x
  lo : w.heap.size ≤ p ∧ w.heap.size ≤ d ∧ w.heap.size ≤ x
  be : Below w.heap.size w W
  bl : ∀ b ∈ L, Bk b.1 W b.2.1.toArray b.2.2 ∧ b.1 ≠ p ∧ b.1 ≠ d ∧ b.1 ≠ x
theorem SL.step {w W W' : World} {p d x : Nat} {a : As} {s1 s2 : Ps} {rq org : Int} {L : List (Nat × List Value × TypeId)} (h : SL w W p d x a s1 s2 rq org L) (hb : Below W.heap.size W W') : SL w W' p d x a s1 s2 rq org L :=
  ⟨h.pp.kept (hb.block _ h.pp.lt), h.pd.kept (hb.block _ h.pd.lt), h.bx.kept (hb.block _ h.bx.lt), h.ne, h.lo, h.be.trans (hb.mono h.be.size), fun b hb' => ⟨(h.bl b hb').1.kept (hb.block _ (h.bl b hb').1.lt), (h.bl b hb').2⟩⟩
theorem SL.pushz {w W : World} {p d x : Nat} {a : As} {s1 s2 : Ps} {rq org : Int} {L : List (Nat × List Value × TypeId)} (h : SL w W p d x a s1 s2 rq org L) (cs : List Value) (T : TypeId) : SL w (W.alloc (.cells cs.toArray T)) p d x a s1 s2 rq org ((W.heap.size, cs, T) :: L) := by
  have h2 := h.step ((Below.refl W.heap.size W).alloc (Nat.le_refl _) (.cells cs.toArray T))
  refine ⟨h2.pp, h2.pd, h2.bx, h2.ne, h2.lo, h2.be, fun b hb' => ?_⟩
  rcases List.mem_cons.1 hb' with rfl | hb'
  · have l1 := h.pp.lt
    have l2 := h.pd.lt
    have l3 := h.bx.lt
    refine ⟨Bk.new _ _ _, ?_, ?_, ?_⟩ <;> (simp only; omega)
  · exact h2.bl b hb'
theorem SL.own {w W W' : World} {p d x g : Nat} {a : As} {s1 s2 : Ps} {rq org : Int} {cs cs' : List Value} {T : TypeId} {L L' : List (Nat × List Value × TypeId)} (h : SL w W p d x a s1 s2 rq org (L ++ (g, cs, T) :: L')) (hne : ∀ b ∈ L ++ L', b.1 ≠ g) (hgw : w.heap.size ≤ g) (hg : W.grownBy W' (some g)) (hb : Bk g W' cs'.toArray T) : SL w W' p d x a s1 s2 rq org (L ++ (g, cs', T) :: L') := by
  have hk : ∀ k, k < W.heap.size → k ≠ g → W'.heap[k]? = W.heap[k]? := fun k hk hne => hg.block k hk (fun e => hne (Option.some.inj e))
  obtain ⟨b0, b1, b2, b3⟩ := h.bl (g, cs, T) (by simp)
  refine ⟨h.pp.kept (hk _ h.pp.lt (fun e => b1 e.symm)), h.pd.kept (hk _ h.pd.lt (fun e => b2 e.symm)), h.bx.kept (hk _ h.bx.lt (fun e => b3 e.symm)), h.ne, h.lo, h.be.grown hg h.be.size (fun k hk => by injection hk with hk; omega), fun b hb' => ?_⟩
  rcases List.mem_append.1 hb' with h1 | h1
  · have h2 := h.bl b (List.mem_append.2 (.inl h1))
    exact ⟨h2.1.kept (hk _ h2.1.lt (hne b (List.mem_append.2 (.inl h1)))), h2.2⟩
  · rcases List.mem_cons.1 h1 with rfl | h1
    · exact ⟨hb, b1, b2, b3⟩
    · have h2 := h.bl b (List.mem_append.2 (.inr (List.mem_cons_of_mem _ h1)))
      exact ⟨h2.1.kept (hk _ h2.1.lt (hne b (List.mem_append.2 (.inr h1)))), h2.2⟩
theorem SL.two {w W : World} {p d x : Nat} {a : As} {s1 s2 : Ps} {rq org : Int} {L : List (Nat × List Value × TypeId)} (h : SL w W p d x a s1 s2 rq org L) (cs ds : List Value) (T U : TypeId) : SL w ((W.alloc (.cells cs.toArray T)).alloc (.cells ds.toArray U)) p d x a s1 s2 rq org ((W.heap.size + 1, ds, U) :: (W.heap.size, cs, T) :: L) := by
  have h2 := (h.pushz cs T).pushz ds U
  rw [size_alloc1] at h2
  exact h2
theorem SL.at {w W : World} {p d x : Nat} {a : As} {s1 s2 : Ps} {rq org : Int} {L : List (Nat × List Value × TypeId)} (h : SL w W p d x a s1 s2 rq org L) (g : Nat) (cs : List Value) (T : TypeId) (hm : (g, cs, T) ∈ L) : ∀ j u, cs[j]? = some u → W.cell? ((⟨g, 0, none⟩ : Addr).add j) = some u := cells_of (h.bl _ hm).1
theorem SL.cell {w W : World} {p d x : Nat} {a : As} {s1 s2 : Ps} {rq org : Int} {L : List (Nat × List Value × TypeId)} (h : SL w W p d x a s1 s2 rq org L) (g : Nat) (cs : List Value) (T : TypeId) (hm : (g, cs, T) ∈ L) (j : Nat) : W.cell? ⟨g, j, none⟩ = cs[j]? := by
  have := (h.bl _ hm).1.cell j
  simpa using this
theorem SL.nil {w W : World} {p d x : Nat} {a : As} {s1 s2 : Ps} {rq org : Int} {L : List (Nat × List Value × TypeId)} (h : SL w W p d x a s1 s2 rq org L) : SL w W p d x a s1 s2 rq org [] := ⟨h.pp, h.pd, h.bx, h.ne, h.lo, h.be, fun b hb => by cases hb⟩
theorem Rm.tCell {w : World} {p : Nat} {a : As} {s : Ps} {rq : Int} (h : Rm w p a s rq) : ∀ j v, (tdL s.t)[j]? = some v → w.cell? ((⟨p, 20, none⟩ : Addr).add j) = some v := fun j v hj => by
  have e : (⟨p, 20, none⟩ : Addr).add j = ⟨p, 20 + j, none⟩ := by unfold Addr.add; split <;> simp_all
  rw [e]
  have h2 := h.bk.cell (20 + j)
  rw [h2]
  have h3 : (rmC a s rq)[20 + j]? = (tdL s.t)[j]? := by
    show (asL a ++ [.int .u32 s.own, .bool (decide (s.req ≠ 0)), .int .u64 rq, .bool s.taken, .int .u64 s.last, .bool s.heard, .int .u64 s.ex, .int .u64 s.ea] ++ tdL s.t)[20 + j]? = _
    rw [List.getElem?_append_right (by simp [asL])]
    congr 1
    simp [asL]
  simpa [h3] using hj
/-- the program's peer has gone on -/
theorem SL.doesP {w W W' : World} {p d x : Nat} {a : As} {s1 s2 s1' : Ps} {rq org org' : Int} {L : List (Nat × List Value × TypeId)} (h : SL w W p d x a s1 s2 rq org L) (hp : Pm W' p s1') (ho : Bk x W' #[.int .u64 org'] 23) (hg : G2 p x W W') : SL w W' p d x a s1' s2 rq org' L := by
  obtain ⟨n1, n2, n3⟩ := h.ne
  exact ⟨hp, h.pd.kept (hg.block _ h.pd.lt (fun e => n1 e.symm) n3), ho, h.ne, h.lo, G2.below h.be hg h.be.size h.lo.1 h.lo.2.2, fun b hb => ⟨(h.bl b hb).1.kept (hg.block _ (h.bl b hb).1.lt (h.bl b hb).2.1 (h.bl b hb).2.2.2), (h.bl b hb).2⟩⟩
/-- the reference's peer has gone on -/
theorem SL.refD {w W W' : World} {p d x : Nat} {a : As} {s1 s2 s2' : Ps} {rq rq' org : Int} {L : List (Nat × List Value × TypeId)} (h : SL w W p d x a s1 s2 rq org L) (hp : Rm W' d a s2' rq') (hg : W.grownBy W' (some d)) : SL w W' p d x a s1 s2' rq' org L := by
  have hk : ∀ k, k < W.heap.size → k ≠ d → W'.heap[k]? = W.heap[k]? := fun k hk hne => hg.block k hk (fun e => hne (Option.some.inj e))
  obtain ⟨n1, n2, n3⟩ := h.ne
  exact ⟨h.pp.kept (hk _ h.pp.lt n1), hp, h.bx.kept (hk _ h.bx.lt (fun e => n3 e.symm)), h.ne, h.lo, h.be.grown hg h.be.size (fun k hk => by have := h.lo.2.1; injection hk with hk; omega), fun b hb => ⟨(h.bl b hb).1.kept (hk _ (h.bl b hb).1.lt (h.bl b hb).2.2.1), (h.bl b hb).2⟩⟩
theorem step_snew {ops : Array Oper} {rest : List Oper} {ob : Oper} {ac : Act} {W : World} {Q : Exit → Act → World → Prop} {T : TypeId} (hw : Region.wanted ob (yielded ops ac.tmps) = true) (xo yo : Operand) (hop : ob.op = .store T xo yo)
    (cs cs' : List Value) (hx : ac.eval xo = .pointer (some ⟨W.heap.size, 0, none⟩)) (hy : ac.eval yo = .agg cs'.toArray) {w : World} {p d x : Nat} {a : As} {s1 s2 : Ps} {rq org : Int} {L : List (Nat × List Value × TypeId)} (h : SL w W p d x a s1 s2 rq org L)
    (hs : (Try.prog.info? T).map (·.size) = some cs'.toArray.size) (hold : cs.length = cs'.length) (h1 : cs'.toArray.all (·.oneCell') = true)
    (hK : ∀ W', SL w W' p d x a s1 s2 rq org ((W.heap.size, cs', T) :: L) → wpList Try.prog ops Q rest (ac.put ob.dst undef) W') : wpList Try.prog ops Q (ob :: rest) ac (W.alloc (.cells cs.toArray T)) := by
  refine step_stR hw xo yo hop W.heap.size cs'.toArray hx hy cs.toArray hs (by simpa using hold) h1 (Bk.new _ _ _) (hK _ ?_)
  have hb : Below W.heap.size W ((W.alloc (.cells cs.toArray T)).setRow W.heap.size cs'.toArray) := below_row ((Below.refl _ _).alloc (Nat.le_refl _) _) (Nat.le_refl _) _
  have h2 := h.step hb
  refine ⟨h2.pp, h2.pd, h2.bx, h2.ne, h2.lo, h2.be, fun b hb' => ?_⟩
  rcases List.mem_cons.1 hb' with rfl | hb'
  · have l1 := h.pp.lt
    have l2 := h.pd.lt
    have l3 := h.bx.lt
    refine ⟨(Bk.new _ _ _).row _, ?_, ?_, ?_⟩ <;> (simp only; omega)
  · exact h2.bl b hb'
theorem step_snewE {ops : Array Oper} {rest : List Oper} {ob : Oper} {ac : Act} {W0 : World} {Q : Exit → Act → World → Prop} {T : TypeId} (hw : Region.wanted ob (yielded ops ac.tmps) = true) (xo yo : Operand) (hop : ob.op = .store T xo yo) (W : World)
    (cs cs' : List Value) (hW0 : W0 = W.alloc (.cells cs.toArray T)) (hx : ac.eval xo = .pointer (some ⟨W.heap.size, 0, none⟩)) (hy : ac.eval yo = .agg cs'.toArray) {w : World} {p d x : Nat} {a : As} {s1 s2 : Ps} {rq org : Int} {L : List (Nat × List Value × TypeId)} (h : SL w W p d x a s1 s2 rq org L)
    (hs : (Try.prog.info? T).map (·.size) = some cs'.toArray.size) (hold : cs.length = cs'.length) (h1 : cs'.toArray.all (·.oneCell') = true)
    (hK : ∀ W', SL w W' p d x a s1 s2 rq org ((W.heap.size, cs', T) :: L) → wpList Try.prog ops Q rest (ac.put ob.dst undef) W') : wpList Try.prog ops Q (ob :: rest) ac W0 := by
  subst hW0
  exact step_snew hw xo yo hop cs cs' hx hy h hs hold h1 hK
theorem step_sown {ops : Array Oper} {rest : List Oper} {ob : Oper} {ac : Act} {W : World} {Q : Exit → Act → World → Prop} {T : TypeId} (hw : Region.wanted ob (yielded ops ac.tmps) = true) (xo yo : Operand) (hop : ob.op = .store T xo yo)
    (g : Nat) (cs' : List Value) (hx : ac.eval xo = .pointer (some ⟨g, 0, none⟩)) (hy : ac.eval yo = .agg cs'.toArray) {w : World} {p d x : Nat} {a : As} {s1 s2 : Ps} {rq org : Int} {cs : List Value} (L L' : List (Nat × List Value × TypeId)) (h : SL w W p d x a s1 s2 rq org (L ++ (g, cs, T) :: L')) (hne : ∀ b ∈ L ++ L', b.1 ≠ g) (hgw : w.heap.size ≤ g)
    (hs : (Try.prog.info? T).map (·.size) = some cs'.toArray.size) (hold : cs.length = cs'.length) (h1 : cs'.toArray.all (·.oneCell') = true)
    (hK : ∀ W', SL w W' p d x a s1 s2 rq org (L ++ (g, cs', T) :: L') → wpList Try.prog ops Q rest (ac.put ob.dst undef) W') : wpList Try.prog ops Q (ob :: rest) ac W :=
  step_stR hw xo yo hop g cs'.toArray hx hy cs.toArray hs (by simpa using hold) h1 (h.bl (g, cs, T) (by simp)).1 (hK _ (h.own hne hgw (grownBy_row _ _ _) ((h.bl (g, cs, T) (by simp)).1.row _)))
end Go.Proofs.Ytlggademcmkihaa
/- PeerScript, walked. -/
namespace Go.Proofs.Ytlggademcmkihaa
open Go Go.RowKit Go.Sort
set_option maxRecDepth 20000 in
set_option maxHeartbeats 20000000 in
theorem PeerScript_row (a : As) (own : Int) (v : Value) (xs : List Stp) (w : World) (hk : W64 a.kind) (hv : Sx w.heap.size w v xs) :
    Calls Try.prog 4 #[.agg (asL a).toArray, .int .u32 own, v] w fun e w' => e = .returned (.bool true) ∧ Below w.heap.size w w' := by
  obtain ⟨ao, cap, rfl, -⟩ := hv.ex
  obtain ⟨n, hn⟩ : ∃ n, n = xs.length := ⟨_, rfl⟩
  rw [← hn] at hv ⊢
  have hnb : (n : Int) ≤ 9223372036854775807 := by have := hv.len; omega
  have HV : Hid (Sx w.heap.size w (.slice ao n cap) xs ∧ n = xs.length) := ⟨hv, hn⟩
  have HA : Hid (okS (ps0 a.kind a.key own)) := ⟨hk, by simp [ps0], fun _ => ⟨rfl, rfl⟩⟩
  clear hv hn hk
  go_enter Try.func4, Try.ntmps4
  refine post_hid fun Q hQ => ?_
  refine seq_hid fun R hR => ?_
  go_wp2_with fail
  refine world_hid fun W hW => ?_
  have HW : Hid (Bk w.heap.size W (asL a).toArray 31 ∧ Below w.heap.size w W) := by
    rw [hW.out]
    exact ⟨Bk.new _ _ _, (Below.refl _ _).alloc (Nat.le_refl _) _⟩
  clear hW
  rw [hR.out]
  clear hR
  refine seq_hid fun R hR => ?_
  go_wp2_with (go_at_call 10; refine (shown_any _).mono ?_; rintro e w2 ⟨rfl, hb1⟩; have HW2 : Hid (Bk w.heap.size w2 (asL a).toArray 31 ∧ Below w.heap.size w w2) := ⟨HW.out.1.kept (hb1.block _ HW.out.1.lt), HW.out.2.trans (hb1.mono HW.out.2.size)⟩; clear hb1)
  rw [hR.out]
  clear hR HW
  refine seq_hid fun R hR => ?_
  have c0 : w2.cell? ⟨w.heap.size, 0, none⟩ = some (.int .i64 a.kind) := HW2.out.1.cell 0
  have c1 : w2.cell? ⟨w.heap.size, 1, none⟩ = some (.int .u32 a.addr) := HW2.out.1.cell 1
  have c2 : w2.cell? ⟨w.heap.size, 2, none⟩ = some (.int .i64 a.key) := HW2.out.1.cell 2
  have c3 : w2.cell? ⟨w.heap.size, 3, none⟩ = some (.int .i64 a.minp) := HW2.out.1.cell 3
  have c4 : w2.cell? ⟨w.heap.size, 4, none⟩ = some (.int .i64 a.maxp) := HW2.out.1.cell 4
  have c5 : w2.cell? ⟨w.heap.size, 5, none⟩ = some (.bool a.burst) := HW2.out.1.cell 5
  have c6 : w2.cell? ⟨w.heap.size, 6, none⟩ = some (.bool a.ib) := HW2.out.1.cell 6
  have c7 : w2.cell? ⟨w.heap.size, 7, none⟩ = some (.bool a.pref) := HW2.out.1.cell 7
  have c8 : w2.cell? ⟨w.heap.size, 8, none⟩ = some (.int .i64 a.ttl) := HW2.out.1.cell 8
  have c9 : w2.cell? ⟨w.heap.size, 9, none⟩ = some (.bool a.pulse) := HW2.out.1.cell 9
  have c10 : w2.cell? ⟨w.heap.size, 10, none⟩ = some (.int .i64 a.fudge) := HW2.out.1.cell 10
  have c11 : w2.cell? ⟨w.heap.size, 11, none⟩ = some (.int .i64 a.str) := HW2.out.1.cell 11
  go_wp2_with fail
  go_region_held3 (fun w' => w'.cell? ⟨w.heap.size, 0, none⟩ = some (.int .i64 a.kind) ∧ w'.cell? ⟨w.heap.size, 1, none⟩ = some (.int .u32 a.addr) ∧ w'.cell? ⟨w.heap.size, 2, none⟩ = some (.int .i64 a.key) ∧ w'.cell? ⟨w.heap.size, 3, none⟩ = some (.int .i64 a.minp) ∧ w'.cell? ⟨w.heap.size, 4, none⟩ = some (.int .i64 a.maxp) ∧ w'.cell? ⟨w.heap.size, 5, none⟩ = some (.bool a.burst) ∧ w'.cell? ⟨w.heap.size, 6, none⟩ = some (.bool a.ib) ∧ w'.cell? ⟨w.heap.size, 7, none⟩ = some (.bool a.pref) ∧ w'.cell? ⟨w.heap.size, 8, none⟩ = some (.int .i64 a.ttl) ∧ w'.cell? ⟨w.heap.size, 9, none⟩ = some (.bool a.pulse) ∧ w'.cell? ⟨w.heap.size, 10, none⟩ = some (.int .i64 a.fudge) ∧ w'.cell? ⟨w.heap.size, 11, none⟩ = some (.int .i64 a.str)) (first | with_reducible exact ⟨c0, c1, c2, c3, c4, c5, c6, c7, c8, c9, c10, c11⟩ | with_reducible exact ⟨d0, d1, d2, d3, d4, d5, d6, d7, d8, d9, d10, d11⟩ | with_reducible exact ⟨e0, e1, e2, e3, e4, e5, e6, e7, e8, e9, e10, e11⟩ | go_keep) (first
    | (go_at_call 12; refine (rnew_any a own _).mono ?_; rintro e w4 ⟨d, rfl, hq4, hl4, hb4⟩; have HB4 : Hid (Bk w.heap.size w4 (asL a).toArray 31) := (HB3.out.kept (hb4.block _ HB3.out.lt)); have e0 : w4.cell? ⟨w.heap.size, 0, none⟩ = some (.int .i64 a.kind) := HB4.out.cell 0; have e1 : w4.cell? ⟨w.heap.size, 1, none⟩ = some (.int .u32 a.addr) := HB4.out.cell 1; have e2 : w4.cell? ⟨w.heap.size, 2, none⟩ = some (.int .i64 a.key) := HB4.out.cell 2; have e3 : w4.cell? ⟨w.heap.size, 3, none⟩ = some (.int .i64 a.minp) := HB4.out.cell 3; have e4 : w4.cell? ⟨w.heap.size, 4, none⟩ = some (.int .i64 a.maxp) := HB4.out.cell 4; have e5 : w4.cell? ⟨w.heap.size, 5, none⟩ = some (.bool a.burst) := HB4.out.cell 5; have e6 : w4.cell? ⟨w.heap.size, 6, none⟩ = some (.bool a.ib) := HB4.out.cell 6; have e7 : w4.cell? ⟨w.heap.size, 7, none⟩ = some (.bool a.pref) := HB4.out.cell 7; have e8 : w4.cell? ⟨w.heap.size, 8, none⟩ = some (.int .i64 a.ttl) := HB4.out.cell 8; have e9 : w4.cell? ⟨w.heap.size, 9, none⟩ = some (.bool a.pulse) := HB4.out.cell 9; have e10 : w4.cell? ⟨w.heap.size, 10, none⟩ = some (.int .i64 a.fudge) := HB4.out.cell 10; have e11 : w4.cell? ⟨w.heap.size, 11, none⟩ = some (.int .i64 a.str) := HB4.out.cell 11; have HN4 : Hid (Rm w4 d a (ps0 a.kind a.key own) 0 ∧ w3.heap.size ≤ d ∧ Below w3.heap.size w3 w4) := ⟨hq4, hl4, hb4⟩; clear hq4 hl4 hb4)
    | (go_at_call 11; refine (new_any a own _).mono ?_; rintro e w3 ⟨p, rfl, hp3, hl3, hb3⟩; have HB3 : Hid (Bk w.heap.size w3 (asL a).toArray 31) := (HW2.out.1.kept (hb3.block _ HW2.out.1.lt)); have d0 : w3.cell? ⟨w.heap.size, 0, none⟩ = some (.int .i64 a.kind) := HB3.out.cell 0; have d1 : w3.cell? ⟨w.heap.size, 1, none⟩ = some (.int .u32 a.addr) := HB3.out.cell 1; have d2 : w3.cell? ⟨w.heap.size, 2, none⟩ = some (.int .i64 a.key) := HB3.out.cell 2; have d3 : w3.cell? ⟨w.heap.size, 3, none⟩ = some (.int .i64 a.minp) := HB3.out.cell 3; have d4 : w3.cell? ⟨w.heap.size, 4, none⟩ = some (.int .i64 a.maxp) := HB3.out.cell 4; have d5 : w3.cell? ⟨w.heap.size, 5, none⟩ = some (.bool a.burst) := HB3.out.cell 5; have d6 : w3.cell? ⟨w.heap.size, 6, none⟩ = some (.bool a.ib) := HB3.out.cell 6; have d7 : w3.cell? ⟨w.heap.size, 7, none⟩ = some (.bool a.pref) := HB3.out.cell 7; have d8 : w3.cell? ⟨w.heap.size, 8, none⟩ = some (.int .i64 a.ttl) := HB3.out.cell 8; have d9 : w3.cell? ⟨w.heap.size, 9, none⟩ = some (.bool a.pulse) := HB3.out.cell 9; have d10 : w3.cell? ⟨w.heap.size, 10, none⟩ = some (.int .i64 a.fudge) := HB3.out.cell 10; have d11 : w3.cell? ⟨w.heap.size, 11, none⟩ = some (.int .i64 a.str) := HB3.out.cell 11; have HN3 : Hid (Pm w3 p (ps0 a.kind a.key own) ∧ w2.heap.size ≤ p ∧ Below w2.heap.size w2 w3) := ⟨hp3, hl3, ⟨hb3.os, hb3.tape, hb3.output, hb3.size, hb3.block⟩⟩; clear hp3 hl3 hb3))
  obtain ⟨s0, hs0⟩ : ∃ s0, ps0 a.kind a.key own = s0 := ⟨_, rfl⟩
  have HF : Hid (Pm w4 p s0 ∧ Rm w4 d a s0 0 ∧ p ≠ d ∧ w.heap.size ≤ p ∧ w.heap.size ≤ d ∧ Below w.heap.size w w4 ∧ okS s0) := by
    rw [← hs0]
    have l1 := HW2.out.2.size
    have l2 := HN3.out.1.lt
    have l3 := HN3.out.2.1
    have l4 := HN4.out.2.1
    exact ⟨HN3.out.1.kept (HN4.out.2.2.block _ l2), HN4.out.1, by omega, by omega, by omega, HW2.out.2.trans ((HN3.out.2.2.trans (HN4.out.2.2.mono HN3.out.2.2.size)).mono l1), HA.out⟩
  clear HN3 HN4 HB3 HB4 HW2 HA hs0 c0 c1 c2 c3 c4 c5 c6 c7 c8 c9 c10 c11 d0 d1 d2 d3 d4 d5 d6 d7 d8 d9 d10 d11 e0 e1 e2 e3 e4 e5 e6 e7 e8 e9 e10 e11
  go_wp2_with fail
  rw [hR.out]
  clear hR
  refine seq_hid fun R hR => ?_
  go_wp2_with fail
  refine world_hid fun w5 hw5 => ?_
  have HF5 : Hid (SL w w5 p d w4.heap.size a s0 s0 0 0 [] ∧ okS s0) := by
    rw [hw5.out]
    have h1 := Bk.new w4 #[.int .u64 0] 23
    have hb : Below w4.heap.size w4 (w4.alloc (.cells #[.int .u64 0] 23)) := (Below.refl _ _).alloc (Nat.le_refl _) _
    have l1 := HF.out.1.lt
    have l2 := HF.out.2.1.lt
    have l3 := HF.out.2.2.2.2.2.1.size
    exact ⟨⟨HF.out.1.kept (hb.block _ l1), HF.out.2.1.kept (hb.block _ l2), h1, ⟨HF.out.2.2.1, by omega, by omega⟩, ⟨HF.out.2.2.2.1, HF.out.2.2.2.2.1, by omega⟩, HF.out.2.2.2.2.2.1.trans (hb.mono l3), fun b hb => by cases hb⟩, HF.out.2.2.2.2.2.2⟩
  obtain ⟨X, hX⟩ : ∃ X, w4.heap.size = X := ⟨_, rfl⟩
  rw [hX] at HF5 ⊢
  clear hw5 hX HF
  rw [hR.out]
  clear hR
  go_wp2_with fail
  go_loopw [31] (fun i wr => ∃ (k : Nat) (s : Ps) (rq org : Int), i = .int .i64 k ∧ (k : Int) ≤ n ∧ Hid (SL w wr p d X a s s rq org [] ∧ okS s ∧ U64 org)) (fun i _ => n - (intOf i).toNat)
  case atStart => exact ⟨0, s0, 0, 0, rfl, by omega, ⟨HF5.out.1, HF5.out.2, by unfold U64; decide⟩⟩
  case round =>
    clear HF5
    obtain ⟨k, s, rq, org, rfl, hk, HK⟩ := hrel
    by_cases hlt : (k : Int) < n
    · have hkx : k < xs.length := by have := HV.out.2; omega
      obtain ⟨z, hz⟩ : ∃ z, xs[k]? = some z := ⟨_, List.getElem?_eq_getElem hkx⟩
      have hsx : Sx w.heap.size wr (.slice ao n cap) xs := HV.out.1.below HK.out.1.be (Nat.le_refl _)
      obtain ⟨ad, hix, hab, hac⟩ := hsx.at k z hz
      have HC : Hid (∀ j u, (spC z)[j]? = some u → wr.cell? (ad.add j) = some u) := hac
      have HOz : Hid (okX z) := hsx.ok z (List.mem_of_getElem? hz)
      have HL : Hid (SL w wr p d X a s s rq org []) := HK.out.1
      have HOk : Hid (okS s ∧ U64 org) := HK.out.2
      obtain ⟨pk, hpk⟩ : ∃ pk, dsP s z = pk := ⟨_, rfl⟩
      obtain ⟨bo, hbo⟩ : ∃ bo, dsB s z = bo := ⟨_, rfl⟩
      obtain ⟨V, hV⟩ : ∃ V, dsV s z org = V := ⟨_, rfl⟩
      obtain ⟨mm, hmm⟩ : ∃ mm, dsM s z org = mm := ⟨_, rfl⟩
      obtain ⟨s', hs'⟩ : ∃ s', dsS s z org = s' := ⟨_, rfl⟩
      obtain ⟨org', horg'⟩ : ∃ o, dsO s z org = o := ⟨_, rfl⟩
      have HDo : Hid (∀ (r o : Nat) (u : World), Pm u r s → Bk o u #[.int .u64 org] 23 → r ≠ o → Calls Try.prog 13 #[.pointer (some ⟨r, 0, none⟩), .agg (spC z).toArray, .pointer (some ⟨o, 0, none⟩)] u fun e w' => e = .returned (.tuple #[.agg (pkC pk).toArray, .bool bo, .int .i64 V, .agg (smL mm).toArray]) ∧ Pm w' r s' ∧ Bk o w' #[.int .u64 org'] 23 ∧ G2 r o u w') := fun r o u h1 h2 h3 => by
        rw [← hpk, ← hbo, ← hV, ← hmm, ← hs', ← horg']
        exact does_any r o s z org u h1 h2 h3 HOk.out.1 HOz.out HOk.out.2
      have HE : Hid (okS s' ∧ U64 org') := by
        rw [← hs', ← horg']
        exact ⟨HOk.out.1.ds z org, dsO_u64 HOz.out HOk.out.2⟩
      have HDD : Hid (dsP s z = pk ∧ dsB s z = bo ∧ dsV s z org = V ∧ dsM s z org = mm ∧ dsS s z org = s') := ⟨hpk, hbo, hV, hmm, hs'⟩
      clear hac hab hz hkx hsx hpk hbo hV hmm hs' horg' HK
      go_upto_region 8 with (first
        | (refine step_ldat 46 _ rfl rfl ad (by rfl) (spC z) _ Try.underlying46 rfl (by kernel_rfl) HC.out ?_)
        | (refine step_snewE (by rfl) _ _ rfl wr (spC sp0) (spC z) (by rfl) (by rfl) (by rfl) HL.out (by kernel_rfl) rfl (spC_one _) ?_; intro w6 hl6; have HL6 : Hid _ := hl6; clear hl6))
      obtain ⟨bs, hbs⟩ : ∃ bs, wr.heap.size = bs := ⟨_, rfl⟩
      rw [hbs] at HL6 ⊢
      have HBs : Hid (w.heap.size ≤ bs) := by
        have := HL.out.be.size
        show _ ≤ _
        omega
      clear hix HC HL hbs
      have cx : w6.cell? ⟨X, 0, none⟩ = some (.int .u64 org) := HL6.out.bx.cell 0
      go_upto_region 10 with (first
        | (refine step_ldat 46 _ rfl rfl ⟨bs, 0, none⟩ (by rfl) (spC z) _ Try.underlying46 rfl (by kernel_rfl) (HL6.out.at bs (spC z) 46 (by simp)) ?_)
        | (go_at_call 13; refine (HDo.out p X _ HL6.out.pp HL6.out.bx HL6.out.ne.2.1).mono ?_; rintro e w8 ⟨rfl, hp8, ho8, hg8⟩; have HL8 : Hid _ := HL6.out.doesP hp8 ho8 hg8; have HZ8 : Hid _ := HL8.out.two (pkC pk0) (smL sm0) 44 48; have HB8 : Hid (w.heap.size ≤ w8.heap.size ∧ bs < w8.heap.size) := ⟨HL8.out.be.size, (HL8.out.bl (bs, spC z, 46) (by simp)).1.lt⟩; clear hp8 ho8 hg8)
        | (refine step_sown (by rfl) _ _ rfl w8.heap.size (pkC pk) (by rfl) (by rfl) [(w8.heap.size + 1, smL sm0, 48)] _ HZ8.out ?_ HB8.out.1 (by kernel_rfl) rfl (pkC_one _) ?_; (have l1 := HB8.out; intro b hb; simp at hb; rcases hb with rfl | rfl <;> (simp; try omega)); intro w9 hl9; have HL9 : Hid _ := hl9; clear hl9)
        | (refine step_sown (by rfl) _ _ rfl (w8.heap.size + 1) (smL mm) (by rfl) (by rfl) [] _ HL9.out ?_ (Nat.le_succ_of_le HB8.out.1) (by kernel_rfl) rfl (smL_one _) ?_; (have l1 := HB8.out; intro b hb; simp at hb; rcases hb with rfl | rfl <;> (simp; try omega)); intro w10 hl10; have HL10 : Hid _ := hl10; clear hl10))
      obtain ⟨b8, hb8⟩ : ∃ b, w8.heap.size = b := ⟨_, rfl⟩
      rw [hb8] at HL10 HB8 ⊢
      clear HL8 HZ8 HL9 HL6 hb8 cx HDo
      have kk : w10.cell? ⟨bs, 0, none⟩ = some (.int .i64 z.k) := HL10.out.cell bs (spC z) 46 (by simp) 0
      have HL11 : Hid (SL w w10 p d X a s' s rq org' [(b8 + 1, smL mm, 48), (b8, pkC pk, 44), (bs, spC z, 46)]) := HL10.out
      clear HL10
      obtain ⟨t', ht'⟩ : ∃ t', s'.t = t' := ⟨_, rfl⟩
      obtain ⟨wt, hwt⟩ : ∃ b, decide (s'.req ≠ 0) = b := ⟨_, rfl⟩
      have HTW : Hid (s'.t = t' ∧ decide (s'.req ≠ 0) = wt) := ⟨ht', hwt⟩
      clear ht' hwt
      by_cases h0 : z.k = 0
      · have HRq : Hid (∀ u, Rm u d a s rq → Calls Try.prog 14 #[.pointer (some ⟨d, 0, none⟩), .agg (syL z.y).toArray, .int .i64 z.poll, .int .u64 z.t] u fun e w' => e = .returned (.tuple #[.agg (pkC pk).toArray, .bool bo]) ∧ (∃ rq', Rm w' d a s' rq') ∧ u.grownBy w' (some d)) := fun u hu => by
          have h := HDD.out
          unfold dsP dsB dsS at h
          rw [if_pos h0, if_pos h0, if_pos h0] at h
          rw [← h.1, ← h.2.1, ← h.2.2.2.2]
          exact rrequest_any d a s rq z.y z.poll z.t u hu HOk.out.1 HOz.out.t.1
        have k12 : w10.cell? ⟨bs, 12, none⟩ = some (.int .i64 z.poll) := HL11.out.cell bs (spC z) 46 (by simp) 12
        have k13 : w10.cell? ⟨bs, 13, none⟩ = some (.int .u64 z.t) := HL11.out.cell bs (spC z) 46 (by simp) 13
        rw [h0] at kk
        go_upto_region 13 with (first
          | (refine step_ldat 40 _ rfl rfl ⟨bs, 1, none⟩ (by rfl) (syL z.y) _ Try.underlying40 rfl (by kernel_rfl) (Xb.sy (HL11.out.bl (bs, spC z, 46) (by simp)).1) ?_)
          | (go_at_call 14; refine (HRq.out _ HL11.out.pd).mono ?_; rintro e w11 ⟨rfl, ⟨rq', hr11⟩, hg11⟩; have HL12 : Hid _ := HL11.out.refD hr11 hg11; clear hr11 hg11)
          | (refine step_snewE (by rfl) _ _ rfl w11 (pkC pk0) (pkC pk) (by rfl) (by rfl) (by rfl) HL12.out (by kernel_rfl) rfl (pkC_one _) ?_; intro w12 hl12; have HL13 : Hid _ := hl12; clear hl12))
        obtain ⟨b11, hb11⟩ : ∃ b, w11.heap.size = b := ⟨_, rfl⟩
        rw [hb11] at HL13 ⊢
        clear HL12 HL11 hb11 k12 k13 kk HRq
        go_upto_region 24 with (first
          | (refine step_ldatW (by rfl) 44 _ rfl ⟨b8, 0, none⟩ (by rfl) (pkC pk) _ Try.underlying44 rfl (by kernel_rfl) (HL13.out.at b8 (pkC pk) 44 (by simp)) ?_)
          | (refine step_ldatW (by rfl) 44 _ rfl ⟨b11, 0, none⟩ (by rfl) (pkC pk) _ Try.underlying44 rfl (by kernel_rfl) (HL13.out.at b11 (pkC pk) 44 (by simp)) ?_)
          | (go_at_call 15; refine (same_any pk _).mono ?_; rintro e w14 ⟨rfl, hb14⟩; have HL14 : Hid _ := HL13.out.step hb14; clear hb14))
        have HT : Hid (∀ r u, Pm u r s' → Calls Try.prog 19 #[.pointer (some ⟨r, 0, none⟩)] u fun e w' => e = .returned (.agg (tdL t').toArray) ∧ Below u.heap.size u w') := fun r u hu => by rw [← HTW.out.1]; exact told_any r s' u hu
        have HWt : Hid (∀ r u, Pm u r s' → Calls Try.prog 20 #[.pointer (some ⟨r, 0, none⟩)] u fun e w' => e = .returned (.bool wt) ∧ w' = u) := fun r u hu => by rw [← HTW.out.2]; exact waits_any r s' u hu
        refine wp_region_grown (by kernel_rfl) (by kernel_rfl) ?_
        intro C hC hG
        have al : Hid (∀ u, C u → SL w u p d X a s' s' rq' org' []) := fun u hu => (HL14.out.step (hC u hu)).nil
        have a13 : Hid (∀ u, C u → u.cell? ⟨d, 13, none⟩ = some (.bool wt)) := fun u hu => by rw [← HTW.out.2]; exact (al.out u hu).pd.bk.cell 13
        have a20 : Hid (∀ u, C u → ∀ j v, (tdL t')[j]? = some v → u.cell? ((⟨d, 20, none⟩ : Addr).add j) = some v) := fun u hu j v hj => by rw [← HTW.out.1] at hj; exact (al.out u hu).pd.tCell j v hj
        have Z1 : Hid (∀ u, C u → Calls Try.prog 19 #[.pointer (some ⟨p, 0, none⟩)] u fun e w' => e = .returned (.agg (tdL t').toArray) ∧ C w') := fun u hu => (HT.out p u (al.out u hu).pp).mono fun e w' ⟨h1, h2⟩ => ⟨h1, hG u w' hu h2⟩
        have Z2 : Hid (∀ u, C u → Calls Try.prog 20 #[.pointer (some ⟨p, 0, none⟩)] u fun e w' => e = .returned (.bool wt) ∧ C w') := fun u hu => (HWt.out p u (al.out u hu).pp).mono fun e w' ⟨h1, h2⟩ => ⟨h1, by rw [h2]; exact hu⟩
        have Z3 : Hid (∀ u, C u → Calls Try.prog 18 #[.agg (tdL t').toArray] u fun e w' => e = .returned (.agg (tdL t').toArray) ∧ C w') := fun u hu => (ltold_any t' u).mono fun e w' ⟨h1, h2⟩ => ⟨h1, hG u w' hu h2⟩
        refine QW.out ?_
        repeat (first
          | (refine qa_ldW (by rfl) 58 _ rfl ⟨d, 20, none⟩ (by rfl) (tdL t') _ Try.underlying58 rfl (by kernel_rfl) (fun u hu => a20.out u hu) ?_; try go_simp)
          | (refine qa_valW (by rfl) ⟨_, fun u hu => ne_rtd t' _ _ _ _ rfl (by rfl) (by rfl) u, ?_⟩; try go_simp)
          | (refine qa_valW (by rfl) ?_; apply Exists.intro; refine ⟨fun u hu => ?_, ?_⟩; ((have e13 := a13.out u hu); go_simp; exact rfl); try go_simp)
          | (refine qa_callW (by rfl) 19 _ _ ?_ (fun u hu => Z1.out u hu) ?_; (focus (intro u hu; go_simp; first | done | exact rfl)); try go_simp)
          | (refine qa_callW (by rfl) 18 _ _ ?_ (fun u hu => Z3.out u hu) ?_; (focus (intro u hu; go_simp; first | done | exact rfl)); try go_simp)
          | (refine qa_callW (by rfl) 20 _ _ ?_ (fun u hu => Z2.out u hu) ?_; (focus (intro u hu; go_simp; first | done | exact rfl)); try go_simp))
        refine qw_nil ?_
        intro u hu
        have HK9 : Hid (SL w u p d X a s' s' rq' org' []) := (HL14.out.step hu).nil
        clear al Z1 Z2 Z3 a13 a20 hC hG hu HL14 HT HWt
        go_wp2_with fail
        go_roundw
        case rel => exact ⟨k + 1, s', rq', org', by go_num, by omega, ⟨HK9.out, HE.out.1, HE.out.2⟩⟩
        case measure => simp [intOf]; omega
      · by_cases h1 : z.k = 1
        · have h0' : (z.k == 0) = false := by simpa using h0
          have h3 : ¬ (1 : Int) = 3 := by decide
          rw [h1] at kk
          obtain ⟨Qq, hQq⟩ : ∃ Qq, z.q = Qq := ⟨_, rfl⟩
          have HRq : Hid (∀ u, Rm u d a s rq → Calls Try.prog 16 #[.pointer (some ⟨d, 0, none⟩), .agg (pkC Qq).toArray, .int .u64 z.t, .bool z.a] u fun e w' => e = .returned (.tuple #[.int .i64 V, .agg (smL mm).toArray]) ∧ (∃ rq', Rm w' d a s' rq') ∧ u.grownBy w' (some d)) := fun u hu => by
            have h := HDD.out
            unfold dsV dsM dsS at h
            rw [if_neg h0, if_neg (by rw [h1]; decide), if_pos h1, if_neg h0, if_neg (by rw [h1]; decide), if_pos h1, if_neg h0, if_neg (by rw [h1]; decide), if_pos h1] at h
            rw [← h.2.2.1, ← h.2.2.2.1, ← h.2.2.2.2, ← hQq]
            exact rhear_any d a s rq _ z.t z.a u hu HOk.out.1 HOz.out.q
          have HQq : Hid (∀ j v, (pkC Qq)[j]? = some v → w10.cell? ((⟨bs, 14, none⟩ : Addr).add j) = some v) := by
            rw [← hQq]
            exact Xb.pk (x := z) (HL11.out.bl (bs, spC z, 46) (by simp)).1
          clear hQq
          have k13 : w10.cell? ⟨bs, 13, none⟩ = some (.int .u64 z.t) := HL11.out.cell bs (spC z) 46 (by simp) 13
          have k31 : w10.cell? ⟨bs, 31, none⟩ = some (.bool z.a) := HL11.out.cell bs (spC z) 46 (by simp) 31
          go_upto_region 20 with (first
            | (refine step_ldat 44 _ rfl rfl ⟨bs, 14, none⟩ (by rfl) (pkC Qq) _ Try.underlying44 rfl (by kernel_rfl) HQq.out ?_)
            | (go_at_call 16; refine (HRq.out _ HL11.out.pd).mono ?_; rintro e w11 ⟨rfl, ⟨rq', hr11⟩, hg11⟩; have HL12 : Hid _ := HL11.out.refD hr11 hg11; clear hr11 hg11)
            | (refine step_snewE (by rfl) _ _ rfl w11 (smL sm0) (smL mm) (by rfl) (by rfl) (by rfl) HL12.out (by kernel_rfl) rfl (smL_one _) ?_; intro w12 hl12; have HL13 : Hid _ := hl12; clear hl12))
          obtain ⟨b11, hb11⟩ : ∃ b, w11.heap.size = b := ⟨_, rfl⟩
          rw [hb11] at HL13 ⊢
          clear HL12 HL11 hb11 k13 k31 HRq HQq
          go_upto_region 24 with (first
            | (refine step_ldatW (by rfl) 48 _ rfl ⟨b8 + 1, 0, none⟩ (by rfl) (smL mm) _ Try.underlying48 rfl (by kernel_rfl) (HL13.out.at (b8 + 1) (smL mm) 48 (by simp)) ?_)
            | (refine step_ldatW (by rfl) 48 _ rfl ⟨b11, 0, none⟩ (by rfl) (smL mm) _ Try.underlying48 rfl (by kernel_rfl) (HL13.out.at b11 (smL mm) 48 (by simp)) ?_)
            | (refine step_valW (by rfl) _ (ne_sm mm _ _ _ _ rfl (by rfl) (by rfl) _) ?_))
          have HT : Hid (∀ r u, Pm u r s' → Calls Try.prog 19 #[.pointer (some ⟨r, 0, none⟩)] u fun e w' => e = .returned (.agg (tdL t').toArray) ∧ Below u.heap.size u w') := fun r u hu => by rw [← HTW.out.1]; exact told_any r s' u hu
          have HWt : Hid (∀ r u, Pm u r s' → Calls Try.prog 20 #[.pointer (some ⟨r, 0, none⟩)] u fun e w' => e = .returned (.bool wt) ∧ w' = u) := fun r u hu => by rw [← HTW.out.2]; exact waits_any r s' u hu
          refine wp_region_grown (by kernel_rfl) (by kernel_rfl) ?_
          intro C hC hG
          have al : Hid (∀ u, C u → SL w u p d X a s' s' rq' org' []) := fun u hu => (HL13.out.step (hC u hu)).nil
          have a13 : Hid (∀ u, C u → u.cell? ⟨d, 13, none⟩ = some (.bool wt)) := fun u hu => by rw [← HTW.out.2]; exact (al.out u hu).pd.bk.cell 13
          have a20 : Hid (∀ u, C u → ∀ j v, (tdL t')[j]? = some v → u.cell? ((⟨d, 20, none⟩ : Addr).add j) = some v) := fun u hu j v hj => by rw [← HTW.out.1] at hj; exact (al.out u hu).pd.tCell j v hj
          have Z1 : Hid (∀ u, C u → Calls Try.prog 19 #[.pointer (some ⟨p, 0, none⟩)] u fun e w' => e = .returned (.agg (tdL t').toArray) ∧ C w') := fun u hu => (HT.out p u (al.out u hu).pp).mono fun e w' ⟨h1, h2⟩ => ⟨h1, hG u w' hu h2⟩
          have Z2 : Hid (∀ u, C u → Calls Try.prog 20 #[.pointer (some ⟨p, 0, none⟩)] u fun e w' => e = .returned (.bool wt) ∧ C w') := fun u hu => (HWt.out p u (al.out u hu).pp).mono fun e w' ⟨h1, h2⟩ => ⟨h1, by rw [h2]; exact hu⟩
          have Z3 : Hid (∀ u, C u → Calls Try.prog 18 #[.agg (tdL t').toArray] u fun e w' => e = .returned (.agg (tdL t').toArray) ∧ C w') := fun u hu => (ltold_any t' u).mono fun e w' ⟨h1, h2⟩ => ⟨h1, hG u w' hu h2⟩
          refine QW.out ?_
          repeat (first
            | (refine qa_ldW (by rfl) 58 _ rfl ⟨d, 20, none⟩ (by rfl) (tdL t') _ Try.underlying58 rfl (by kernel_rfl) (fun u hu => a20.out u hu) ?_; try go_simp)
            | (refine qa_valW (by rfl) ⟨_, fun u hu => ne_rtd t' _ _ _ _ rfl (by rfl) (by rfl) u, ?_⟩; try go_simp)
            | (refine qa_valW (by rfl) ?_; apply Exists.intro; refine ⟨fun u hu => ?_, ?_⟩; ((have e13 := a13.out u hu); go_simp; exact rfl); try go_simp)
            | (refine qa_callW (by rfl) 19 _ _ ?_ (fun u hu => Z1.out u hu) ?_; (focus (intro u hu; go_simp; first | done | exact rfl)); try go_simp)
            | (refine qa_callW (by rfl) 18 _ _ ?_ (fun u hu => Z3.out u hu) ?_; (focus (intro u hu; go_simp; first | done | exact rfl)); try go_simp)
            | (refine qa_callW (by rfl) 20 _ _ ?_ (fun u hu => Z2.out u hu) ?_; (focus (intro u hu; go_simp; first | done | exact rfl)); try go_simp))
          refine qw_nil ?_
          intro u hu
          have HK9 : Hid (SL w u p d X a s' s' rq' org' []) := (HL13.out.step hu).nil
          clear al Z1 Z2 Z3 a13 a20 hC hG hu HL13 HT HWt
          go_wp2_with fail
          go_roundw
          case rel => exact ⟨k + 1, s', rq', org', by go_num, by omega, ⟨HK9.out, HE.out.1, HE.out.2⟩⟩
          case measure => simp [intOf]; omega
        · by_cases h3 : z.k = 3
          · rw [h3] at kk
            have kf : ∀ j, w10.frozen? ⟨bs, j, none⟩ = false := fun j => (HL11.out.bl (bs, spC z, 46) (by simp)).1.frozen j
            have k24 : w10.cell? ⟨bs, 24, none⟩ = some (.int .u64 z.q.org) := HL11.out.cell bs (spC z) 46 (by simp) 24
            go_upto_region 19 with fail
            have HX : Hid (SL w (w10.setCell ⟨bs, 24, none⟩ (.int .u64 org)) p d X a s' s rq org' [(b8 + 1, smL mm, 48), (b8, pkC pk, 44), (bs, spC { z with q := { z.q with org := org } }, 46)]) := by
              have l1 := HB8.out
              refine SL.own (L := [(b8 + 1, smL mm, 48), (b8, pkC pk, 44)]) (L' := []) (g := bs) (cs := spC z) HL11.out ?_ HBs.out (grownBy_set _ _ _) ?_
              · intro b hb
                simp at hb
                rcases hb with rfl | rfl <;> (simp; try omega)
              · exact Bk.set (HL11.out.bl (bs, spC z, 46) (by simp)).1 (j := 24) (.int .u64 org)
            generalize w10.setCell ⟨bs, 24, none⟩ (.int .u64 org) = w15 at HX ⊢
            clear kf k24 kk HL11
            obtain ⟨Qq, hQq⟩ : ∃ Qq, { z.q with org := org } = Qq := ⟨_, rfl⟩
            have HRq : Hid (∀ u, Rm u d a s rq → Calls Try.prog 16 #[.pointer (some ⟨d, 0, none⟩), .agg (pkC Qq).toArray, .int .u64 z.t, .bool z.a] u fun e w' => e = .returned (.tuple #[.int .i64 V, .agg (smL mm).toArray]) ∧ (∃ rq', Rm w' d a s' rq') ∧ u.grownBy w' (some d)) := fun u hu => by
              have h := HDD.out
              unfold dsV dsM dsS at h
              rw [if_neg h0, if_pos h3, if_neg h0, if_pos h3, if_neg h0, if_pos h3] at h
              rw [← h.2.2.1, ← h.2.2.2.1, ← h.2.2.2.2, ← hQq]
              exact rhear_any d a s rq _ z.t z.a u hu HOk.out.1 (HOz.out.q.org' org HOk.out.2)
            have HQq : Hid (∀ j v, (pkC Qq)[j]? = some v → w15.cell? ((⟨bs, 14, none⟩ : Addr).add j) = some v) := by
              rw [← hQq]
              exact Xb.pk (x := { z with q := { z.q with org := org } }) (HX.out.bl (bs, spC { z with q := { z.q with org := org } }, 46) (by simp)).1
            clear hQq
            have k13 : w15.cell? ⟨bs, 13, none⟩ = some (.int .u64 z.t) := HX.out.cell bs (spC { z with q := { z.q with org := org } }) 46 (by simp) 13
            have k31 : w15.cell? ⟨bs, 31, none⟩ = some (.bool z.a) := HX.out.cell bs (spC { z with q := { z.q with org := org } }) 46 (by simp) 31
            go_upto_region 20 with (first
              | (refine step_ldat 44 _ rfl rfl ⟨bs, 14, none⟩ (by rfl) (pkC Qq) _ Try.underlying44 rfl (by kernel_rfl) HQq.out ?_)
              | (go_at_call 16; refine (HRq.out _ HX.out.pd).mono ?_; rintro e w11 ⟨rfl, ⟨rq', hr11⟩, hg11⟩; have HL12 : Hid _ := HX.out.refD hr11 hg11; clear hr11 hg11)
              | (refine step_snewE (by rfl) _ _ rfl w11 (smL sm0) (smL mm) (by rfl) (by rfl) (by rfl) HL12.out (by kernel_rfl) rfl (smL_one _) ?_; intro w12 hl12; have HL13 : Hid _ := hl12; clear hl12))
            obtain ⟨b11, hb11⟩ : ∃ b, w11.heap.size = b := ⟨_, rfl⟩
            rw [hb11] at HL13 ⊢
            clear HL12 HX hb11 k13 k31 HRq HQq
            go_upto_region 24 with (first
              | (refine step_ldatW (by rfl) 48 _ rfl ⟨b8 + 1, 0, none⟩ (by rfl) (smL mm) _ Try.underlying48 rfl (by kernel_rfl) (HL13.out.at (b8 + 1) (smL mm) 48 (by simp)) ?_)
              | (refine step_ldatW (by rfl) 48 _ rfl ⟨b11, 0, none⟩ (by rfl) (smL mm) _ Try.underlying48 rfl (by kernel_rfl) (HL13.out.at b11 (smL mm) 48 (by simp)) ?_)
              | (refine step_valW (by rfl) _ (ne_sm mm _ _ _ _ rfl (by rfl) (by rfl) _) ?_))
            have HT : Hid (∀ r u, Pm u r s' → Calls Try.prog 19 #[.pointer (some ⟨r, 0, none⟩)] u fun e w' => e = .returned (.agg (tdL t').toArray) ∧ Below u.heap.size u w') := fun r u hu => by rw [← HTW.out.1]; exact told_any r s' u hu
            have HWt : Hid (∀ r u, Pm u r s' → Calls Try.prog 20 #[.pointer (some ⟨r, 0, none⟩)] u fun e w' => e = .returned (.bool wt) ∧ w' = u) := fun r u hu => by rw [← HTW.out.2]; exact waits_any r s' u hu
            refine wp_region_grown (by kernel_rfl) (by kernel_rfl) ?_
            intro C hC hG
            have al : Hid (∀ u, C u → SL w u p d X a s' s' rq' org' []) := fun u hu => (HL13.out.step (hC u hu)).nil
            have a13 : Hid (∀ u, C u → u.cell? ⟨d, 13, none⟩ = some (.bool wt)) := fun u hu => by rw [← HTW.out.2]; exact (al.out u hu).pd.bk.cell 13
            have a20 : Hid (∀ u, C u → ∀ j v, (tdL t')[j]? = some v → u.cell? ((⟨d, 20, none⟩ : Addr).add j) = some v) := fun u hu j v hj => by rw [← HTW.out.1] at hj; exact (al.out u hu).pd.tCell j v hj
            have Z1 : Hid (∀ u, C u → Calls Try.prog 19 #[.pointer (some ⟨p, 0, none⟩)] u fun e w' => e = .returned (.agg (tdL t').toArray) ∧ C w') := fun u hu => (HT.out p u (al.out u hu).pp).mono fun e w' ⟨h1, h2⟩ => ⟨h1, hG u w' hu h2⟩
            have Z2 : Hid (∀ u, C u → Calls Try.prog 20 #[.pointer (some ⟨p, 0, none⟩)] u fun e w' => e = .returned (.bool wt) ∧ C w') := fun u hu => (HWt.out p u (al.out u hu).pp).mono fun e w' ⟨h1, h2⟩ => ⟨h1, by rw [h2]; exact hu⟩
            have Z3 : Hid (∀ u, C u → Calls Try.prog 18 #[.agg (tdL t').toArray] u fun e w' => e = .returned (.agg (tdL t').toArray) ∧ C w') := fun u hu => (ltold_any t' u).mono fun e w' ⟨h1, h2⟩ => ⟨h1, hG u w' hu h2⟩
            refine QW.out ?_
            repeat (first
              | (refine qa_ldW (by rfl) 58 _ rfl ⟨d, 20, none⟩ (by rfl) (tdL t') _ Try.underlying58 rfl (by kernel_rfl) (fun u hu => a20.out u hu) ?_; try go_simp)
              | (refine qa_valW (by rfl) ⟨_, fun u hu => ne_rtd t' _ _ _ _ rfl (by rfl) (by rfl) u, ?_⟩; try go_simp)
              | (refine qa_valW (by rfl) ?_; apply Exists.intro; refine ⟨fun u hu => ?_, ?_⟩; ((have e13 := a13.out u hu); go_simp; exact rfl); try go_simp)
              | (refine qa_callW (by rfl) 19 _ _ ?_ (fun u hu => Z1.out u hu) ?_; (focus (intro u hu; go_simp; first | done | exact rfl)); try go_simp)
              | (refine qa_callW (by rfl) 18 _ _ ?_ (fun u hu => Z3.out u hu) ?_; (focus (intro u hu; go_simp; first | done | exact rfl)); try go_simp)
              | (refine qa_callW (by rfl) 20 _ _ ?_ (fun u hu => Z2.out u hu) ?_; (focus (intro u hu; go_simp; first | done | exact rfl)); try go_simp))
            refine qw_nil ?_
            intro u hu
            have HK9 : Hid (SL w u p d X a s' s' rq' org' []) := (HL13.out.step hu).nil
            clear al Z1 Z2 Z3 a13 a20 hC hG hu HL13 HT HWt
            go_wp2_with fail
            go_roundw
            case rel => exact ⟨k + 1, s', rq', org', by go_num, by omega, ⟨HK9.out, HE.out.1, HE.out.2⟩⟩
            case measure => simp [intOf]; omega
          · by_cases h2 : z.k = 2
            · have HRq : Hid (∀ u, Rm u d a s rq → Calls Try.prog 17 #[.pointer (some ⟨d, 0, none⟩)] u fun e w' => e = .returned (.tuple #[]) ∧ Rm w' d a s' 0 ∧ u.grownBy w' (some d)) := fun u hu => by
                have h := HDD.out
                unfold dsS at h
                rw [if_neg h0, if_neg (by rw [h2]; decide), if_neg h1, if_pos h2] at h
                rw [← h.2.2.2.2]
                exact rclear_any d a s rq u hu
              rw [h2] at kk
              go_upto_region 24 with (go_at_call 17; refine (HRq.out _ HL11.out.pd).mono ?_; rintro e w11 ⟨rfl, hr11, hg11⟩; have HL12 : Hid _ := HL11.out.refD hr11 hg11; clear hr11 hg11)
              clear HL11 kk HRq
              have HT : Hid (∀ r u, Pm u r s' → Calls Try.prog 19 #[.pointer (some ⟨r, 0, none⟩)] u fun e w' => e = .returned (.agg (tdL t').toArray) ∧ Below u.heap.size u w') := fun r u hu => by rw [← HTW.out.1]; exact told_any r s' u hu
              have HWt : Hid (∀ r u, Pm u r s' → Calls Try.prog 20 #[.pointer (some ⟨r, 0, none⟩)] u fun e w' => e = .returned (.bool wt) ∧ w' = u) := fun r u hu => by rw [← HTW.out.2]; exact waits_any r s' u hu
              refine wp_region_grown (by kernel_rfl) (by kernel_rfl) ?_
              intro C hC hG
              have al : Hid (∀ u, C u → SL w u p d X a s' s' 0 org' []) := fun u hu => (HL12.out.step (hC u hu)).nil
              have a13 : Hid (∀ u, C u → u.cell? ⟨d, 13, none⟩ = some (.bool wt)) := fun u hu => by rw [← HTW.out.2]; exact (al.out u hu).pd.bk.cell 13
              have a20 : Hid (∀ u, C u → ∀ j v, (tdL t')[j]? = some v → u.cell? ((⟨d, 20, none⟩ : Addr).add j) = some v) := fun u hu j v hj => by rw [← HTW.out.1] at hj; exact (al.out u hu).pd.tCell j v hj
              have Z1 : Hid (∀ u, C u → Calls Try.prog 19 #[.pointer (some ⟨p, 0, none⟩)] u fun e w' => e = .returned (.agg (tdL t').toArray) ∧ C w') := fun u hu => (HT.out p u (al.out u hu).pp).mono fun e w' ⟨h1, h2⟩ => ⟨h1, hG u w' hu h2⟩
              have Z2 : Hid (∀ u, C u → Calls Try.prog 20 #[.pointer (some ⟨p, 0, none⟩)] u fun e w' => e = .returned (.bool wt) ∧ C w') := fun u hu => (HWt.out p u (al.out u hu).pp).mono fun e w' ⟨h1, h2⟩ => ⟨h1, by rw [h2]; exact hu⟩
              have Z3 : Hid (∀ u, C u → Calls Try.prog 18 #[.agg (tdL t').toArray] u fun e w' => e = .returned (.agg (tdL t').toArray) ∧ C w') := fun u hu => (ltold_any t' u).mono fun e w' ⟨h1, h2⟩ => ⟨h1, hG u w' hu h2⟩
              refine QW.out ?_
              repeat (first
                | (refine qa_ldW (by rfl) 58 _ rfl ⟨d, 20, none⟩ (by rfl) (tdL t') _ Try.underlying58 rfl (by kernel_rfl) (fun u hu => a20.out u hu) ?_; try go_simp)
                | (refine qa_valW (by rfl) ⟨_, fun u hu => ne_rtd t' _ _ _ _ rfl (by rfl) (by rfl) u, ?_⟩; try go_simp)
                | (refine qa_valW (by rfl) ?_; apply Exists.intro; refine ⟨fun u hu => ?_, ?_⟩; ((have e13 := a13.out u hu); go_simp; exact rfl); try go_simp)
                | (refine qa_callW (by rfl) 19 _ _ ?_ (fun u hu => Z1.out u hu) ?_; (focus (intro u hu; go_simp; first | done | exact rfl)); try go_simp)
                | (refine qa_callW (by rfl) 18 _ _ ?_ (fun u hu => Z3.out u hu) ?_; (focus (intro u hu; go_simp; first | done | exact rfl)); try go_simp)
                | (refine qa_callW (by rfl) 20 _ _ ?_ (fun u hu => Z2.out u hu) ?_; (focus (intro u hu; go_simp; first | done | exact rfl)); try go_simp))
              refine qw_nil ?_
              intro u hu
              have HK9 : Hid (SL w u p d X a s' s' 0 org' []) := (HL12.out.step hu).nil
              clear al Z1 Z2 Z3 a13 a20 hC hG hu HL12 HT HWt
              go_wp2_with fail
              go_roundw
              case rel => exact ⟨k + 1, s', 0, org', by go_num, by omega, ⟨HK9.out, HE.out.1, HE.out.2⟩⟩
              case measure => simp [intOf]; omega
            · have HL12 : Hid (SL w w10 p d X a s' s' rq org' [(b8 + 1, smL mm, 48), (b8, pkC pk, 44), (bs, spC z, 46)]) := by
                have h := HDD.out
                unfold dsS at h
                rw [if_neg h0, if_neg h3, if_neg h1, if_neg h2] at h
                have h2 := HL11.out
                rw [h.2.2.2.2] at h2
                exact h2
              have h0' : (z.k == 0) = false := by simpa using h0
              have h1' : (z.k == 1) = false := by simpa using h1
              have h2' : (z.k == 2) = false := by simpa using h2
              have h3' : (z.k == 3) = false := by simpa using h3
              go_upto_region 24 with fail
              clear HL11 kk
              have HT : Hid (∀ r u, Pm u r s' → Calls Try.prog 19 #[.pointer (some ⟨r, 0, none⟩)] u fun e w' => e = .returned (.agg (tdL t').toArray) ∧ Below u.heap.size u w') := fun r u hu => by rw [← HTW.out.1]; exact told_any r s' u hu
              have HWt : Hid (∀ r u, Pm u r s' → Calls Try.prog 20 #[.pointer (some ⟨r, 0, none⟩)] u fun e w' => e = .returned (.bool wt) ∧ w' = u) := fun r u hu => by rw [← HTW.out.2]; exact waits_any r s' u hu
              refine wp_region_grown (by kernel_rfl) (by kernel_rfl) ?_
              intro C hC hG
              have al : Hid (∀ u, C u → SL w u p d X a s' s' rq org' []) := fun u hu => (HL12.out.step (hC u hu)).nil
              have a13 : Hid (∀ u, C u → u.cell? ⟨d, 13, none⟩ = some (.bool wt)) := fun u hu => by rw [← HTW.out.2]; exact (al.out u hu).pd.bk.cell 13
              have a20 : Hid (∀ u, C u → ∀ j v, (tdL t')[j]? = some v → u.cell? ((⟨d, 20, none⟩ : Addr).add j) = some v) := fun u hu j v hj => by rw [← HTW.out.1] at hj; exact (al.out u hu).pd.tCell j v hj
              have Z1 : Hid (∀ u, C u → Calls Try.prog 19 #[.pointer (some ⟨p, 0, none⟩)] u fun e w' => e = .returned (.agg (tdL t').toArray) ∧ C w') := fun u hu => (HT.out p u (al.out u hu).pp).mono fun e w' ⟨h1, h2⟩ => ⟨h1, hG u w' hu h2⟩
              have Z2 : Hid (∀ u, C u → Calls Try.prog 20 #[.pointer (some ⟨p, 0, none⟩)] u fun e w' => e = .returned (.bool wt) ∧ C w') := fun u hu => (HWt.out p u (al.out u hu).pp).mono fun e w' ⟨h1, h2⟩ => ⟨h1, by rw [h2]; exact hu⟩
              have Z3 : Hid (∀ u, C u → Calls Try.prog 18 #[.agg (tdL t').toArray] u fun e w' => e = .returned (.agg (tdL t').toArray) ∧ C w') := fun u hu => (ltold_any t' u).mono fun e w' ⟨h1, h2⟩ => ⟨h1, hG u w' hu h2⟩
              refine QW.out ?_
              repeat (first
                | (refine qa_ldW (by rfl) 58 _ rfl ⟨d, 20, none⟩ (by rfl) (tdL t') _ Try.underlying58 rfl (by kernel_rfl) (fun u hu => a20.out u hu) ?_; try go_simp)
                | (refine qa_valW (by rfl) ⟨_, fun u hu => ne_rtd t' _ _ _ _ rfl (by rfl) (by rfl) u, ?_⟩; try go_simp)
                | (refine qa_valW (by rfl) ?_; apply Exists.intro; refine ⟨fun u hu => ?_, ?_⟩; ((have e13 := a13.out u hu); go_simp; exact rfl); try go_simp)
                | (refine qa_callW (by rfl) 19 _ _ ?_ (fun u hu => Z1.out u hu) ?_; (focus (intro u hu; go_simp; first | done | exact rfl)); try go_simp)
                | (refine qa_callW (by rfl) 18 _ _ ?_ (fun u hu => Z3.out u hu) ?_; (focus (intro u hu; go_simp; first | done | exact rfl)); try go_simp)
                | (refine qa_callW (by rfl) 20 _ _ ?_ (fun u hu => Z2.out u hu) ?_; (focus (intro u hu; go_simp; first | done | exact rfl)); try go_simp))
              refine qw_nil ?_
              intro u hu
              have HK9 : Hid (SL w u p d X a s' s' rq org' []) := (HL12.out.step hu).nil
              clear al Z1 Z2 Z3 a13 a20 hC hG hu HL12 HT HWt
              go_wp2_with fail
              go_roundw
              case rel => exact ⟨k + 1, s', rq, org', by go_num, by omega, ⟨HK9.out, HE.out.1, HE.out.2⟩⟩
              case measure => simp [intOf]; omega
    · go_wp2_with fail
      rw [hQ.out]
      go_ret
      exact ⟨rfl, HK.out.1.be⟩
end Go.Proofs.Ytlggademcmkihaa
