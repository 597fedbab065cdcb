/- Two peers that know the same, what was asked, what was taken. -/
import Derived.Test.YtlggademcmkihaaIJ
import Derived.Test.YtlggademcmkihaaIS
import Derived.Test.YtlggademcmkihaaGQ
namespace Go.Proofs.Ytlggademcmkihaa
open Go Go.RowKit Go.Sort Go.Maps
/-- which stamps were asked -/
def Ma (w : World) (b n : Nat) (A : Int → Bool) : Prop := Mv .u64 23 4 (.lit (.bool false)) w b n (fun k => .bool (A k))
theorem zeroBool (w : World) : (zeroValue 4).run Try.prog w = .ok (.bool false) w := by kernel_rfl
theorem u64_lit {a : Int} (h : U64 a) : (Lit.int .u64 a).wf = true := by
  have e1 : IntKind.u64.min = 0 := by decide
  have e2 : IntKind.u64.max = 18446744073709551615 := by decide
  obtain ⟨h1, h2⟩ := h
  simp [Lit.wf, e1, e2]
  omega
theorem Ma.get {w : World} {b n : Nat} {A : Int → Bool} (h : Ma w b n A) {k : Int} (hk : U64 k) : (Instr.lookup 81 (.map (some b)) (.int .u64 k) false).run Try.prog w = .ok (.bool (A k)) w :=
  Mv.get h Try.underlying23 Try.underlying81 (.inl Try.underlying4) (zeroBool w) (plainElem_bool Try.underlying4 false) (u64_lit hk)
theorem Ma.made (w : World) : Ma (w.alloc (.map #[] 0)) w.heap.size 0 (fun _ => false) := Mv.made (plainElem_bool Try.underlying4 false) w
theorem Mv.blk {q : IntKind} {K E : TypeId} {zd : DataW Unit} {w w' : World} {b n : Nat} {f : Int → Value} (h : Mv q K E zd w b n f) (hb : w'.heap[b]? = w.heap[b]?) : Mv q K E zd w' b n f := by
  obtain ⟨D, ⟨es, clock, h1, h2⟩, h3⟩ := h.own
  exact ⟨D, ⟨es, clock, hb.trans h1, h2⟩, h3⟩
theorem Ma.put {w : World} {ops : Array Oper} {rest : List Oper} {o : Oper} {a : Act} {Q : Exit → Act → World → Prop} (hgd : o.guard = none) (m x y : Operand) (ho : o.op = .insert 81 m x y ∨ o.op = .mapUpdate 81 m x y)
    (b n : Nat) (A : Int → Bool) (k : Int) (hm : a.eval m = .map (some b)) (hx : a.eval x = .int .u64 k) (hy : a.eval y = .bool true) (hn : n < maxLen) (hk : U64 k)
    (h : Ma w b n A) (hgo : ∀ w', Ma w' b (n + 1) (fun j => if j = k then true else A j) → w.grownBy w' (some b) → wpList Try.prog ops Q rest (a.put o.dst undef) w') : wpList Try.prog ops Q (o :: rest) a w :=
  wpList_put hgd m x y 81 ho b n _ k _ _ Try.underlying23 Try.underlying81 hm hx hy hn (u64_lit hk) (plainElem_bool Try.underlying4 true) h (fun w' h1 h2 => hgo w' (by
    have e : (fun j => if j = k then Value.bool true else Value.bool (A j)) = (fun j => .bool (if j = k then true else A j)) := by funext j; split <;> rfl
    unfold Ma
    rw [← e]
    exact h1) h2)
theorem OR.blk {w w' : World} {B : Nat} {e : TypeId} {k : Nat} {v : Value} {rows : List (List Value)} (h : OR w B e k v rows) (hb : ∀ g, v.ownBlock = some g → g < w.heap.size → w'.heap[g]? = w.heap[g]?) : OR w' B e k v rows := by
  refine ⟨⟨h.row.1, ?_⟩, h.len⟩
  rcases h.row.2 with r | ⟨g, cap, cur, a1, a2, a3, r⟩
  · exact .inl r
  · exact .inr ⟨g, cap, cur, a1, a2, (hb g (by rw [a1]; rfl) (Array.getElem?_eq_some_iff.1 a3).1).trans a3, r⟩
theorem OR.blt {w : World} {B : Nat} {e : TypeId} {k : Nat} {v : Value} {rows : List (List Value)} (h : OR w B e k v rows) : ∀ g, v.ownBlock = some g → g < w.heap.size ∧ B ≤ g := fun g hg => by
  rcases h.row.2 with r | ⟨g', cap, cur, a1, a2, a3, r⟩
  · rw [r.1] at hg; cases hg
  · rw [a1] at hg
    injection hg with hg
    simp only at hg
    subst hg
    exact ⟨(Array.getElem?_eq_some_iff.1 a3).1, a2⟩
theorem OR.shape {w : World} {B : Nat} {e : TypeId} {k : Nat} {v : Value} {rows : List (List Value)} (h : OR w B e k v rows) : ∃ ao cap, v = .slice ao rows.length cap := by
  rcases h.row.2 with ⟨r1, r2⟩ | ⟨g', cap, cur, a1, _⟩
  · exact ⟨none, 0, by rw [r1, r2]⟩
  · exact ⟨_, _, a1⟩
/-- a slice of ints -/
structure Si (N : Nat) (w : World) (v : Value) (ks : List Int) : Prop where
  ex : ∃ ao cap, v = .slice ao ks.length cap ∧ ∀ (k : Nat) (c : Int), ks[k]? = some c → ∃ ad, ao = some ad ∧ ad.block < N ∧ w.cell? (ad.add k) = some (.int .i64 c)
  ok : ∀ c ∈ ks, W64 c
  len : ks.length ≤ 9223372036854775807
theorem Si.below {N B : Nat} {w w' : World} {v : Value} {ks : List Int} (h : Si N w v ks) (hb : Below B w w') (hN : N ≤ B) : Si N w' v ks := by
  obtain ⟨⟨ao, cap, h1, h2⟩, h3, h4⟩ := h
  refine ⟨⟨ao, cap, h1, fun k c hk => ?_⟩, h3, h4⟩
  obtain ⟨ad, k1, k2, k3⟩ := h2 k c hk
  exact ⟨ad, k1, k2, (hb.cell (p := ad.add k) (by rw [add_block]; omega)).trans k3⟩
theorem Si.at {N : Nat} {w : World} {ao : Option Addr} {n cap : Nat} {ks : List Int} (h : Si N w (.slice ao n cap) ks) (k : Nat) (c : Int) (hk : ks[k]? = some c) : ∃ (ad : Addr), (∀ u, Sem.run Try.prog (Instr.indexAt 79 (.slice ao n cap) (.int .i64 (k : Int))) u = .ok (.pointer (some ad)) u) ∧ ad.block < N ∧ w.cell? ad = some (.int .i64 c) := by
  obtain ⟨⟨ao', cap', h1, h2⟩, _, _⟩ := h
  injection h1 with e1 e2 e3
  subst e1 e2 e3
  obtain ⟨ad, k1, k2, k3⟩ := h2 k c hk
  have hkl : k < ks.length := by
    rcases Nat.lt_or_ge k ks.length with hlt | hge
    · exact hlt
    · rw [List.getElem?_eq_none hge] at hk; cases hk
  refine ⟨ad.add k, fun u => ?_, by rw [add_block]; exact k2, k3⟩
  subst k1
  have u' := Try.underlying79
  have c3 : Try.prog.cellsOf 3 = 1 := by kernel_rfl
  have h0 : (0 : Int) ≤ k := Int.natCast_nonneg k
  have h1 : (k : Int) < ks.length := by omega
  go_simp
/-- which of the packets that were taken comes again -/
theorem pick_rng (c t : Int) (ht : 0 < t) : 0 ≤ (c.tmod t + t).tmod t ∧ (c.tmod t + t).tmod t < t := by
  have h1 := Int.lt_tmod_of_pos c ht
  have h2 : 0 ≤ c.tmod t + t := by omega
  exact ⟨Int.tmod_nonneg t h2, Int.tmod_lt_of_pos _ ht⟩
/-- within a round -/
structure RL (w W : World) (p q x y m : Nat) (s1 s2 : Ps) (o1 o2 : Int) (n : Nat) (A : Int → Bool) (tv : Value) (T : List Pk) (L : List (Nat × List Value × TypeId)) : Prop where
  fl : FL w W p q x y s1 s2 o1 o2 L
  mp : Ma W m n A
  tk : OR W w.heap.size 44 17 tv (T.map pkC)
  dm : m ≠ p ∧ m ≠ q ∧ m ≠ x ∧ m ≠ y ∧ w.heap.size ≤ m
  dt : ∀ g, tv.ownBlock = some g → g ≠ p ∧ g ≠ q ∧ g ≠ x ∧ g ≠ y ∧ g ≠ m
  dl : ∀ b ∈ L, b.1 ≠ m ∧ tv.ownBlock ≠ some b.1
section
variable {w W W' : World} {p q x y m : Nat} {s1 s2 s1' s2' : Ps} {o1 o2 o1' o2' : Int} {n : Nat} {A : Int → Bool} {tv : Value} {T : List Pk} {L L' : List (Nat × List Value × TypeId)}
theorem RL.keep (h : RL w W p q x y m s1 s2 o1 o2 n A tv T L) (hf : FL w W' p q x y s1' s2' o1' o2' L') (hm : W'.heap[m]? = W.heap[m]?) (ht : ∀ g, tv.ownBlock = some g → g < W.heap.size → W'.heap[g]? = W.heap[g]?) (hl : ∀ b ∈ L', b.1 ≠ m ∧ tv.ownBlock ≠ some b.1) : RL w W' p q x y m s1' s2' o1' o2' n A tv T L' :=
  ⟨hf, Mv.blk h.mp hm, h.tk.blk ht, h.dm, h.dt, hl⟩
theorem RL.ml (h : RL w W p q x y m s1 s2 o1 o2 n A tv T L) : m < W.heap.size := Mv.lt h.mp
theorem RL.step (h : RL w W p q x y m s1 s2 o1 o2 n A tv T L) (hb : Below W.heap.size W W') : RL w W' p q x y m s1 s2 o1 o2 n A tv T L :=
  h.keep (h.fl.step hb) (hb.block _ h.ml) (fun _ _ hg => hb.block _ hg) h.dl
theorem RL.drewN' (h : RL w W p q x y m s1 s2 o1 o2 n A tv T L) {nd : Nat} (hw : W' = W.drewN nd) : RL w W' p q x y m s1 s2 o1 o2 n A tv T L := by
  rw [hw]
  exact h.step (below_dr (Below.refl _ _) nd)
theorem RL.sub (h : RL w W p q x y m s1 s2 o1 o2 n A tv T L) (hL : ∀ b ∈ L', b ∈ L) : RL w W p q x y m s1 s2 o1 o2 n A tv T L' :=
  h.keep ⟨h.fl.pp, h.fl.pq, h.fl.bx, h.fl.byy, h.fl.ne, h.fl.lo, h.fl.be, fun b hb => h.fl.bl b (hL b hb)⟩ rfl (fun _ _ _ => rfl) (fun b hb => h.dl b (hL b hb))
theorem RL.doesP (h : RL w W p q x y m s1 s2 o1 o2 n A tv T L) (hp : Pm W' p s1') (ho : Bk x W' #[.int .u64 o1'] 23) (hg : G2 p x W W') : RL w W' p q x y m s1' s2 o1' o2 n A tv T L :=
  h.keep (h.fl.doesP hp ho hg) (hg.block _ h.ml h.dm.1 h.dm.2.2.1) (fun g hg' hl => hg.block _ hl (h.dt g hg').1 (h.dt g hg').2.2.1) h.dl
theorem RL.doesQ (h : RL w W p q x y m s1 s2 o1 o2 n A tv T L) (hp : Pm W' q s2') (ho : Bk y W' #[.int .u64 o2'] 23) (hg : G2 q y W W') : RL w W' p q x y m s1 s2' o1 o2' n A tv T L :=
  h.keep (h.fl.doesQ hp ho hg) (hg.block _ h.ml h.dm.2.1 h.dm.2.2.2.1) (fun g hg' hl => hg.block _ hl (h.dt g hg').2.1 (h.dt g hg').2.2.2.1) h.dl
theorem RL.hearQ (h : RL w W p q x y m s1 s2 o1 o2 n A tv T L) (hp : Pm W' q s2') (hg : W.grownBy W' (some q)) : RL w W' p q x y m s1 s2' o1 o2 n A tv T L :=
  h.keep (h.fl.junk hp hg) (hg.block _ h.ml (fun e => h.dm.2.1 (Option.some.inj e))) (fun g hg' hl => hg.block _ hl (fun e => (h.dt g hg').2.1 (Option.some.inj e))) h.dl
theorem RL.pushz (h : RL w W p q x y m s1 s2 o1 o2 n A tv T L) (cs : List Value) (U : TypeId) : RL w (W.alloc (.cells cs.toArray U)) p q x y m s1 s2 o1 o2 n A tv T ((W.heap.size, cs, U) :: L) := by
  have hb : Below W.heap.size W (W.alloc (.cells cs.toArray U)) := (Below.refl _ _).alloc (Nat.le_refl _) _
  refine h.keep (h.fl.pushz cs U) (hb.block _ h.ml) (fun _ _ hg => hb.block _ hg) (fun b hb' => ?_)
  rcases List.mem_cons.1 hb' with rfl | hb'
  · have l1 := h.ml
    refine ⟨by simp only; omega, fun e => ?_⟩
    have := (h.tk.blt _ e).1
    simp at this
  · exact h.dl b hb'
theorem RL.two (h : RL w W p q x y m s1 s2 o1 o2 n A tv T L) (cs ds : List Value) (U V : TypeId) : RL w ((W.alloc (.cells cs.toArray U)).alloc (.cells ds.toArray V)) p q x y m s1 s2 o1 o2 n A tv T ((W.heap.size + 1, ds, V) :: (W.heap.size, cs, U) :: L) := by
  have h2 := (h.pushz cs U).pushz ds V
  rw [size_alloc1] at h2
  exact h2
theorem RL.own {g : Nat} {cs cs' : List Value} {U : TypeId} (h : RL w W p q x y m s1 s2 o1 o2 n A tv T (L ++ (g, cs, U) :: L')) (hne : ∀ b ∈ L ++ L', b.1 ≠ g) (hgw : w.heap.size ≤ g) (hg : W.grownBy W' (some g)) (hb : Bk g W' cs'.toArray U) : RL w W' p q x y m s1 s2 o1 o2 n A tv T (L ++ (g, cs', U) :: L') := by
  have hd := h.dl (g, cs, U) (by simp)
  refine h.keep (h.fl.own hne hgw hg hb) (hg.block _ h.ml (fun e => hd.1 (Option.some.inj e).symm)) (fun k hk hl => hg.block _ hl (fun e => hd.2 (by rw [hk]; exact e))) (fun b hb' => ?_)
  rcases List.mem_append.1 hb' with h1 | h1
  · exact h.dl b (List.mem_append.2 (.inl h1))
  · rcases List.mem_cons.1 h1 with rfl | h1
    · exact hd
    · exact h.dl b (List.mem_append.2 (.inr (List.mem_cons_of_mem _ h1)))
theorem RL.at (h : RL w W p q x y m s1 s2 o1 o2 n A tv T L) (g : Nat) (cs : List Value) (U : TypeId) (hm : (g, cs, U) ∈ L) : ∀ j u, cs[j]? = some u → W.cell? ((⟨g, 0, none⟩ : Addr).add j) = some u := cells_of (h.fl.bl _ hm).1
theorem RL.cell (h : RL w W p q x y m s1 s2 o1 o2 n A tv T L) (g : Nat) (cs : List Value) (U : TypeId) (hm : (g, cs, U) ∈ L) (j : Nat) : W.cell? ⟨g, j, none⟩ = cs[j]? := by
  have := (h.fl.bl _ hm).1.cell j
  simpa using this
/-- what was asked, written down -/
theorem RL.ask {A' : Int → Bool} {n' : Nat} (h : RL w W p q x y m s1 s2 o1 o2 n A tv T L) (hm : Ma W' m n' A') (hg : W.grownBy W' (some m)) : RL w W' p q x y m s1 s2 o1 o2 n' A' tv T L := by
  have hk : ∀ k, k < W.heap.size → k ≠ m → W'.heap[k]? = W.heap[k]? := fun k hk hne => hg.block k hk (fun e => hne (Option.some.inj e))
  obtain ⟨d1, d2, d3, d4, d5⟩ := h.dm
  refine ⟨⟨h.fl.pp.kept (hk _ h.fl.pp.lt (Ne.symm d1)), h.fl.pq.kept (hk _ h.fl.pq.lt (Ne.symm d2)), h.fl.bx.kept (hk _ h.fl.bx.lt (Ne.symm d3)), h.fl.byy.kept (hk _ h.fl.byy.lt (Ne.symm d4)), h.fl.ne, h.fl.lo, h.fl.be.grown hg h.fl.be.size (fun k hk => by injection hk with hk; omega), fun b hb => ⟨(h.fl.bl b hb).1.kept (hk _ (h.fl.bl b hb).1.lt (h.dl b hb).1), (h.fl.bl b hb).2⟩⟩, hm, h.tk.blk (fun g hg' hl => hk _ hl (h.dt g hg').2.2.2.2), h.dm, h.dt, h.dl⟩
/-- one more was taken -/
theorem RL.took {tv' : Value} {T' : List Pk} (h : RL w W p q x y m s1 s2 o1 o2 n A tv T L) (ht : OR W' w.heap.size 44 17 tv' (T'.map pkC)) (hg : W.grownBy W' tv.ownBlock) (hv : tv'.ownBlock = tv.ownBlock ∨ tv'.ownBlock = some W.heap.size) : RL w W' p q x y m s1 s2 o1 o2 n A tv' T' L := by
  have hk : ∀ k, k < W.heap.size → (∀ g, tv.ownBlock = some g → k ≠ g) → W'.heap[k]? = W.heap[k]? := fun k hk hne => hg.block k hk (fun e => hne k e.symm rfl)
  have hB : Below w.heap.size w W' := h.fl.be.grown hg h.fl.be.size (fun k hk => (h.tk.blt k hk).2)
  refine ⟨⟨h.fl.pp.kept (hk _ h.fl.pp.lt (fun g e => Ne.symm (h.dt g e).1)), h.fl.pq.kept (hk _ h.fl.pq.lt (fun g e => Ne.symm (h.dt g e).2.1)), h.fl.bx.kept (hk _ h.fl.bx.lt (fun g e => Ne.symm (h.dt g e).2.2.1)), h.fl.byy.kept (hk _ h.fl.byy.lt (fun g e => Ne.symm (h.dt g e).2.2.2.1)), h.fl.ne, h.fl.lo, hB, fun b hb => ⟨(h.fl.bl b hb).1.kept (hk _ (h.fl.bl b hb).1.lt (fun g e e2 => (h.dl b hb).2 (by rw [e, e2]))), (h.fl.bl b hb).2⟩⟩, Mv.blk h.mp (hk _ h.ml (fun g e => Ne.symm (h.dt g e).2.2.2.2)), ht, h.dm, fun g e => ?_, fun b hb => ⟨(h.dl b hb).1, fun e => ?_⟩⟩
  · rcases hv with hv | hv
    · exact h.dt g (by rw [← hv]; exact e)
    · rw [hv] at e
      injection e with e
      have l1 := h.fl.pp.lt
      have l2 := h.fl.pq.lt
      have l3 := h.fl.bx.lt
      have l4 := h.fl.byy.lt
      have l5 := h.ml
      refine ⟨?_, ?_, ?_, ?_, ?_⟩ <;> omega
  · rcases hv with hv | hv
    · exact (h.dl b hb).2 (by rw [← hv]; exact e)
    · rw [hv] at e
      injection e with e
      have := (h.fl.bl b hb).1.lt
      omega
end
theorem step_rnewE {ops : Array Oper} {rest : List Oper} {ob : Oper} {ac : Act} {W0 : World} {Q : Exit → Act → World → Prop} {U : TypeId} (hw : Region.wanted ob (yielded ops ac.tmps) = true) (xo yo : Operand) (hop : ob.op = .store U xo yo) (W : World)
    (cs cs' : List Value) (hW0 : W0 = W.alloc (.cells cs.toArray U)) (hx : ac.eval xo = .pointer (some ⟨W.heap.size, 0, none⟩)) (hy : ac.eval yo = .agg cs'.toArray) {w : World} {p q x y m : Nat} {s1 s2 : Ps} {o1 o2 : Int} {n : Nat} {A : Int → Bool} {tv : Value} {T : List Pk} {L : List (Nat × List Value × TypeId)} (h : RL w W p q x y m s1 s2 o1 o2 n A tv T L)
    (hs : (Try.prog.info? U).map (·.size) = some cs'.toArray.size) (hold : cs.length = cs'.length) (h1 : cs'.toArray.all (·.oneCell') = true)
    (hK : ∀ W', RL w W' p q x y m s1 s2 o1 o2 n A tv T ((W.heap.size, cs', U) :: L) → wpList Try.prog ops Q rest (ac.put ob.dst undef) W') : wpList Try.prog ops Q (ob :: rest) ac W0 := by
  subst hW0
  have h2 := h.pushz cs U
  refine step_stR hw xo yo hop W.heap.size cs'.toArray hx hy cs.toArray hs (by simpa using hold) h1 (Bk.new _ _ _) (hK _ ?_)
  refine RL.own (L := []) (L' := L) h2 (fun b hb => ?_) h.fl.be.size (grownBy_row _ _ _) ((Bk.new _ _ _).row _)
  have := (h.fl.bl b (by simpa using hb)).1.lt
  omega
theorem step_rown {ops : Array Oper} {rest : List Oper} {ob : Oper} {ac : Act} {W : World} {Q : Exit → Act → World → Prop} {U : TypeId} (hw : Region.wanted ob (yielded ops ac.tmps) = true) (xo yo : Operand) (hop : ob.op = .store U xo yo)
    (g : Nat) (cs' : List Value) (hx : ac.eval xo = .pointer (some ⟨g, 0, none⟩)) (hy : ac.eval yo = .agg cs'.toArray) {w : World} {p q x y m : Nat} {s1 s2 : Ps} {o1 o2 : Int} {n : Nat} {A : Int → Bool} {tv : Value} {T : List Pk} {cs : List Value} (L L' : List (Nat × List Value × TypeId)) (h : RL w W p q x y m s1 s2 o1 o2 n A tv T (L ++ (g, cs, U) :: L')) (hne : ∀ b ∈ L ++ L', b.1 ≠ g) (hgw : w.heap.size ≤ g)
    (hs : (Try.prog.info? U).map (·.size) = some cs'.toArray.size) (hold : cs.length = cs'.length) (h1 : cs'.toArray.all (·.oneCell') = true)
    (hK : ∀ W', RL w W' p q x y m s1 s2 o1 o2 n A tv T (L ++ (g, cs', U) :: L') → wpList Try.prog ops Q rest (ac.put ob.dst undef) W') : wpList Try.prog ops Q (ob :: rest) ac W :=
  step_stR hw xo yo hop g cs'.toArray hx hy cs.toArray hs (by simpa using hold) h1 (h.fl.bl (g, cs, U) (by simp)).1 (hK _ (h.own hne hgw (grownBy_row _ _ _) ((h.fl.bl (g, cs, U) (by simp)).1.row _)))
theorem uu_wrap (X0 a : Int) : IntKind.u64.wrap (IntKind.u64.wrap (a - X0) + 2305843009213693952) = uu X0 a := by
  unfold uu
  simp only [IntKind.wrap, IntKind.bits, IntKind.signed]
  simp
theorem tiP : TI 80 44 17 168 := by
  refine ⟨Try.underlying80, ?_, by decide⟩
  have h : (Try.prog.info? 44).map (fun i => (i.zero, i.size, i.bytes)) = some (some (.agg (pkC pk0).toArray), 17, 168) := by kernel_rfl
  cases hi : Try.prog.info? 44 with
  | none => rw [hi] at h; cases h
  | some i =>
    rw [hi] at h
    simp at h
    exact ⟨i, _, rfl, h.1, h.2.1, h.2.2, rfl⟩
theorem pkC_mem (q : Pk) : ∀ u ∈ pkC q, u.oneCell' = true := fun u hu => by
  have := pkC_one q
  simp only [List.all_toArray] at this
  exact List.all_eq_true.1 this u hu
/-- a packet is appended to what was taken -/
theorem RL.app {w W : World} {p q x y m : Nat} {s1 s2 : Ps} {o1 o2 : Int} {n : Nat} {A : Int → Bool} {tv : Value} {T : List Pk} {L : List (Nat × List Value × TypeId)} (h : RL w W p q x y m s1 s2 o1 o2 n A tv T L) (z : Pk) (hl : (T.length + 1) * 168 ≤ 140737488355328) :
    ∃ v' w', (Builtin.append_ #[80, 80] 80 #[tv, .slice (some ⟨W.heap.size, 0, none⟩) 1 1]).run Try.prog (W.alloc (.cells (pkC z).toArray 44)) = .ok v' w' ∧ RL w w' p q x y m s1 s2 o1 o2 n A v' (T ++ [z]) L := by
  have hx : Rk (W.alloc (.cells (pkC z).toArray 44)).heap.size (W.alloc (.cells (pkC z).toArray 44)) 17 (.slice (some ⟨W.heap.size, 0, none⟩) 1 1) ([z].map pkC) := by
    refine ⟨some ⟨W.heap.size, 0, none⟩, 1, rfl, by simp, fun i hi => ⟨_, rfl, by simp, fun j u hu => ?_⟩⟩
    have hi0 : i = 0 := by simpa using hi
    subst hi0
    have := cells_of (l := pkC z) (Bk.new W (pkC z).toArray 44) j u hu
    simpa using this
  have h2 := (h.pushz (pkC z) 44).sub (L' := L) (fun b hb => List.mem_cons_of_mem _ hb)
  obtain ⟨v', w', e1, e2, e3, e4⟩ := run_appk tiP 80 _ w.heap.size _ tv _ (T.map pkC) ([z].map pkC) h2.tk hx (fun n c e => by injection e with e; cases e) (fun r hr => by obtain ⟨s, _, rfl⟩ := List.mem_map.1 hr; rfl) (fun r hr u hu => by obtain ⟨s, _, rfl⟩ := List.mem_map.1 hr; exact pkC_mem s u hu) (by rw [List.length_map, List.length_map]; unfold maxLen; simp; omega) (by rw [List.length_map, List.length_map]; simpa using hl) h2.fl.be.size
  exact ⟨v', w', e1, h2.took (by rw [List.map_append]; exact e2) e3 e4⟩
theorem wpList_appP {w w' : World} {ops : Array Oper} {rest : List Oper} {o : Oper} {a : Act} {Q : Exit → Act → World → Prop} (hgd : o.guard = none) (s x : Operand)
    (ho : o.op = .call { callee := .builtin .append, args := #[s, x], argTypes := #[80, 80] }) (hty : o.type = 80) (v xv v' : Value) (hs : a.eval s = v) (hx : a.eval x = xv)
    (hr : (Builtin.append_ #[80, 80] 80 #[v, xv]).run Try.prog w = .ok v' w') (h : wpList Try.prog ops Q rest (a.put o.dst v') w') : wpList Try.prog ops Q (o :: rest) a w :=
  wpList_plain hgd fun K hK => by
    unfold Oper.wp execOp
    simp only [ho, hty, resolve, invoke, builtin, Sem.run_bind, Sem.run_pure, Result.andThen_ok, List.map_toArray, List.map_cons, List.map_nil, hs, hx, hr]
    exact hK _ _ h
set_option maxRecDepth 20000 in
theorem run_buildP (q : Pk) (w : World) : (Instr.buildSlice 80 1 #[(0, .agg (pkC q).toArray)]).run Try.prog w = .ok (.slice (some ⟨w.heap.size, 0, none⟩) 1 1) (w.alloc (.cells (pkC q).toArray 44)) := by
  kernel_rfl
theorem step_buildP {w : World} {ops : Array Oper} {rest : List Oper} {o : Oper} {a : Act} {Q : Exit → Act → World → Prop} (hgd : o.guard = none) (x : Operand) (ho : o.op = .buildSlice 80 1 #[(0, x)]) (q : Pk) (hx : a.eval x = .agg (pkC q).toArray)
    (h : wpList Try.prog ops Q rest (a.put o.dst (.slice (some ⟨w.heap.size, 0, none⟩) 1 1)) (w.alloc (.cells (pkC q).toArray 44))) : wpList Try.prog ops Q (o :: rest) a w :=
  wpList_plain hgd fun K hK => by
    unfold Oper.wp execOp
    have e := run_buildP q w
    simp only [ho, List.map_toArray, List.map_cons, List.map_nil, hx, Sem.run_bind, e, Result.andThen_ok]
    exact hK _ _ h
/-- one that was taken, read -/
theorem RL.pick {w W : World} {p q x y m : Nat} {s1 s2 : Ps} {o1 o2 : Int} {n : Nat} {A : Int → Bool} {ao : Option Addr} {tn cap : Nat} {T : List Pk} {L : List (Nat × List Value × TypeId)} (h : RL w W p q x y m s1 s2 o1 o2 n A (.slice ao tn cap) T L) (I : Int) (h0 : 0 ≤ I) (h1 : I < T.length) :
    ∃ (ad : Addr) (t : Pk), t ∈ T ∧ (∀ u, Sem.run Try.prog (Instr.indexAt 80 (.slice ao tn cap) (.int .i64 I)) u = .ok (.pointer (some ad)) u) ∧ (∀ j u, (pkC t)[j]? = some u → W.cell? (ad.add j) = some u) := by
  obtain ⟨i, rfl⟩ := Int.eq_ofNat_of_zero_le h0
  have hi : i < T.length := by omega
  obtain ⟨ao', cap', e0, e2, e3⟩ := h.tk.rk
  injection e0 with e0 e1 e1'
  subst e0 e1 e1'
  obtain ⟨ad, k1, k2, k3⟩ := e3 i (by rw [List.length_map]; exact hi)
  refine ⟨ad.add (i * 17), T[i], List.getElem_mem hi, fun u => ?_, fun j u hu => ?_⟩
  · subst k1
    have u' := Try.underlying80
    have c3 : Try.prog.cellsOf 44 = 17 := by kernel_rfl
    have h0 : (0 : Int) ≤ i := Int.natCast_nonneg i
    have h1 : (i : Int) < (T.map pkC).length := by rw [List.length_map]; omega
    go_simp
  · rw [add_add]
    exact k3 j u (by rw [getD_map' pkC T i hi]; exact hu)
end Go.Proofs.Ytlggademcmkihaa
