/- Steps of the law: what comes of them, in plain data; same, junk. -/
import Derived.Test.YtlggademcmkihaaHWf
import Derived.Test.YtlggademcmkihaaHZ
namespace Go.Proofs.Ytlggademcmkihaa
open Go Go.RowKit Go.Sort
/-- a step -/
structure Stp where
  k : Int
  y : Sy
  poll : Int
  t : Int
  q : Pk
  a : Bool
def spC (x : Stp) : List Value := .int .i64 x.k :: (syL x.y ++ (.int .i64 x.poll :: .int .u64 x.t :: (pkC x.q ++ [.bool x.a])))
structure okX (x : Stp) : Prop where
  q : okP x.q
  t : U64 x.t
theorem spC_len (x : Stp) : (spC x).length = 32 := rfl
/-- a step's block -/
def Xb (w : World) (b : Nat) (x : Stp) : Prop := Bk b w (spC x).toArray 46
theorem Xb.k {w : World} {b : Nat} {x : Stp} (h : Xb w b x) : w.cell? ⟨b, 0, none⟩ = some (.int .i64 x.k) := Bk.cell h 0
theorem Xb.poll {w : World} {b : Nat} {x : Stp} (h : Xb w b x) : w.cell? ⟨b, 12, none⟩ = some (.int .i64 x.poll) := Bk.cell h 12
theorem Xb.t {w : World} {b : Nat} {x : Stp} (h : Xb w b x) : w.cell? ⟨b, 13, none⟩ = some (.int .u64 x.t) := Bk.cell h 13
theorem Xb.a {w : World} {b : Nat} {x : Stp} (h : Xb w b x) : w.cell? ⟨b, 31, none⟩ = some (.bool x.a) := Bk.cell h 31
theorem Xb.sy {w : World} {b : Nat} {x : Stp} (h : Xb w b x) : ∀ j u, (syL x.y)[j]? = some u → w.cell? ((⟨b, 1, none⟩ : Addr).add j) = some u := fun j u hu => by
  have e : (⟨b, 1, none⟩ : Addr).add j = ⟨b, 1 + j, none⟩ := by unfold Addr.add; split <;> simp_all
  rw [e]
  have hj : j < 11 := by
    rcases Nat.lt_or_ge j 11 with hlt | hge
    · exact hlt
    · rw [List.getElem?_eq_none (by simpa [syL] using hge)] at hu; cases hu
  have h2 := Bk.cell h (1 + j)
  rw [h2]
  have h3 : (spC x)[1 + j]? = (syL x.y)[j]? := by
    show (.int .i64 x.k :: (syL x.y ++ (.int .i64 x.poll :: .int .u64 x.t :: (pkC x.q ++ [.bool x.a]))))[1 + j]? = _
    rw [Nat.add_comm, List.getElem?_cons_succ, List.getElem?_append_left (by simpa [syL] using hj)]
  simpa [h3] using hu
theorem Xb.pk {w : World} {b : Nat} {x : Stp} (h : Xb w b x) : ∀ j u, (pkC x.q)[j]? = some u → w.cell? ((⟨b, 14, none⟩ : Addr).add j) = some u := fun j u hu => by
  have e : (⟨b, 14, none⟩ : Addr).add j = ⟨b, 14 + j, none⟩ := by unfold Addr.add; split <;> simp_all
  rw [e]
  have hj : j < 17 := by
    rcases Nat.lt_or_ge j 17 with hlt | hge
    · exact hlt
    · rw [List.getElem?_eq_none (by simpa [pkC] using hge)] at hu; cases hu
  have h2 := Bk.cell h (14 + j)
  rw [h2]
  have h3 : (spC x)[14 + j]? = (pkC x.q)[j]? := by
    show (.int .i64 x.k :: (syL x.y ++ (.int .i64 x.poll :: .int .u64 x.t :: (pkC x.q ++ [.bool x.a]))))[14 + j]? = _
    rw [show 14 + j = 13 + j + 1 from by omega, List.getElem?_cons_succ, List.getElem?_append_right (by simp [syL]; omega)]
    rw [show 13 + j - (syL x.y).length = j + 1 + 1 from by simp [syL]; omega, List.getElem?_cons_succ, List.getElem?_cons_succ, List.getElem?_append_left (by simpa [pkC] using hj)]
  simpa [h3] using hu
/-- what comes of a step -/
def dsS (s : Ps) (x : Stp) (org : Int) : Ps :=
  if x.k = 0 then rqS s x.y x.t else if x.k = 3 then hrP s { x.q with org := org } x.t x.a else if x.k = 1 then hrP s x.q x.t x.a else if x.k = 2 then clr s else s
def dsP (s : Ps) (x : Stp) : Pk := if x.k = 0 then rqP s x.y x.poll x.t else pk0
def dsB (s : Ps) (x : Stp) : Bool := if x.k = 0 then rqB s x.y else false
def dsV (s : Ps) (x : Stp) (org : Int) : Int := if x.k = 0 then 0 else if x.k = 3 then vdI s { x.q with org := org } x.a else if x.k = 1 then vdI s x.q x.a else 0
def dsM (s : Ps) (x : Stp) (org : Int) : Smp := if x.k = 0 then sm0 else if x.k = 3 then hrS s { x.q with org := org } x.t x.a else if x.k = 1 then hrS s x.q x.t x.a else sm0
def dsO (s : Ps) (x : Stp) (org : Int) : Int := if x.k = 0 ∧ rqB s x.y = true ∧ (rqP s x.y x.poll x.t).mode ≠ 5 then (rqP s x.y x.poll x.t).xmt else org
theorem okP.org' {q : Pk} (h : okP q) (o : Int) (ho : U64 o) : okP { q with org := o } := ⟨h.mode, h.str, h.prec, h.del, h.dis, ho, h.xmt⟩
theorem okS.ds {s : Ps} (h : okS s) (x : Stp) (org : Int) : okS (dsS s x org) := by
  unfold dsS
  split
  · exact h.rq _ _
  · split
    · exact h.hr _ _ _
    · split
      · exact h.hr _ _ _
      · split
        · exact h.clr
        · exact h
/-- a forged packet changes nothing -/
theorem forged_vd {s : Ps} (hk : s.key ≠ 0) (q : Pk) : vdI s q false ≠ 0 ∧ vdI s q false < 6 := by
  have ht : trB s false = false := by unfold trB; simp [hk]
  unfold vdI
  rw [ht]
  (repeat' split) <;> simp_all
theorem forged_hr {s : Ps} (hk : s.key ≠ 0) (q : Pk) (rec : Int) : hrP s q rec false = s := by
  have ht : trB s false = false := by unfold trB; simp [hk]
  have ho : opB s q false = false := by unfold opB; rw [ht]; simp
  unfold hrP lrn
  rw [ho]
  unfold vdI
  rw [ht]
  (repeat' split) <;> first | rfl | (exfalso; simp_all; done) | simp_all
theorem forged_sm {s : Ps} (hk : s.key ≠ 0) (q : Pk) (rec : Int) : hrS s q rec false = sm0 := by
  unfold hrS
  rw [if_neg (forged_vd hk q).1]
/-- two blocks alone may change -/
structure G2 (p o : Nat) (w w' : World) : Prop where
  os : w'.os = w.os
  tape : w'.tape = w.tape
  output : w'.output = w.output
  size : w.heap.size ≤ w'.heap.size
  block : ∀ k, k < w.heap.size → k ≠ p → k ≠ o → w'.heap[k]? = w.heap[k]?
theorem G2.of {p o : Nat} {w w' : World} (h : w.grownBy w' (some p)) : G2 p o w w' := ⟨h.os, h.tape, h.output, h.size, fun k hk h1 _ => h.block k hk (fun e => h1 (Option.some.inj e))⟩
theorem G2.refl (p o : Nat) (w : World) : G2 p o w w := ⟨rfl, rfl, rfl, Nat.le_refl _, fun _ _ _ _ => rfl⟩
theorem G2.trans {p o : Nat} {a b c : World} (h : G2 p o a b) (k : G2 p o b c) : G2 p o a c := ⟨k.os.trans h.os, k.tape.trans h.tape, k.output.trans h.output, Nat.le_trans h.size k.size, fun i hi h1 h2 => (k.block i (Nat.lt_of_lt_of_le hi h.size) h1 h2).trans (h.block i hi h1 h2)⟩
theorem G2.trans' {p o g : Nat} {a b c : World} (h : G2 p o a b) (hk : ∀ k, k < b.heap.size → k ≠ g → c.heap[k]? = b.heap[k]?) (hg : b.grownBy c (some g)) (hl : a.heap.size ≤ g) : G2 p o a c := ⟨hg.os.trans h.os, hg.tape.trans h.tape, hg.output.trans h.output, Nat.le_trans h.size hg.size, fun i hi h1 h2 => (hk i (Nat.lt_of_lt_of_le hi h.size) (by omega)).trans (h.block i hi h1 h2)⟩
theorem G2.below {p o B : Nat} {a b c : World} (h : Below B a b) (k : G2 p o b c) (hB : B ≤ b.heap.size) (hp : B ≤ p) (ho : B ≤ o) : Below B a c := ⟨k.os.trans h.os, k.tape.trans h.tape, k.output.trans h.output, Nat.le_trans h.size k.size, fun i hi => (k.block i (by omega) (by omega) (by omega)).trans (h.block i hi)⟩
/-- within a step: the peer, the last request's stamp, the call's own blocks -/
structure DW (w W : World) (p o : Nat) (s : Ps) (org : Int) (L : List (Nat × List Value × TypeId)) : Prop where
  pm : Pm W p s
  og : Bk o W #[.int .u64 org] 23
  ne : p ≠ o
  lp : p < w.heap.size
  lo : o < w.heap.size
  g2 : G2 p o w W
  bl : ∀ b ∈ L, Bk b.1 W b.2.1.toArray b.2.2 ∧ w.heap.size ≤ b.1
theorem DW.grown {w W W' : World} {p o : Nat} {s s' : Ps} {org : Int} {L : List (Nat × List Value × TypeId)} (h : DW w W p o s org L) (hp : Pm W' p s') (hg : W.grownBy W' (some p)) : DW w W' p o s' org L :=
  ⟨hp, h.og.kept (hg.block _ h.og.lt (fun e => h.ne (Option.some.inj e).symm)), h.ne, h.lp, h.lo, h.g2.trans (G2.of hg), fun b hb => ⟨(h.bl b hb).1.kept (hg.block _ (h.bl b hb).1.lt (fun e => by have := (h.bl b hb).2; have := h.lp; injection e with e; omega)), (h.bl b hb).2⟩⟩
theorem DW.step {w W W' : World} {p o : Nat} {s : Ps} {org : Int} {L : List (Nat × List Value × TypeId)} (h : DW w W p o s org L) (hb : Below W.heap.size W W') : DW w W' p o s org L :=
  ⟨h.pm.kept (hb.block _ h.pm.lt), h.og.kept (hb.block _ h.og.lt), h.ne, h.lp, h.lo, h.g2.trans ⟨hb.os, hb.tape, hb.output, hb.size, fun k hk _ _ => hb.block k hk⟩, fun b hb' => ⟨(h.bl b hb').1.kept (hb.block _ (h.bl b hb').1.lt), (h.bl b hb').2⟩⟩
theorem DW.push {w W : World} {p o : Nat} {s : Ps} {org : Int} {L : List (Nat × List Value × TypeId)} (h : DW w W p o s org L) (cs : List Value) (T : TypeId) : DW w (W.alloc (.cells cs.toArray T)) p o s org ((W.heap.size, cs, T) :: L) := by
  have h2 := h.step ((Below.refl W.heap.size W).alloc (Nat.le_refl _) (.cells cs.toArray T))
  refine ⟨h2.pm, h2.og, h2.ne, h2.lp, h2.lo, h2.g2, fun b hb => ?_⟩
  rcases List.mem_cons.1 hb with rfl | hb
  · exact ⟨Bk.new _ _ _, h.g2.size⟩
  · exact h2.bl b hb
/-- a block of the call's own is written -/
theorem DW.own {w W W' : World} {p o g : Nat} {s : Ps} {org : Int} {cs cs' : List Value} {T : TypeId} {L L' : List (Nat × List Value × TypeId)} (h : DW w W p o s org (L ++ (g, cs, T) :: L')) (hne : ∀ x ∈ L ++ L', x.1 ≠ g) (hg : W.grownBy W' (some g)) (hb : Bk g W' cs'.toArray T) : DW w W' p o s org (L ++ (g, cs', T) :: L') := by
  have hgl := (h.bl (g, cs, T) (by simp)).2
  have hk : ∀ k, k < W.heap.size → k ≠ g → W'.heap[k]? = W.heap[k]? := fun k hk hne => hg.block k hk (fun e => hne (Option.some.inj e))
  have l1 := h.lp
  have l2 := h.lo
  refine ⟨h.pm.kept (hk _ h.pm.lt (by simp at hgl; omega)), h.og.kept (hk _ h.og.lt (by simp at hgl; omega)), h.ne, h.lp, h.lo, h.g2.trans' hk hg hgl, fun b hb' => ?_⟩
  rcases List.mem_append.1 hb' with h1 | h1
  · have h2 := h.bl b (List.mem_append.2 (.inl h1))
    exact ⟨h2.1.kept (hk _ h2.1.lt (hne b (List.mem_append.2 (.inl h1)))), h2.2⟩
  · rcases List.mem_cons.1 h1 with rfl | h1
    · exact ⟨hb, hgl⟩
    · have h2 := h.bl b (List.mem_append.2 (.inr (List.mem_cons_of_mem _ h1)))
      exact ⟨h2.1.kept (hk _ h2.1.lt (hne b (List.mem_append.2 (.inr h1)))), h2.2⟩
end Go.Proofs.Ytlggademcmkihaa
