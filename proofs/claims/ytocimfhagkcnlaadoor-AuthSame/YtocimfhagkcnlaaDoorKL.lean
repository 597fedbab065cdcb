/- Steps whose worlds are letters: a block is made, stored into, built. -/
import Derived.Test.YtocimfhagkcnlaaDoorJM
import Derived.Deep.Cut
namespace Go.Proofs.YtocimfhagkcnlaaDoor
open Go Go.RowKit Go.Sort
/-- block g is new in W, and is all that is -/
structure Nw (w W : World) (g : Nat) (z : Array Value) (ty : TypeId) : Prop where
  at' : g = w.heap.size
  bk : Bk g W z ty
  be : Below w.heap.size w W
  sz : W.heap.size = w.heap.size + 1
theorem Nw.mk' (w : World) (z : Array Value) (ty : TypeId) : Nw w (w.alloc (.cells z ty)) w.heap.size z ty := ⟨rfl, Bk.new _ _ _, (Below.refl _ _).alloc (Nat.le_refl _) _, size_alloc1 _ _⟩
theorem step_alL {ops : Array Oper} {rest : List Oper} {o : Oper} {a : Act} {w : World} {Q : Exit → Act → World → Prop} (hw : Region.wanted o (yielded ops a.tmps) = true) (ty : TypeId) (ho : o.op = .alloc ty) (z : Array Value)
    (hrun : ∀ u : World, (Instr.alloc ty true (.tuple #[])).run Tryd.prog u = .ok (.pointer (some ⟨u.heap.size, 0, none⟩)) (u.alloc (.cells z ty)))
    (h : ∀ W g, Hid (Nw w W g z ty) → wpList Tryd.prog ops Q rest (a.put o.dst (.pointer (some ⟨g, 0, none⟩))) W) : wpList Tryd.prog ops Q (o :: rest) a w :=
  wpList_step fun K hK => by
    rw [if_pos hw]
    unfold Oper.wp execOp
    simp only [ho, Sem.run_bind, Sem.run_pure, hrun w, Result.andThen_ok]
    exact hK _ _ (h _ _ (Nw.mk' w z ty))
theorem step_boxL {ops : Array Oper} {rest : List Oper} {o : Oper} {a : Act} {w : World} {Q : Exit → Act → World → Prop} (hw : Region.wanted o (yielded ops a.tmps) = true) (ty : TypeId) (x : Operand) (ho : o.op = .box ty x) (cs : Array Value) (hx : a.eval x = .agg cs)
    (hrun : ∀ u : World, (Instr.box ty (.agg cs)).run Tryd.prog u = .ok (.pointer (some ⟨u.heap.size, 0, none⟩)) (u.alloc (.cells cs ty)))
    (h : ∀ W g, Hid (Nw w W g cs ty) → wpList Tryd.prog ops Q rest (a.put o.dst (.pointer (some ⟨g, 0, none⟩))) W) : wpList Tryd.prog ops Q (o :: rest) a w :=
  wpList_step fun K hK => by
    rw [if_pos hw]
    unfold Oper.wp execOp
    simp only [ho, hx, Sem.run_bind, Sem.run_pure, hrun w, Result.andThen_ok]
    exact hK _ _ (h _ _ (Nw.mk' w cs ty))
/-- block g has been written in W, and nothing else -/
structure Wt (w W : World) (g : Nat) (z : Array Value) (ty : TypeId) : Prop where
  bk : Bk g W z ty
  gr : w.grownBy W (some g)
  sz : W.heap.size = w.heap.size
theorem step_stL {ops : Array Oper} {rest : List Oper} {o : Oper} {a : Act} {w : World} {Q : Exit → Act → World → Prop} {T : TypeId} (hw : Region.wanted o (yielded ops a.tmps) = true) (x y : Operand) (ho : o.op = .store T x y)
    (g : Nat) (cells : Array Value) (hx : a.eval x = .pointer (some ⟨g, 0, none⟩)) (hy : a.eval y = .agg cells) (old : Array Value) (hs : (Tryd.prog.info? T).map (·.size) = some cells.size) (hold : old.size = cells.size) (h1 : cells.all (·.oneCell') = true) (hB : Bk g w old T)
    (h : ∀ W, Hid (Wt w W g cells T) → wpList Tryd.prog ops Q rest (a.put o.dst undef) W) : wpList Tryd.prog ops Q (o :: rest) a w :=
  step_stR hw x y ho g cells hx hy old hs hold h1 hB (h _ ⟨hB.row _, grownBy_row _ _ _, by simp [World.setRow]⟩)
theorem step_st1 {ops : Array Oper} {rest : List Oper} {o : Oper} {a : Act} {w : World} {Q : Exit → Act → World → Prop} {T e : TypeId} (hw : Region.wanted o (yielded ops a.tmps) = true) (x y : Operand) (ho : o.op = .store e x y)
    (g i : Nat) (v : Value) (hx : a.eval x = .pointer (some ⟨g, i, none⟩)) (hy : a.eval y = v) (hv : v.cells = #[v]) (hi : (Tryd.prog.info? e).map (·.size) = some 1) (h1 : v.oneCell' = true) (cs : List Value) (hle : i < cs.length) (hB : Bk g w cs.toArray T)
    (h : ∀ W, Hid (Wt w W g (cs.set i v).toArray T) → wpList Tryd.prog ops Q rest (a.put o.dst undef) W) : wpList Tryd.prog ops Q (o :: rest) a w :=
  wpList_step fun K hK => by
    rw [if_pos hw]
    unfold Oper.wp execOp
    simp only [ho, hx, hy, Instr.storeAt, Instr.sureAddr, Sem.run_bind, Sem.run_pure, Result.andThen_ok, run_stin1 hB e i v hv hi hle h1]
    exact hK _ _ (h _ ⟨hB.row _, grownBy_row _ _ _, by simp [World.setRow]⟩)
theorem step_bdL {ops : Array Oper} {rest : List Oper} {o : Oper} {a : Act} {w : World} {Q : Exit → Act → World → Prop} (hw : Region.wanted o (yielded ops a.tmps) = true) (ty : TypeId) (ps : List (Nat × Operand)) (ho : o.op = .build ty ps.toArray) (vs : List (Nat × Value)) (hv : (ps.map fun p => (p.1, a.eval p.2)) = vs) (v : Value)
    (hrun : (Instr.build ty vs.toArray).run Tryd.prog w = .ok v w)
    (h : wpList Tryd.prog ops Q rest (a.put o.dst v) w) : wpList Tryd.prog ops Q (o :: rest) a w :=
  wpList_step fun K hK => by
    rw [if_pos hw]
    unfold Oper.wp execOp
    have e : (ps.toArray.map fun (p : Nat × Operand) => (p.1, a.eval p.2)) = vs.toArray := by rw [List.map_toArray, hv]
    simp only [ho, e, Sem.run_bind, Sem.run_pure, hrun, Result.andThen_ok]
    exact hK _ _ h
theorem Wt.other {w W : World} {g p : Nat} {z c : Array Value} {ty T : TypeId} (h : Wt w W g z ty) (k : Bk p w c T) (hne : p ≠ g) : Bk p W c T := k.kept (h.gr.block p k.lt (fun e => hne (Option.some.inj e)))
theorem Nw.other {w W : World} {g p : Nat} {z c : Array Value} {ty T : TypeId} (h : Nw w W g z ty) (k : Bk p w c T) : Bk p W c T := k.kept (h.be.block p k.lt)
theorem Wt.below {w0 w W : World} {g : Nat} {z : Array Value} {ty : TypeId} (h : Wt w W g z ty) {B : Nat} (hb : Below B w0 w) (hB : B ≤ w.heap.size) (hg : B ≤ g) : Below B w0 W :=
  hb.trans ⟨h.gr.os, h.gr.tape, h.gr.output, h.gr.size, fun k hk => h.gr.block k (Nat.lt_of_lt_of_le hk hB) (fun e => by injection e with e; omega)⟩
end Go.Proofs.YtocimfhagkcnlaaDoor
