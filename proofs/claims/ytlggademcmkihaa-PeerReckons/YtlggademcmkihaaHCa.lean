/- Candidates in memory. -/
import Derived.Test.YtlggademcmkihaaHDb
import Derived.Test.YtlggademcmkihaaHLb
import Derived.Test.YtlggademcmkihaaHY
namespace Go.Proofs.Ytlggademcmkihaa
open Go Go.RowKit Go.Sort
structure Cd where
  id : Int
  o : Int
  ds : Int
  j : Int
  str : Int
  pref : Bool
  pulse : Bool
def cdL (c : Cd) : List Value := [.int .i64 c.id, .int .i64 c.o, .int .i64 c.ds, .int .i64 c.j, .int .i64 c.str, .bool c.pref, .bool c.pulse]
def cd0 : Cd := ⟨0, 0, 0, 0, 0, false, false⟩
def cdI (id : Int) (a : As) (t : Td) (b : Be) (now : Int) : Cd := ⟨id, b.o, dsI t b now, b.j, (if a.kind = 6 then a.str else t.str), a.pref, (if a.kind = 6 then a.pulse else false)⟩
theorem cdL_one (c : Cd) : (cdL c).toArray.all (·.oneCell') = true := by kernel_rfl
/-- what was handed in, and room for the answer: the call's first four blocks -/
structure VG (w W : World) (a : As) (t : Td) (b : Be) (T : TypeId) : Prop where
  below : Below w.heap.size w W
  asc : Bk w.heap.size W (asL a).toArray 31
  td : Bk (w.heap.size + 1) W (tdL t).toArray T
  be : Bk (w.heap.size + 2) W (beL b).toArray 66
  room : Bk (w.heap.size + 3) W (cdL cd0).toArray 71
theorem VG.step {w W W' : World} {a : As} {t : Td} {b : Be} {T : TypeId} (h : VG w W a t b T) (hb : Below W.heap.size W W') : VG w W' a t b T :=
  ⟨h.below.trans (hb.mono h.below.size), h.asc.kept (hb.block _ h.asc.lt), h.td.kept (hb.block _ h.td.lt), h.be.kept (hb.block _ h.be.lt), h.room.kept (hb.block _ h.room.lt)⟩
theorem VG.new (w : World) (a : As) (t : Td) (b : Be) (T : TypeId) : VG w ((((w.alloc (.cells (asL a).toArray 31)).alloc (.cells (tdL t).toArray T)).alloc (.cells (beL b).toArray 66)).alloc (.cells (cdL cd0).toArray 71)) a t b T := by
  obtain ⟨w1, h1⟩ : ∃ w1, w.alloc (.cells (asL a).toArray 31) = w1 := ⟨_, rfl⟩
  obtain ⟨w2, h2⟩ : ∃ w2, w1.alloc (.cells (tdL t).toArray T) = w2 := ⟨_, rfl⟩
  obtain ⟨w3, h3⟩ : ∃ w3, w2.alloc (.cells (beL b).toArray 66) = w3 := ⟨_, rfl⟩
  rw [h1, h2, h3]
  have s1 : w1.heap.size = w.heap.size + 1 := by rw [← h1]; simp
  have s2 : w2.heap.size = w.heap.size + 2 := by rw [← h2]; simp [s1]
  have s3 : w3.heap.size = w.heap.size + 3 := by rw [← h3]; simp [s2]
  have b1 : Below w.heap.size w w1 := by rw [← h1]; exact (Below.refl _ _).alloc (Nat.le_refl _) _
  have b2 : Below w1.heap.size w1 w2 := by rw [← h2]; exact (Below.refl _ _).alloc (Nat.le_refl _) _
  have b3 : Below w2.heap.size w2 w3 := by rw [← h3]; exact (Below.refl _ _).alloc (Nat.le_refl _) _
  have b4 : Below w3.heap.size w3 (w3.alloc (.cells (cdL cd0).toArray 71)) := (Below.refl _ _).alloc (Nat.le_refl _) _
  have k1 : Bk w.heap.size w1 (asL a).toArray 31 := by rw [← h1]; exact Bk.new _ _ _
  have k2 : Bk w1.heap.size w2 (tdL t).toArray T := by rw [← h2]; exact Bk.new _ _ _
  have k3 : Bk w2.heap.size w3 (beL b).toArray 66 := by rw [← h3]; exact Bk.new _ _ _
  have k4 := Bk.new w3 (cdL cd0).toArray 71
  refine ⟨Below.then (Below.then (Below.then b1 b2) b3) b4, ((k1.kept (b2.block _ k1.lt)).kept (b3.block _ (by omega))).kept (b4.block _ (by omega)), ?_, ?_, ?_⟩
  · rw [← s1]; exact (k2.kept (b3.block _ k2.lt)).kept (b4.block _ (by omega))
  · rw [← s2]; exact k3.kept (b4.block _ k3.lt)
  · rw [← s3]; exact k4
/-- a struct loaded whole, in a class that is a letter -/
theorem qa_ldW {ops : Array Oper} {C : World → Prop} {Q : Act → Prop} {rest : List Oper} {o : Oper} {a : Act} (hw : Region.wanted o (yielded ops a.tmps) = true) (ty : TypeId) (x : Operand) (ho : o.op = .load ty x)
    (ad : Addr) (hx : a.eval x = .pointer (some ad)) (cs : List Value) (d : TypeDesc) (hu : Try.prog.underlying ty = some d) (hd : d.isRow = true) (hi : (Try.prog.info? ty).map (·.size) = some cs.length)
    (hc : ∀ u, C u → ∀ j v, cs[j]? = some v → u.cell? (ad.add j) = some v) (h : QW Try.prog ops C Q rest (a.put o.dst (.agg cs.toArray))) : QW Try.prog ops C Q (o :: rest) a := by
  refine qa_valW hw ⟨_, fun u hu2 => ?_, h⟩
  unfold execOp
  simp only [ho, hx, Instr.loadAt, Instr.sureAddr, Sem.run_bind, Sem.run_pure, Result.andThen_ok, run_loadVar_at u ad ty cs d (hc u hu2) hu hd hi]
/-- the candidate that is being made, in block g -/
structure VH (w W : World) (a : As) (t : Td) (b : Be) (T : TypeId) (g : Nat) (c : Cd) : Prop where
  vg : VG w W a t b T
  cd : Bk g W (cdL c).toArray 71
  far : w.heap.size + 3 < g
theorem VH.cell {w W : World} {a : As} {t : Td} {b : Be} {T : TypeId} {g : Nat} {c c' : Cd} (h : VH w W a t b T g c) (j : Nat) (v : Value) (hc : (cdL c).toArray.setIfInBounds j v = (cdL c').toArray) : VH w (W.setCell ⟨g, j, none⟩ v) a t b T g c' := by
  have hg := grownBy_set W ⟨g, j, none⟩ v
  have hf := h.far
  have ne : ∀ k, k ≤ w.heap.size + 3 → k < W.heap.size → (W.setCell ⟨g, j, none⟩ v).heap[k]? = W.heap[k]? := fun k hk hl => hg.block k hl (fun e => by injection e with e; simp at e; omega)
  refine ⟨⟨grown_new h.vg.below hg (by simp; omega), h.vg.asc.kept (ne _ (by omega) h.vg.asc.lt), h.vg.td.kept (ne _ (by omega) h.vg.td.lt), h.vg.be.kept (ne _ (by omega) h.vg.be.lt), h.vg.room.kept (ne _ (by omega) h.vg.room.lt)⟩, ?_, hf⟩
  have := Bk.set h.cd (j := j) v
  rw [hc] at this
  exact this
theorem VH.drew {w W : World} {a : As} {t : Td} {b : Be} {T : TypeId} {g : Nat} {c : Cd} (h : VH w W a t b T g c) : VH w W.drew a t b T g c := ⟨⟨h.vg.below.drew, h.vg.asc, h.vg.td, h.vg.be, h.vg.room⟩, h.cd, h.far⟩
end Go.Proofs.Ytlggademcmkihaa
