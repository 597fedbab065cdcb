/- A packet's block, whole, and its load at once. -/
import Derived.Test.YtdobghhjlfffpaaXA
import Derived.Laws.Rows
namespace Go.Proofs.Ytdobghhjlfffpaa
open Go.RowKit
/-- a packet's block -/
def Pb (p : Nat) (v : World) (cs : Array Value) : Prop := v.heap[p]? = some (.cells cs 29 (0, 0))
theorem Pb.new (w : World) (cs : Array Value) : Pb w.heap.size (w.alloc (.cells cs 29)) cs := heap_alloc_new w _
theorem Pb.lt {p : Nat} {v : World} {cs : Array Value} (h : Pb p v cs) : p < v.heap.size := by
  rcases Nat.lt_or_ge p v.heap.size with hlt | hge
  · exact hlt
  · unfold Pb at h; rw [Array.getElem?_eq_none hge] at h; cases h
theorem Pb.below {p C : Nat} {v v' : World} {cs : Array Value} (h : Pb p v cs) (hb : Below C v v') (hC : p < C) : Pb p v' cs := by
  unfold Pb at h ⊢; rw [hb.block p hC]; exact h
theorem Pb.ck {p : Nat} {v : World} {cs : Array Value} (h : Pb p v cs) : Ck p v cs := ⟨h.lt, fun j => cell_of_row v p j _ _ _ h⟩
theorem Pb.drewN {p : Nat} {v : World} {cs : Array Value} (h : Pb p v cs) (n : Nat) : Pb p (v.drewN n) cs := h
theorem pk_info : (Try.prog.info? 29).map (·.size) = some 17 := by kernel_rfl
theorem pk_under : ∃ fs, Try.prog.underlying 29 = some (.struct fs) := by
  have h : (match Try.prog.underlying 29 with | some (.struct _) => true | _ => false) = true := by kernel_rfl
  cases hd : Try.prog.underlying 29 with
  | none => rw [hd] at h; cases h
  | some d => cases d <;> first | exact ⟨_, rfl⟩ | (rw [hd] at h; cases h)
/-- a packet is loaded out of its block -/
theorem step_pk {ops : Array Oper} {rest : List Oper} {o : Oper} {a : Act} {w : World} {Q : Exit → Act → World → Prop} (hw : Region.wanted o (yielded ops a.tmps) = true) (x : Operand) (ho : o.op = .load 29 x)
    (g : Nat) (hx : a.eval x = .pointer (some ⟨g, 0, none⟩)) (cs : Array Value) (hs : cs.size = 17) (hB : Pb g w cs)
    (h : wpList Try.prog ops Q rest (a.put o.dst (.agg cs)) w) : wpList Try.prog ops Q (o :: rest) a w := by
  obtain ⟨fs, hu⟩ := pk_under
  exact wpList_step fun K hK => by rw [if_pos hw]; exact wp_load_row _ x ho g hx _ cs _ _ hB hu rfl (by rw [hs]; exact pk_info) (hK _ _ h)
end Go.Proofs.Ytdobghhjlfffpaa
