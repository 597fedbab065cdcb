/- A region that draws its order: readers, and calls that allocate; structs loaded whole. -/
import Derived.Test.YtocimfhagkcnlaaDoorHL
import Derived.Test.YtocimfhagkcnlaaDoorJM
namespace Go.Proofs.YtocimfhagkcnlaaDoor
open Go Go.RowKit Go.Sort
def Gr (w u : World) : Prop := Below w.heap.size w u
/-- a struct loaded whole, in a class that is a letter -/
theorem qa_ldW {ops : Array Oper} {C : World → Prop} {Q : Act → Prop} {rest : List Oper} {o : Oper} {a : Act} (hw : Region.wanted o (yielded ops a.tmps) = true) (ty : TypeId) (x : Operand) (ho : o.op = .load ty x)
    (ad : Addr) (hx : a.eval x = .pointer (some ad)) (cs : List Value) (d : TypeDesc) (hu : Tryd.prog.underlying ty = some d) (hd : d.isRow = true) (hi : (Tryd.prog.info? ty).map (·.size) = some cs.length)
    (hc : ∀ u, C u → ∀ j v, cs[j]? = some v → u.cell? (ad.add j) = some v) (h : QW Tryd.prog ops C Q rest (a.put o.dst (.agg cs.toArray))) : QW Tryd.prog ops C Q (o :: rest) a := by
  refine qa_valW hw ⟨_, fun u hu2 => ?_, h⟩
  unfold execOp
  simp only [ho, hx, Instr.loadAt, Instr.sureAddr, Sem.run_bind, Sem.run_pure, Result.andThen_ok, run_loadVar_at u ad ty cs d (hc u hu2) hu hd hi]
theorem wp_region_grown {id : Nat} {Q : Exit → Act → World → Prop} {a : Act} {w : World} {l : List Oper} (hm : Tryd.prog.follows .mixedOrders = true) (hB : Region.lexB .any l.toArray = true)
    (h : ∀ C : World → Prop, (∀ u, C u → Gr w u) → (∀ u u', C u → Gr u u' → C u') → wpQuiet Tryd.prog l.toArray C (fun a' => ∀ w', Gr w w' → Q .normal a' w') l a) : (Code.region id l.toArray true).wp Tryd.prog Q a w :=
  wp_region_quiet (C := Gr w) hm hB ((Below.refl _ _).drew) (by simpa using h (Gr w) (fun u h => h) (fun u u' h k => Below.trans h (Below.mono k (Below.size h))))
end Go.Proofs.YtocimfhagkcnlaaDoor
