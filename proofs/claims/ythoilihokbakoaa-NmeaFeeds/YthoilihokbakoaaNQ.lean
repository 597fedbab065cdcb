/- A region whose first operations are forced, and whose rest only reads. -/
import Derived.Test.YthoilihokbakoaaNO
import Derived.Deep.RegionWith
import Derived.BigQuiet
namespace Go.Proofs.Ythoilihokbakoaa
open Go Go.RowKit
/-- all that is left only reads -/
theorem wpAny_rest {P : Program} {ops : Array Oper} {Q' : Exit → Act → World → Prop} {md : Region.Mode} {a : Act} {w : World} (k fuel : Nat) {listed : Array Bool} (C : World → Prop) (hs : Region.noSelect ops = true) (hB : Region.lexFrom md ops (ops.toList.drop k).length k listed = true) (hf : fuel = (ops.toList.drop k).length) (hC : C w)
    (h : wpQuiet P ops C (fun a' => ∀ w', C w' → Q' .normal a' w') (ops.toList.drop k) a) : wpAny P md ops Q' fuel listed a w := by
  subst hf
  refine wpAny_of_quiet (C := C) (Q := fun a' => ∀ w', C w' → Q' .normal a' w') (fun _ w' hw' h => h w' hw') _ _ _ _ hC ?_
  exact wpAnyQ_lex hs _ k _ _ (fun j => by rw [List.getElem?_drop]; simp) hB h
end Go.Proofs.Ythoilihokbakoaa
