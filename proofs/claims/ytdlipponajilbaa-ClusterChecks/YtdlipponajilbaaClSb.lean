/- Two sorted rows, cut where they meet. Pure. -/
import Derived.Test.YtdlipponajilbaaClS
namespace Go.Proofs.Ytdlipponajilbaa.St
open Go Go.Sort
set_option linter.unusedVariables false
variable {α : Type}
theorem sym_cut {lt : α → α → Bool} (hS : SWO lt) {U V : List α} (sU : So lt U) (sV : So lt V) (p q : Nat) (hp : p ≤ U.length) (hq : q ≤ V.length)
    (hA : ∀ u v, 0 < p → U[p - 1]? = some u → V[q]? = some v → lt v u = false)
    (hB : ∀ u v, 0 < q → U[p]? = some u → V[q - 1]? = some v → lt v u = true) :
    mg lt U V = mg lt (U.take p) (V.take q) ++ mg lt (U.drop p) (V.drop q) := by
  have e := mg_split (lt := lt) (U1 := U.take p) (U2 := U.drop p) (V1 := V.take q) (V2 := V.drop q) (fun u hu v hv => by
    obtain ⟨i, hi, hiu⟩ := mem_take hu
    obtain ⟨j, hj, hjv⟩ := mem_drop hv
    have hjl : j < V.length := (List.getElem?_eq_some_iff.1 hjv).1
    obtain ⟨ul, hul⟩ : ∃ u, U[p - 1]? = some u := ⟨_, List.getElem?_eq_getElem (by omega)⟩
    obtain ⟨ve, hve⟩ : ∃ v, V[q]? = some v := ⟨_, List.getElem?_eq_getElem (by omega)⟩
    have h1 := hA ul ve (by omega) hul hve
    have h2 := so_le sU hS (by omega) hiu hul
    have h3 := so_le sV hS hj hve hjv
    exact hS.ntrans v ve u h3 (hS.ntrans ve ul u h1 h2)) (fun v hv u hu => by
    obtain ⟨j, hj, hjv⟩ := mem_take hv
    obtain ⟨i, hi, hiu⟩ := mem_drop hu
    have hil : i < U.length := (List.getElem?_eq_some_iff.1 hiu).1
    obtain ⟨us, hus⟩ : ∃ u, U[p]? = some u := ⟨_, List.getElem?_eq_getElem (by omega)⟩
    obtain ⟨vl, hvl⟩ : ∃ v, V[q - 1]? = some v := ⟨_, List.getElem?_eq_getElem (by omega)⟩
    have h1 := hB us vl (by omega) hus hvl
    have h2 := so_le sV hS (by omega) hjv hvl
    have h3 := so_le sU hS hi hus hiu
    cases hc : lt v u with
    | true => rfl
    | false => have := hS.ntrans vl v us h2 (hS.ntrans v u us hc h3); rw [h1] at this; cases this)
  rw [List.take_append_drop, List.take_append_drop] at e
  exact e
end Go.Proofs.Ytdlipponajilbaa.St
