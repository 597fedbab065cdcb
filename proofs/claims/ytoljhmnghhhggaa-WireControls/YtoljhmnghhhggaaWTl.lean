/- The errors of DecodeControl are one; what is written is bytes. -/
import Derived.Test.YtoljhmnghhhggaaWO
import Derived.Test.YtoljhmnghhhggaaWP
import Derived.Test.YtoljhmnghhhggaaWQ
namespace Go.Proofs.Ytoljhmnghhhggaa
open Go.RowKit
theorem DE_uniq {bs : List Int} {E E' : Int} (h : DE bs E) (h' : DE bs E') : E = E' := by
  by_cases l1 : 512 < bs.length
  · rw [h.1 l1, h'.1 l1]
  by_cases l2 : bs.length < 12
  · rw [h.2.1 l2, h'.2.1 l2]
  by_cases hg : cG bs ∧ tG (rst bs)
  · rw [h.2.2.2 (by omega) (by omega) hg, h'.2.2.2 (by omega) (by omega) hg]
  · rw [h.2.2.1 (by omega) (by omega) hg, h'.2.2.1 (by omega) (by omega) hg]
theorem DE_zero {bs : List Int} (h : DE bs 0) : 12 ≤ bs.length ∧ bs.length ≤ 512 ∧ cG bs ∧ tG (rst bs) := by
  by_cases l1 : 512 < bs.length
  · have := h.1 l1; omega
  by_cases l2 : bs.length < 12
  · have := h.2.1 l2; omega
  by_cases hg : cG bs ∧ tG (rst bs)
  · exact ⟨by omega, by omega, hg.1, hg.2⟩
  · have := h.2.2.1 (by omega) (by omega) hg; omega
theorem ecB_ok {ver : Int} {r e m : Bool} {op seq sta ass off : Int} {data : List Int} {key : Int} {mac : List Int} (hd : okb data) (hm : okb mac) : okb (ecB ver r e m op seq sta ass off data key mac) := by
  unfold ecB cmB cmH dg
  refine okb_app (okb_app (okb_app ?_ hd) (be_ok _ _)) ?_
  · exact okb_app (okb_app (okb_app (okb_app (okb_app (okb_app (be_ok _ _) (be_ok _ _)) (be_ok _ _)) (be_ok _ _)) (be_ok _ _)) (be_ok _ _)) (be_ok _ _)
  · split
    · exact okb_nil
    · exact okb_app (be_ok _ _) hm
theorem Sv.okb {N : Nat} {w : World} {v : Value} {bs : List Int} (h : Sv N w v bs) : okb bs := by obtain ⟨_, _, _, _, _, _, h⟩ := h; exact h
theorem ctV_inj {ver ver' : Int} {r r' e e' m m' : Bool} {op op' seq seq' sta sta' ass ass' off off' : Int} {dv dv' : Value} {key key' : Int} {mv mv' : Value} (h : ctV ver r e m op seq sta ass off dv key mv = ctV ver' r' e' m' op' seq' sta' ass' off' dv' key' mv') :
    ver = ver' ∧ r = r' ∧ e = e' ∧ m = m' ∧ op = op' ∧ seq = seq' ∧ sta = sta' ∧ ass = ass' ∧ off = off' ∧ dv = dv' ∧ key = key' ∧ mv = mv' := by
  unfold ctV at h
  simpa using h
theorem own_nil_len {w : World} {B : Nat} {bs : List Int} (h : Own w B (.slice none 0 0) bs) : bs = [] := by
  obtain ⟨ao, cap, hv, _⟩ := h.rs
  injection hv with _ h2 _
  exact List.length_eq_zero_iff.1 h2.symm
end Go.Proofs.Ytoljhmnghhhggaa
