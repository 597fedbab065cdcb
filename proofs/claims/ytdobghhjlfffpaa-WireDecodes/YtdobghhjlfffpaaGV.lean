/- A region that draws its order: a fact that each operation carries on, whatever is done already. -/
import Derived.Test.YtdobghhjlfffpaaGN
namespace Go.Proofs.Ytdobghhjlfffpaa
open Go Go.RowKit
theorem cnt_down {l : List Bool} {i : Nat} (h : l[i]? = some false) : (l.set i true).count false + 1 = l.count false := by
  have hi : i < l.length := by
    rcases Nat.lt_or_ge i l.length with h' | h'
    · exact h'
    · rw [List.getElem?_eq_none h'] at h; cases h
  have e : l[i] = false := by rw [List.getElem?_eq_getElem hi] at h; exact Option.some.inj h
  rw [List.count_set hi]
  have hp : 0 < l.count false := List.count_pos_iff.2 (by rw [← e]; exact List.getElem_mem hi)
  simp [e]
  omega
theorem wpAny_inv {P : Program} {ops : Array Oper} {Q : Exit → Act → World → Prop} (I : Array Bool → Act → World → Prop)
    (hstep : ∀ listed a w i o, listed.size = ops.size → I listed a w → listed.getD i true = false → ops[i]? = some o → (∀ e ∈ o.after, Region.binds .any e = true → listed.getD e.on false = true) → wpOp P ops Q i (fun a' w' => I (listed.setIfInBounds i true) a' w') a w)
    (hend : ∀ listed a w, listed.size = ops.size → I listed a w → Region.ready .any ops listed = [] → Q .normal a w) :
    ∀ fuel listed a w, listed.size = ops.size → listed.toList.count false ≤ fuel → I listed a w → wpAny P .any ops Q fuel listed a w
  | 0, listed, a, w, hs, hc, hI => by
    have hr : Region.ready .any ops listed = [] := by
      rw [List.eq_nil_iff_forall_not_mem]
      intro j hj
      have h0 := (mem_ready.1 hj).1
      have hm : listed.toList[j]? = some false := by
        unfold Array.getD at h0
        split at h0
        · rename_i h; rw [Array.getElem?_toList, Array.getElem?_eq_getElem h]; simpa using h0
        · cases h0
      have : 0 < listed.toList.count false := List.count_pos_iff.2 (List.mem_of_getElem? hm)
      omega
    exact ⟨hr, hend listed a w hs hI hr⟩
  | fuel + 1, listed, a, w, hs, hc, hI => by
    refine ⟨fun hr => hend listed a w hs hI hr, fun i hi => ?_⟩
    obtain ⟨h0, o, ho, hall⟩ := mem_ready.1 hi
    have hm : listed.toList[i]? = some false := by
      unfold Array.getD at h0
      split at h0
      · rename_i h; rw [Array.getElem?_toList, Array.getElem?_eq_getElem h]; simpa using h0
      · cases h0
    refine wpOp_mono (fun a' w' h' => ?_) (hstep listed a w i o hs hI h0 ho hall)
    refine wpAny_inv I hstep hend fuel _ a' w' (by simpa using hs) ?_ h'
    have := cnt_down hm
    rw [Array.toList_setIfInBounds]
    omega
theorem all_listed {ops : Array Oper} (hfw : ∀ (i : Nat) o, ops[i]? = some o → ∀ e ∈ o.after, Region.binds .any e = true → e.on < i) {listed : Array Bool} (hs : listed.size = ops.size) (hr : Region.ready .any ops listed = []) : ∀ i, i < ops.size → listed.getD i false = true := by
  intro i
  induction i using Nat.strongRecOn with
  | ind i ih =>
    intro hi
    have hil : i < listed.size := by omega
    cases hv : listed.getD i false with
    | true => rfl
    | false =>
      have hm : i ∈ Region.ready .any ops listed := by
        rw [mem_ready]
        refine ⟨?_, ops[i], Array.getElem?_eq_getElem hi, fun e he hb => ?_⟩
        · simpa [Array.getD, hil] using hv
        · have := hfw i ops[i] (Array.getElem?_eq_getElem hi) e he hb
          exact ih e.on this (by omega)
      rw [hr] at hm
      cases hm
/-- the law -/
theorem wp_region_inv {P : Program} {id : Nat} {Q : Exit → Act → World → Prop} {a : Act} {w : World} {ops : Array Oper} (hm : P.follows .mixedOrders = true) (hfw : ∀ (i : Nat) o, ops[i]? = some o → ∀ e ∈ o.after, Region.binds .any e = true → e.on < i) (I : Array Bool → Act → World → Prop)
    (hstart : I (Array.replicate ops.size false) a { w with drawn := w.drawn + 1 })
    (hstep : ∀ listed a w i o, listed.size = ops.size → I listed a w → listed.getD i true = false → ops[i]? = some o → (∀ e ∈ o.after, Region.binds .any e = true → listed.getD e.on false = true) → wpOp P ops Q i (fun a' w' => I (listed.setIfInBounds i true) a' w') a w)
    (hend : ∀ listed a w, I listed a w → (∀ i, i < ops.size → listed.getD i false = true) → Q .normal a w) : (Code.region id ops true).wp P Q a w := by
  refine wp_region_any hm (wpAny_inv I hstep (fun listed a w hs hI hr => hend listed a w hI (all_listed hfw hs hr)) _ _ _ _ (by simp) ?_ hstart)
  simp
end Go.Proofs.Ytdobghhjlfffpaa
