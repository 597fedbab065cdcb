/- Senders sorted. -/
import Derived.Test.YtmgphfdieekpdaaLA
import Derived.Test.YtmgphfdieekpdaaSA
import Derived.Shelf.SlSortCmp.NoneTotal
namespace Go.Proofs.Ytmgphfdieekpdaa
open Go Go.RowKit Go.Sort
def csI (x y : Sn) : Int := cmS y.turn x.turn
def ltS (x y : Sn) : Bool := decide (csI x y < 0)
theorem ltS_iff (x y : Sn) : ltS x y = true ↔ y.turn < x.turn := by
  unfold ltS csI cmS
  rw [decide_eq_true_eq]
  repeat' split
  all_goals omega
theorem ltS_le {x y : Sn} (h : Proofs.ltOf csI y x = false) : y.turn ≤ x.turn := by
  rcases Int.lt_or_le x.turn y.turn with h1 | h1
  · have h3 : ltS y x = false := h
    rw [(ltS_iff y x).2 h1] at h3
    cases h3
  · exact h1
theorem ltS_swo : SWO (Proofs.ltOf csI) where
  irrefl x := by
    have h := ltS_iff x x
    show ltS x x = false
    cases hx : ltS x x
    · rfl
    · exact absurd (h.1 hx) (by omega)
  trans x y z h1 h2 := by
    have h1' := (ltS_iff x y).1 h1
    have h2' := (ltS_iff y z).1 h2
    exact (ltS_iff x z).2 (by omega)
  ntrans x y z h1 h2 := by
    have h1' := ltS_le h1
    have h2' := ltS_le h2
    show ltS x z = false
    cases hx : ltS x z
    · rfl
    · have := (ltS_iff x z).1 hx
      exfalso
      omega
theorem one_sn (x : Sn) : ∀ u ∈ snL x, u.oneCell' = true := fun u hu => by
  simp [snL] at hu
  rcases hu with rfl | rfl | rfl | rfl | rfl | rfl <;> rfl
theorem isAggSn : ∀ w, (isAgg (Try.sortSn_ren.t 24)).run Try.prog w = .ok true w := Try.isAgg75
theorem sizeSn : ∀ w, (Go.sizeOf (Try.sortSn_ren.t 24)).run Try.prog w = .ok 6 w := Try.sizeOf75
set_option maxHeartbeats 1000000 in
theorem sortSn_any (B g cap : Nat) (xs : List Sn) (w : World) (h : OR w B 75 6 (.slice (some ⟨g, 0, none⟩) xs.length cap) (xs.map snL)) (hg : g < w.heap.size) (hl : xs.length ≤ 100000) :
    Calls Try.prog 39 #[.slice (some ⟨g, 0, none⟩) xs.length cap, .func (.func 40) #[] #[]] w fun e w' => e = .returned (.tuple #[]) ∧ ∃ ys : List Sn, ys.Perm xs ∧ ys.Pairwise (fun a b => b.turn ≤ a.turn) ∧ OR w' B 75 6 (.slice (some ⟨g, 0, none⟩) xs.length cap) (ys.map snL) ∧ w.grownBy w' (some g) := by
  haveI : Inhabited Sn := ⟨⟨0, 0, 0, 0, 0, 0⟩⟩
  have eg : ∀ args w, (callFunc 40 args).run Try.prog w = .ok (.enter 40 args) w := Proofs.enters_of Try.func40 (by kernel_rfl) rfl
  have hcon := Proofs.AnyQ.slices_SortFunc Try.sortSn 6 isAggSn sizeSn snL (fun _ => rfl) (fun x v hv => one_sn x v hv) csI ltS_swo 40 #[] g 0 cap xs.toArray w eg (fun m os dk _ x y => listCmp_any x y _) (h.holdsK (fun _ => rfl) (by decide)) hg (by simp; omega)
  change Calls Try.prog 39 _ _ _ at hcon
  have e1 : xs.toArray.size = xs.length := by simp
  rw [e1] at hcon
  refine hcon.mono ?_
  rintro e w' ⟨rfl, d', n, os, hp, hs, rfl⟩
  have hsz : d'.size = xs.length := by have := hp.1; simpa using this
  have hpm : d'.toList.Perm xs := by
    have := hp.2.2
    have h2 : (d'.extract 0 xs.length).toList = d'.toList := by simp [hsz, List.take_of_length_le]
    rw [h2] at this
    simpa using this
  have hb := h.putRowK (q := n) (ys := d'.toList) (fun _ => rfl) (by decide) (by simp [hsz]) os
  rw [Array.toArray_toList] at hb
  refine ⟨rfl, d'.toList, hpm, ?_, hb.1, hb.2⟩
  rw [List.pairwise_iff_getElem]
  intro i j hi hj hij
  have hi' : i < d'.size := by simpa using hi
  have hj' : j < d'.size := by simpa using hj
  have := hs i j (Nat.zero_le _) hij (by omega)
  rw [getElem!_pos d' i hi', getElem!_pos d' j hj'] at this
  rw [Array.getElem_toList, Array.getElem_toList]
  exact ltS_le this
theorem sortSnAll_any (B : Nat) (v : Value) (xs : List Sn) (w : World) (h : OR w B 75 6 v (xs.map snL)) (hB : B ≤ w.heap.size) (hl : xs.length ≤ 100000) :
    Calls Try.prog 39 #[v, .func (.func 40) #[] #[]] w fun e w' => e = .returned (.tuple #[]) ∧ ∃ ys : List Sn, ys.Perm xs ∧ ys.Pairwise (fun a b => b.turn ≤ a.turn) ∧ OR w' B 75 6 v (ys.map snL) ∧ Below B w w' := by
  by_cases h0 : xs = []
  · subst h0
    obtain ⟨ao, cap, hv, -, -⟩ := h.rk
    rw [List.map_nil, List.length_nil] at hv
    subst hv
    have hcon := Proofs.AnyF.slices_SortFunc_none Try.sortSn ao cap (.func (.func 40) #[] #[]) w
    change Calls Try.prog 39 _ _ _ at hcon
    refine hcon.mono ?_
    rintro e w' ⟨rfl, rfl⟩
    exact ⟨rfl, [], List.Perm.refl _, List.Pairwise.nil, h, Below.refl _ _⟩
  · obtain ⟨g, cap, hv, hc, hg1, hg2⟩ := h.form (by rw [List.length_map]; exact List.length_pos_iff.2 h0)
    rw [List.length_map] at hv
    subst hv
    refine (sortSn_any B g cap xs w h hg2 hl).mono ?_
    rintro e w' ⟨rfl, ys, h1, h2, h3, h4⟩
    exact ⟨rfl, ys, h1, h2, h3, (Below.refl _ _).grown h4 hB (fun k hk => by injection hk with hk; omega)⟩
end Go.Proofs.Ytmgphfdieekpdaa
