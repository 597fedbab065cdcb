/- Auth: one line of a key file, parsed: the document's example. -/
import Derived.Test.YtocimfhagkcnlaaDoorAuJ
namespace Go.Proofs.YtocimfhagkcnlaaDoor
open Go Go.RowKit Go.Sort Go.Shelf
set_option linter.unusedVariables false
attribute [local go_sem] Oper.semAt_some
def exS : ByteArray := ⟨#[55, 32, 83, 72, 65, 50, 53, 54, 32, 48, 48, 102, 102, 32, 35, 32, 120]⟩
def exL : ByteArray := ⟨#[55, 32, 83, 72, 65, 50, 53, 54, 32, 48, 48, 102, 102, 32]⟩
def ex0 : ByteArray := ⟨#[55]⟩
def ex1 : ByteArray := ⟨#[83, 72, 65, 50, 53, 54]⟩
def ex2 : ByteArray := ⟨#[48, 48, 102, 102]⟩
def gapP (r : Nat) : Bool := decide ((r : Int) = 32 ∨ (r : Int) = 9)
theorem ex_lines : lnS (exS.size + 1) exS.data.toList = [exL] := by kernel_rfl
theorem ex_words : Lib.goFieldsP gapP exL = [ex0, ex1, ex2] := by kernel_rfl
theorem ex_key : idE 0 ex0.data.toList = some 7 ∧ rkK ex1 = (1, true) ∧ rdB ex2.data.toList = some [0, 255] ∧ ckK 7 1 2 = 0 := ⟨by kernel_rfl, by kernel_rfl, by kernel_rfl, by kernel_rfl⟩
theorem gap_pred (w : World) : PredAtRunes Tryd.prog 47 #[] gapP w := fun W x hx hb => by
  refine (isGap_any (x : Int) W).mono ?_
  rintro e w' ⟨rfl, rfl⟩
  exact ⟨rfl, 0, rfl⟩
theorem fields_ex (w : World) : Calls Tryd.prog 46 #[.string exL, .func (.func 47) #[] #[]] w fun e w' => ∃ A, e = .returned (.slice (some ⟨A, 0, none⟩) 3 3) ∧ w.heap.size ≤ A ∧ Wx w' A [ex0, ex1, ex2] ∧ Below w.heap.size w w' := by
  have h := Tryd.strings_FieldsFunc_runes 47 #[] (enters_of Tryd.func47 (by kernel_rfl) rfl) gapP exL w (by decide) (gap_pred w)
  rw [ex_words] at h
  refine h.mono ?_
  rintro e w' ⟨A, he, hA, hown, hb⟩
  refine ⟨A, he, hA, ?_, hb⟩
  rcases hown.2 with ⟨h1, _⟩ | ⟨g, cap, cur, h1, h2, h3, h4, h5, h6, h7⟩
  · cases h1
  · injection h1 with h1 _ _
    injection h1 with h1
    injection h1 with h1 _ _
    subst h1
    have hg : A < w'.heap.size := by
      rcases Nat.lt_or_ge A w'.heap.size with h | h
      · exact h
      · rw [Array.getElem?_eq_none h] at h3; cases h3
    refine ⟨hg, fun i t ht => ?_⟩
    have e : ([Value.string ex0, Value.string ex1, Value.string ex2] : List Value)[i]? = some (.string t) := by
      have : ([ex0, ex1, ex2].map Value.string)[i]? = some (.string t) := by rw [List.getElem?_map, ht]; rfl
      exact this
    have hi : i < 3 := by
      rcases Nat.lt_or_ge i 3 with h | h
      · exact h
      · rw [List.getElem?_eq_none (by simpa using h)] at ht; cases ht
    have h8 : (cur.toList.take 3)[i]? = some (.string t) := by
      have : cur.toList.take ([ex0, ex1, ex2].length * 1) = [ex0, ex1, ex2].map Value.string := h7
      simp only [List.length_cons, List.length_nil] at this
      rw [this]; exact e
    rw [List.getElem?_take_of_lt hi] at h8
    rw [cell_of_row w' A i cur 9 (0, 0) h3]
    simpa using h8
theorem key_ex (A c : Nat) (w : World) (h : Wx w A [ex0, ex1, ex2]) : Calls Tryd.prog 48 #[.slice (some ⟨A, 0, none⟩) 3 c] w fun e w' => ∃ k : Kx, e = .returned (.tuple #[.agg (kxL k).toArray, .int .i64 0]) ∧ k.id = 7 ∧ k.n = 2 ∧ Own w' w.heap.size (.slice k.ao k.n k.cap) [0, 255] ∧ Below w.heap.size w w' := by
  refine (readKey_any A c ex0 ex1 ex2 w h (by decide)).mono ?_
  rintro e w' ⟨k, e', rfl, hk, hb⟩
  have hk := hk.out
  obtain ⟨e1, e2, e3, e4⟩ := ex_key
  rw [e1, e2, e3] at hk
  unfold KyR at hk
  rw [if_pos (by rfl)] at hk
  obtain ⟨l, hl, h1, h2, h3, h4, h5, h6⟩ := hk
  injection hl with hl
  subst hl
  have e5 : e' = 0 := h4.trans e4
  subst e5
  exact ⟨k, rfl, h1, h3, h5, hb.out⟩
theorem hasID_nil (id : Int) (w : World) : Calls Tryd.prog 49 #[.slice none 0 0, .int .i64 id] w fun e w' => e = .returned (.bool false) ∧ Below w.heap.size w w' := by
  have h : Rk w.heap.size w 3 (.slice none 0 0) (([] : List Kx).map kxL) := ⟨none, 0, rfl, Nat.le_refl _, fun i hi => absurd hi (by simp)⟩
  exact hasID_any (.slice none 0 0) [] id w w.heap.size h (Nat.le_refl _) (by simp)
theorem lines_any (s : ByteArray) (w : World) : Calls Tryd.prog 45 #[.string s] w fun e w' => e = .returned (.func (.func 68) #[] #[.pointer (some ⟨w.heap.size, 0, none⟩)]) ∧ w' = w.alloc (.cells #[.string s] 9) := by
  go_enter Tryd.func45, Tryd.ntmps45
  go_wp2
  go_ret
  exact ⟨rfl, rfl⟩
end Go.Proofs.YtocimfhagkcnlaaDoor
