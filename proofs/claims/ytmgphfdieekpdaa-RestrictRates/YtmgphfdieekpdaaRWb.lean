/- Rates: bits of flags; a map of rows of numbers, as a function. -/
import Derived.Test.YtmgphfdieekpdaaRWa
import Derived.Maps.OwnRows
import Derived.Maps.GroupsBeside
import Derived.Maps.RangeWalk
import Derived.Maps.Views
namespace Go.Proofs.Ytmgphfdieekpdaa
open Go Go.RowKit Go.Maps Go.ChangeShapes Go.ChangeMaps Go.MapKept
open Go.WideElems (Fit rd rg pl rd_val elemAt)
set_option linter.unusedVariables false
theorem bits64 (op : BinOp) (f : BitVec 64 → BitVec 64 → BitVec 64) (h : ∀ x y : Int, bits op .i64 x y = IntKind.i64.wrap ((f (BitVec.ofInt 64 x) (BitVec.ofInt 64 y)).toNat : Int)) (x y : Int) : BitVec.ofInt 64 (bits op .i64 x y) = f (BitVec.ofInt 64 x) (BitVec.ofInt 64 y) := by
  rw [h]
  apply BitVec.eq_of_toNat_eq
  rw [BitVec.toNat_ofInt]
  have hl := (f (BitVec.ofInt 64 x) (BitVec.ofInt 64 y)).isLt
  rw [IntKind.wrap_i64]
  omega
theorem and_or_32 (F : Int) : bits .and .i64 (bits .or .i64 F 32) 32 ≠ 0 := by
  intro h
  have h1 := congrArg (BitVec.ofInt 64) h
  rw [bits64 .and (· &&& ·) (fun _ _ => rfl), bits64 .or (· ||| ·) (fun _ _ => rfl)] at h1
  have h2 : (BitVec.ofInt 64 F ||| BitVec.ofInt 64 32) &&& BitVec.ofInt 64 32 = BitVec.ofInt 64 32 := by
    apply BitVec.eq_of_getLsbD_eq
    intro i hi
    rw [BitVec.getLsbD_and, BitVec.getLsbD_or]
    cases (BitVec.ofInt 64 F).getLsbD i <;> cases (BitVec.ofInt 64 32).getLsbD i <;> rfl
  rw [h2] at h1
  exact absurd h1 (by decide)
theorem and_or_64 (F : Int) : bits .and .i64 (bits .or .i64 F 32) 64 = bits .and .i64 F 64 := by
  have h2 : (BitVec.ofInt 64 F ||| BitVec.ofInt 64 32) &&& BitVec.ofInt 64 64 = BitVec.ofInt 64 F &&& BitVec.ofInt 64 64 := by
    apply BitVec.eq_of_getLsbD_eq
    intro i hi
    rw [BitVec.getLsbD_and, BitVec.getLsbD_or, BitVec.getLsbD_and]
    have h3 : ((BitVec.ofInt 64 32) &&& (BitVec.ofInt 64 64)).getLsbD i = false := by
      have : (BitVec.ofInt 64 32) &&& (BitVec.ofInt 64 64) = 0#64 := by decide
      rw [this, BitVec.getLsbD_zero]
    rw [BitVec.getLsbD_and] at h3
    cases h4 : (BitVec.ofInt 64 F).getLsbD i <;> cases h5 : (BitVec.ofInt 64 32).getLsbD i <;> cases h6 : (BitVec.ofInt 64 64).getLsbD i <;> simp_all
  have hu : ∀ x y : Int, bits .and .i64 x y = IntKind.i64.wrap (((BitVec.ofInt 64 x) &&& (BitVec.ofInt 64 y)).toNat : Int) := fun _ _ => rfl
  rw [hu, bits64 .or (· ||| ·) (fun _ _ => rfl), h2, ← hu]
/-- what a row reads as -/
def Dat (d : DataW Unit) (l : List Int) : Prop := (d = .nil ∧ l = []) ∨ d = .slice (lits .i64 l) []
theorem Dat.inj {d : DataW Unit} {l m : List Int} (h : Dat d l) (k : Dat d m) : l = m := by
  rcases h with ⟨rfl, rfl⟩ | rfl
  · rcases k with ⟨_, rfl⟩ | k
    · rfl
    · cases k
  · rcases k with ⟨k, _⟩ | k
    · cases k
    · injection k with k _
      unfold lits at k
      exact (List.map_inj_right (fun a b hab => by injection hab with hab; injection hab)).1 k
theorem dat_row {w : World} {base : Nat} {v : Value} {zs : List Int} (h : w.ownsInts base 3 .i64 v zs) : Dat (rowDatum .i64 v zs) zs := by
  rcases h.datum (H := Unit) with ⟨h1, h2⟩ | h1
  · exact .inl ⟨h1, h2⟩
  · exact .inr h1
/-- a map of rows, as a function -/
structure Gv (w : World) (b n : Nat) (f : Int → List Int) : Prop where
  ex : ∃ D : DataW Unit, w.ownsGroups Try.prog 24 (b + 1) 3 .i64 b n D ∧ ∀ a, 0 ≤ a → a < 4294967296 → Dat (D.atKey (.int .u32 a) .nil) (f a)
theorem ints_keep {w w' : World} {base : Nat} {v : Value} {zs : List Int} (h : w.ownsInts base 3 .i64 v zs) (hr : ∀ (g : Nat) (cur : Array Value), w.heap[g]? = some (.cells cur 3 (0, 0)) → w'.heap[g]? = w.heap[g]?) : w'.ownsInts base 3 .i64 v zs := by
  refine ⟨⟨h.1.1, ?_⟩, h.2⟩
  rcases h.1.2 with h1 | ⟨g, cap, cur, h1, h2, h3, h4⟩
  · exact .inl h1
  · exact .inr ⟨g, cap, cur, h1, h2, by rw [hr g cur h3]; exact h3, h4⟩
theorem Gv.keep {w w' : World} {b n : Nat} {f : Int → List Int} (h : Gv w b n f) (hb' : ∀ es clock, w.heap[b]? = some (.map es clock) → w'.heap[b]? = w.heap[b]?) (hr : ∀ (g : Nat) (cur : Array Value), w.heap[g]? = some (.cells cur 3 (0, 0)) → w'.heap[g]? = w.heap[g]?) : Gv w' b n f := by
  obtain ⟨D, ⟨es, clock, hb, F, hs, rfl, hbb, hlen, hap⟩, hD⟩ := h.ex
  have hst : ∀ x ∈ es.toList, ∀ z, rowElem (H := Unit) w (b + 1) 3 .i64 x.val = some z → rowElem w' (b + 1) 3 .i64 x.val = some z := fun x hx z hz => by
    obtain ⟨zs, ho, rfl⟩ := rowElem_inv hz
    exact rowElem_mk (ints_keep ho hr)
  obtain ⟨F1, hmap, _⟩ := F.stay hst
  refine ⟨_, ⟨es, clock, by rw [hb' es clock hb]; exact hb, F1, hs, by rw [hmap], hbb, fun x hx zs ho => ?_, hap⟩, hD⟩
  obtain ⟨y, hy⟩ := F.reads x hx
  obtain ⟨z, hz, _⟩ := rd_val hy
  obtain ⟨zs0, ho0, _⟩ := rowElem_inv hz
  rw [ho.unique (ints_keep ho0 hr)]
  exact hlen x hx zs0 ho0
theorem Gv.lt {w : World} {b n : Nat} {f : Int → List Int} (h : Gv w b n f) : ∃ es clock, w.heap[b]? = some (.map es clock) := by
  obtain ⟨D, ⟨es, clock, hb, _⟩, _⟩ := h.ex
  exact ⟨es, clock, hb⟩
theorem get_lt {w : World} {p : Nat} {o : Obj} (h : w.heap[p]? = some o) : p < w.heap.size := (Array.getElem?_eq_some_iff.1 h).1
theorem Gv.below {w w' : World} {b n : Nat} {f : Int → List Int} (h : Gv w b n f) (hb : Below w.heap.size w w') : Gv w' b n f :=
  h.keep (fun es clock h1 => hb.block _ (get_lt h1)) (fun g cur h1 => hb.block _ (get_lt h1))
theorem Gv.fm {w w' : World} {b n B g : Nat} {f : Int → List Int} {sv : Value} {cost mn now turns : Int} {xs : List Sn} (h : Gv w b n f) (hM : Mm w B g sv cost mn now turns xs) (hf : Fm w w' g sv) : Gv w' b n f := by
  have hg : w.heap[g]? = some (.cells _ 66 (0, 0)) := hM.blk
  have hsv : ∀ p o, w.heap[p]? = some o → (∀ cur, o ≠ .cells cur 75 (0, 0)) → sv.ownBlock ≠ some p := fun p o hp hne e => by
    rcases hM.row.row.2 with ⟨h1, _⟩ | ⟨g', cap, cur, h1, _, h3, _⟩
    · rw [h1] at e; cases e
    · rw [h1] at e
      injection e with e
      have e2 : g' = p := e
      subst e2
      rw [hp] at h3
      exact hne cur (Option.some.inj h3)
  refine h.keep (fun es clock h1 => hf.block _ (get_lt h1) (fun e => ?_) (hsv _ _ h1 (fun cur hh => by cases hh))) (fun p cur h1 => hf.block _ (get_lt h1) (fun e => ?_) (hsv _ _ h1 (fun cur' hh => by injection hh with _ hh; exact absurd hh (by decide))))
  · subst e; rw [hg] at h1; cases h1
  · subst e; rw [hg] at h1; injection h1 with h1; injection h1 with _ h1; exact absurd h1 (by decide)
/-- the memory stays, whatever becomes of rows of numbers and of a map -/
theorem Mm.keep2 {w w' : World} {B g b : Nat} {sv : Value} {cost mn now turns : Int} {xs : List Sn} (h : Mm w B g sv cost mn now turns xs) (hb : ∀ p, p < w.heap.size → (∀ es clock, w.heap[p]? ≠ some (.map es clock)) → (∀ cur, w.heap[p]? ≠ some (.cells cur 3 (0, 0))) → w'.heap[p]? = w.heap[p]?) : Mm w' B g sv cost mn now turns xs := by
  refine h.kept fun k hk hor => hb k hk (fun es clock e => ?_) (fun cur e => ?_)
  · rcases hor with rfl | hor
    · have := h.blk; unfold Bk at this; rw [this] at e; cases e
    · rcases h.row.row.2 with ⟨h1, _⟩ | ⟨g', cap, cur, h1, _, h3, _⟩
      · rw [h1] at hor; cases hor
      · rw [h1] at hor; injection hor with hor; have e2 : g' = k := hor; subst e2; rw [h3] at e; cases e
  · rcases hor with rfl | hor
    · have := h.blk; unfold Bk at this; rw [this] at e; injection e with e; injection e with _ e; exact absurd e (by decide)
    · rcases h.row.row.2 with ⟨h1, _⟩ | ⟨g', cap, cur', h1, _, h3, _⟩
      · rw [h1] at hor; cases hor
      · rw [h1] at hor; injection hor with hor; have e2 : g' = k := hor; subst e2; rw [h3] at e; injection e with e; injection e with _ e; exact absurd e (by decide)
theorem Gv.made (w : World) : Gv (w.alloc (.map #[] 0)) w.heap.size 0 (fun _ => []) :=
  ⟨.map [], World.ownsGroups_made _ _ _ _ _, fun a _ _ => .inl ⟨rfl, rfl⟩⟩
theorem Gv.more {w : World} {b n m : Nat} {f : Int → List Int} (h : Gv w b n f) (hm : n ≤ m) : Gv w b m f := by
  obtain ⟨D, ⟨es, clock, hb, F, hs, hD0, hbb, hlen, hap⟩, hD⟩ := h.ex
  exact ⟨D, ⟨es, clock, hb, F, Nat.le_trans hs hm, hD0, hbb, fun x hx zs ho => Nat.le_trans (hlen x hx zs ho) hm, hap⟩, hD⟩
theorem keyU : Keyed Try.prog 24 := int_keyed Try.underlying24
theorem Gv.put {w2 : World} {b n : Nat} {f : Int → List Int} {D : DataW Unit} {a t : Int} {v' : Value} {w1 : World} (hD : ∀ a, 0 ≤ a → a < 4294967296 → Dat (D.atKey (.int .u32 a) .nil) (f a)) (hm : IsMap D) (h1 : w1.ownsInts (b + 1) 3 .i64 v' (f a ++ [t])) (h2 : w2.ownsGroups Try.prog 24 (b + 1) 3 .i64 b (n + 1) (D.put (.int .u32 a) (rowDatum .i64 v' (f a ++ [t])))) : Gv w2 b (n + 1) (upd f a t) := by
  refine ⟨_, h2, fun c c0 c1 => ?_⟩
  unfold upd
  by_cases hca : c = a
  · subst hca
    rw [if_pos rfl, atKey_put_same (k := Lit.int .u32 c) hm trivial]
    exact dat_row h1
  · rw [if_neg hca, atKey_put_other (fun e => hca (by injection e))]
    exact hD c c0 c1
end Go.Proofs.Ytmgphfdieekpdaa
