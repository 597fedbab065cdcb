/- What Median of package pulse returns. -/
import Derived.Test.YtenlkadmniobdaaPB
import Derived.Test.YtenlkadmniobdaaShelfG
import Derived.Laws.CopyOwn
import Derived.Sort.OwnSortedInts
namespace Go.Proofs.Ytenlkadmniobdaa
open Go.RowKit Go.Sort
/-- spans as values -/
def vi (ys : List Int) : List Value := ys.map (Value.int .i64)
theorem vi_len (ys : List Int) : (vi ys).length = ys.length := by unfold vi; rw [List.length_map]
/-- a block that holds these spans, whole -/
def Ay (w : World) (q : Nat) (T : TypeId) (ys : List Int) : Prop := w.heap[q]? = some (.cells (vi ys).toArray T (0, 0))
theorem getD_at (a : List Int) (k : Nat) (h : k < a.length) : a[k]? = some (a.getD k 0) := by
  rw [List.getD_eq_getElem?_getD, List.getElem?_eq_getElem h]; rfl
theorem vi_get (ys : List Int) (k : Nat) (h : k < ys.length) : (vi ys)[k]? = some (.int .i64 (ys.getD k 0)) := by
  unfold vi; rw [List.getElem?_map, getD_at _ _ h]; rfl
theorem Ay.lt {w : World} {q : Nat} {T : TypeId} {ys : List Int} (h : Ay w q T ys) : q < w.heap.size := (Array.getElem?_eq_some_iff.1 h).1
theorem Ay.cell {w : World} {q : Nat} {T : TypeId} {ys : List Int} (h : Ay w q T ys) (k : Nat) (hk : k < ys.length) : w.cell? ⟨q, k, none⟩ = some (.int .i64 (ys.getD k 0)) := by
  rw [cell_of_row w q k _ T (0, 0) h]
  have := vi_get ys k hk
  simpa using this
theorem Ay.frozen {w : World} {q : Nat} {T : TypeId} {ys : List Int} (h : Ay w q T ys) (k : Nat) : w.frozen? ⟨q, k, none⟩ = false := by
  unfold Ay at h
  simp [World.frozen?, h]
theorem Ay.set {w : World} {q : Nat} {T : TypeId} {ys : List Int} (h : Ay w q T ys) (k : Nat) (v : Int) : Ay (w.setCell ⟨q, k, none⟩ (.int .i64 v)) q T (ys.set k v) := by
  unfold Ay
  rw [setCell_eq_setRow w q k _ T (0, 0) _ h, setRow_heap w q _ _ T _ h]
  congr 2
  unfold vi
  simp [List.map_set]
theorem Ay.below {w w' : World} {q B : Nat} {T : TypeId} {ys : List Int} (h : Ay w q T ys) (hb : Below B w w') (hq : q < B) : Ay w' q T ys := (hb.block q hq).trans h
theorem Ay.grown {w w' : World} {q : Nat} {r : Option Nat} {T : TypeId} {ys : List Int} (h : Ay w q T ys) (hb : w.grownBy w' r) (hq : some q ≠ r) : Ay w' q T ys := (hb.block q h.lt hq).trans h
theorem Ay.drew {w : World} {q n : Nat} {T : TypeId} {ys : List Int} (h : Ay w q T ys) : Ay (w.drewN n) q T ys := h
theorem add_own (g o k : Nat) : (⟨g, o, none⟩ : Addr).add k = ⟨g, o + k, none⟩ := by unfold Addr.add; split <;> simp_all
theorem Ay.ra {w : World} {q : Nat} {T : TypeId} {ys : List Int} (h : Ay w q T ys) (o n : Nat) (ho : o + n ≤ ys.length) : Ra w ⟨q, o, none⟩ ((ys.drop o).take n) := fun k hk => by
  rw [List.length_take, List.length_drop] at hk
  rw [add_own, h.cell _ (by omega), List.getD_eq_getElem?_getD, List.getD_eq_getElem?_getD, List.getElem?_take_of_lt (by omega), List.getElem?_drop]
theorem info25 : (Try.prog.info? 25).map (·.size) = some 1 := by kernel_rfl
theorem alloc_new (w : World) (o : Obj) : (w.alloc o).heap[w.heap.size]? = some o := by
  show (w.heap.push o)[w.heap.size]? = some o
  simp
/-- room for 64, the first ones laid into it -/
theorem copy_room (Z0 : Array Value) (hZ : Z0 = (List.replicate 64 (Value.int .i64 0)).toArray) (ad : Addr) (xs : List Int) (cap m : Nat) (w : World) (hl : 0 < xs.length) (hm : m = min 64 xs.length) (hr : Ra w ad xs) (hb : ad.block < w.heap.size) :
    ∃ w2 ys, (Builtin.copy_ #[28, 28] 3 #[.slice (some ⟨w.heap.size, 0, none⟩) 64 64, .slice (some ad) xs.length cap]).run Try.prog (w.alloc (.cells Z0 58)) = .ok (.int .i64 (m : Int)) w2 ∧
      Ay w2 w.heap.size 58 ys ∧ ys.length = 64 ∧ (∀ j, j < m → ys.getD j 0 = xs.getD j 0) ∧ Below w.heap.size w w2 := by
  have hg : (w.alloc (.cells Z0 58)).heap[w.heap.size]? = some (.cells Z0 58 (0, 0)) := alloc_new _ _
  have hx : (xs.take 64).length = m := by rw [List.length_take]; omega
  have hrun := run_copy_row (P := Try.prog) (w.alloc (.cells Z0 58)) 28 28 3 25 w.heap.size 0 64 64 ad xs.length cap _ 58 (vi (xs.take 64)) Try.underlying28 info25 hg
    (by rw [vi_len, hx, hm]; exact Nat.min_comm _ _)
    (by
      intro j v hv
      by_cases hj : j < (xs.take 64).length
      · rw [vi_get _ _ hj] at hv
        injection hv with hv
        have h64 : j < 64 ∧ j < xs.length := by rw [List.length_take] at hj; omega
        have hc := hr j h64.2
        have ha : (w.alloc (.cells Z0 58)).cell? (ad.add j) = w.cell? (ad.add j) :=
          World.cell?_of_block (w := w) (Below.heap_alloc w _ _ (by rw [show (ad.add j).block = ad.block by unfold Addr.add; split <;> rfl]; exact hb))
        rw [ha, hc, ← hv, List.getD_eq_getElem?_getD, List.getD_eq_getElem?_getD, List.getElem?_take_of_lt h64.1]
      · rw [List.getElem?_eq_none (by rw [vi_len]; omega)] at hv; cases hv)
    (by rw [vi_len, hx, hZ]; simp; omega) (by intro v hv; unfold vi at hv; obtain ⟨b, _, rfl⟩ := List.mem_map.1 hv; rfl)
  rw [vi_len, hx] at hrun
  refine ⟨_, xs.take 64 ++ List.replicate (64 - m) 0, hrun, ?_, by simp; omega, ?_, ?_⟩
  · unfold Ay
    rw [setRow_heap _ _ _ _ _ _ hg]
    refine congrArg (fun c => some (Obj.cells c 58 (0, 0))) ?_
    refine congrArg List.toArray ?_
    rw [hZ, List.take_zero, List.nil_append, Nat.zero_add, List.drop_replicate]
    unfold vi
    rw [List.map_append, List.map_replicate]
  · intro j hj
    rw [List.getD_eq_getElem?_getD, List.getElem?_append_left (by omega), List.getElem?_take_of_lt (by omega), ← List.getD_eq_getElem?_getD]
  · exact below_setRow ((Below.refl _ _).alloc (Nat.le_refl _) _) (Nat.le_refl _) _
theorem sort_any (q m : Nat) (T : TypeId) (ys zs : List Int) (c : Nat) (w : World) (hA : Ay w q T ys) (hm : zs.length = m) (hy : ys.take m = zs) (hs : m ≤ 64) :
    Calls Try.prog 28 #[.slice (some ⟨q, 0, none⟩) m c] w fun e w' => e = .returned (.tuple #[]) ∧ Ay w' q T (Pu.srt zs ++ ys.drop m) ∧ w.grownBy w' (some q) := by
  subst hm
  have hH : Holds (Value.int .i64) w q 0 zs.toArray := holds_of_blockI (cur := (vi ys).toArray) (e := T) hA (by
    show (vi ys).take zs.length = _
    unfold vi
    rw [← List.map_take, hy])
  have h := AnyM.slices_Sort_int Try.sortS q 0 c zs w hH hA.lt (by omega)
  refine Calls.mono h ?_
  rintro e w' ⟨rfl, n, os, rfl⟩
  refine ⟨rfl, ?_, grownBy_sortedI _⟩
  have hh := heap_sortedI (n := n) (os := os) (zs.mergeSort fun x y => decide (x ≤ y)).toArray hA
  unfold Ay
  rw [hh]
  congr 2
  apply Array.ext'
  have hzl : zs.length ≤ ys.length := by rw [← hy, List.length_take]; omega
  have hsl := Pu.srt_len zs
  have hlen : zs.length + (ys.drop zs.length).length = ys.length := by rw [List.length_drop]; omega
  show (putCells (Value.int .i64) 0 (Pu.srt zs).toArray (vi ys).toArray).toList = vi (Pu.srt zs ++ ys.drop zs.length)
  apply List.ext_getElem?
  intro j
  unfold vi putCells
  simp only [Array.toList_mapIdx, List.getElem?_mapIdx, List.getElem?_map, List.getElem?_append, hsl, List.getElem?_drop]
  by_cases h1 : j < zs.length
  · rw [if_pos h1, List.getElem?_eq_getElem (show j < ys.length by omega), List.getElem?_eq_getElem (show j < (Pu.srt zs).length by omega)]
    simp [h1, hsl]
  · rw [if_neg h1, show zs.length + (j - zs.length) = j by omega]
    by_cases h2 : j < ys.length
    · rw [List.getElem?_eq_getElem h2]
      simp [h1, hsl]
    · rw [List.getElem?_eq_none (by omega)]
      simp
end Go.Proofs.Ytenlkadmniobdaa
