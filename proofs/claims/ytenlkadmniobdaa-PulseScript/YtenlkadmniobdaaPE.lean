/- A line in memory; what Len, Phase and isFar return. -/
import Derived.Test.YtenlkadmniobdaaPD
import Derived.Test.YtenlkadmniobdaaBigK
namespace Go.Proofs.Ytenlkadmniobdaa
open Go.RowKit
/-- a line's cells -/
def Lc (os : List Int) (n : Int) (tk : Bool) (la : Int) (re im : Nat) : List Value := vi os ++ [.int .i64 n, .bool tk, .int .u64 la, .complex .f64 re im]
/-- a line in block p, its cells -/
def Lb (w : World) (p : Nat) (os : List Int) (n : Int) (tk : Bool) (la : Int) (re im : Nat) : Prop := os.length = 16 ∧ w.heap[p]? = some (.cells (Lc os n tk la re im).toArray 64 (0, 0))
theorem Lb.lt {w : World} {p : Nat} {os : List Int} {n : Int} {tk : Bool} {la : Int} {re im : Nat} (h : Lb w p os n tk la re im) : p < w.heap.size := (Array.getElem?_eq_some_iff.1 h.2).1
theorem Lb.get {w : World} {p : Nat} {os : List Int} {n : Int} {tk : Bool} {la : Int} {re im : Nat} (h : Lb w p os n tk la re im) (k : Nat) : w.cell? ⟨p, k, none⟩ = (Lc os n tk la re im)[k]? := by
  rw [cell_of_row w p k _ _ (0, 0) h.2]; simp
theorem Lb.frozen {w : World} {p : Nat} {os : List Int} {n : Int} {tk : Bool} {la : Int} {re im : Nat} (h : Lb w p os n tk la re im) (k : Nat) : w.frozen? ⟨p, k, none⟩ = false := by
  have h2 := h.2
  simp [World.frozen?, h2]
theorem Lb.at {w : World} {p : Nat} {os : List Int} {n : Int} {tk : Bool} {la : Int} {re im : Nat} (h : Lb w p os n tk la re im) (k : Nat) (hk : k < 16) : w.cell? ⟨p, k, none⟩ = some (.int .i64 (os.getD k 0)) := by
  rw [h.get]; unfold Lc
  rw [List.getElem?_append_left (by rw [vi_len, h.1]; exact hk), vi_get _ _ (by rw [h.1]; exact hk)]
theorem Lb.tail {w : World} {p : Nat} {os : List Int} {n : Int} {tk : Bool} {la : Int} {re im : Nat} (h : Lb w p os n tk la re im) (k : Nat) : w.cell? ⟨p, 16 + k, none⟩ = ([.int .i64 n, .bool tk, .int .u64 la, .complex .f64 re im] : List Value)[k]? := by
  rw [h.get]; unfold Lc
  rw [List.getElem?_append_right (by rw [vi_len, h.1]; omega), vi_len, h.1, Nat.add_sub_cancel_left]
theorem Lb.n {w : World} {p : Nat} {os : List Int} {n : Int} {tk : Bool} {la : Int} {re im : Nat} (h : Lb w p os n tk la re im) : w.cell? ⟨p, 16, none⟩ = some (.int .i64 n) := h.tail 0
theorem Lb.tk {w : World} {p : Nat} {os : List Int} {n : Int} {tk : Bool} {la : Int} {re im : Nat} (h : Lb w p os n tk la re im) : w.cell? ⟨p, 17, none⟩ = some (.bool tk) := h.tail 1
theorem Lb.la {w : World} {p : Nat} {os : List Int} {n : Int} {tk : Bool} {la : Int} {re im : Nat} (h : Lb w p os n tk la re im) : w.cell? ⟨p, 18, none⟩ = some (.int .u64 la) := h.tail 2
theorem Lb.ph {w : World} {p : Nat} {os : List Int} {n : Int} {tk : Bool} {la : Int} {re im : Nat} (h : Lb w p os n tk la re im) : w.cell? ⟨p, 19, none⟩ = some (.complex .f64 re im) := h.tail 3
theorem Lb.put {w : World} {p : Nat} {os : List Int} {n : Int} {tk : Bool} {la : Int} {re im : Nat} (h : Lb w p os n tk la re im) (k : Nat) (v : Value) : (w.setCell ⟨p, k, none⟩ v).heap[p]? = some (.cells ((Lc os n tk la re im).set k v).toArray 64 (0, 0)) := by
  rw [setCell_eq_setRow w p k _ _ (0, 0) _ h.2, setRow_heap w p _ _ _ _ h.2]
  refine congrArg (fun c => some (Obj.cells c 64 (0, 0))) ?_
  simp
theorem Lb.setN {w : World} {p : Nat} {os : List Int} {n : Int} {tk : Bool} {la : Int} {re im : Nat} (h : Lb w p os n tk la re im) (x : Int) : Lb (w.setCell ⟨p, 16, none⟩ (.int .i64 x)) p os x tk la re im := by
  refine ⟨h.1, (h.put _ _).trans ?_⟩
  unfold Lc
  rw [List.set_append_right _ _ (by rw [vi_len, h.1]; omega), vi_len, h.1]
  rfl
theorem Lb.setT {w : World} {p : Nat} {os : List Int} {n : Int} {tk : Bool} {la : Int} {re im : Nat} (h : Lb w p os n tk la re im) (x : Bool) : Lb (w.setCell ⟨p, 17, none⟩ (.bool x)) p os n x la re im := by
  refine ⟨h.1, (h.put _ _).trans ?_⟩
  unfold Lc
  rw [List.set_append_right _ _ (by rw [vi_len, h.1]; omega), vi_len, h.1]
  rfl
theorem Lb.setL {w : World} {p : Nat} {os : List Int} {n : Int} {tk : Bool} {la : Int} {re im : Nat} (h : Lb w p os n tk la re im) (x : Int) : Lb (w.setCell ⟨p, 18, none⟩ (.int .u64 x)) p os n tk x re im := by
  refine ⟨h.1, (h.put _ _).trans ?_⟩
  unfold Lc
  rw [List.set_append_right _ _ (by rw [vi_len, h.1]; omega), vi_len, h.1]
  rfl
theorem Lb.setP {w : World} {p : Nat} {os : List Int} {n : Int} {tk : Bool} {la : Int} {re im : Nat} (h : Lb w p os n tk la re im) (a b : Nat) : Lb (w.setCell ⟨p, 19, none⟩ (.complex .f64 a b)) p os n tk la a b := by
  refine ⟨h.1, (h.put _ _).trans ?_⟩
  unfold Lc
  rw [List.set_append_right _ _ (by rw [vi_len, h.1]; omega), vi_len, h.1]
  rfl
theorem Lb.setO {w : World} {p : Nat} {os : List Int} {n : Int} {tk : Bool} {la : Int} {re im : Nat} (h : Lb w p os n tk la re im) (k : Nat) (hk : k < 16) (x : Int) : Lb (w.setCell ⟨p, k, none⟩ (.int .i64 x)) p (os.set k x) n tk la re im := by
  refine ⟨by rw [List.length_set]; exact h.1, (h.put _ _).trans ?_⟩
  unfold Lc
  rw [List.set_append_left _ _ (by rw [vi_len, h.1]; exact hk)]
  unfold vi
  rw [List.map_set]
theorem Lb.grown {w w' : World} {p : Nat} {r : Option Nat} {os : List Int} {n : Int} {tk : Bool} {la : Int} {re im : Nat} (h : Lb w p os n tk la re im) (hb : w.grownBy w' r) (hq : some p ≠ r) : Lb w' p os n tk la re im := ⟨h.1, (hb.block p h.lt hq).trans h.2⟩
theorem Lb.below {w w' : World} {p B : Nat} {os : List Int} {n : Int} {tk : Bool} {la : Int} {re im : Nat} (h : Lb w p os n tk la re im) (hb : Below B w w') (hq : p < B) : Lb w' p os n tk la re im := ⟨h.1, (hb.block p hq).trans h.2⟩
theorem Lb.ra {w : World} {p : Nat} {os : List Int} {n : Int} {tk : Bool} {la : Int} {re im : Nat} (h : Lb w p os n tk la re im) (m : Nat) : Ra w ⟨p, 0, none⟩ (os.take m) := fun k hk => by
  rw [List.length_take, h.1] at hk
  rw [add_own, Nat.zero_add, h.at _ (by omega), List.getD_eq_getElem?_getD, List.getD_eq_getElem?_getD, List.getElem?_take_of_lt (by omega)]
set_option maxHeartbeats 400000 in
theorem len_any (p : Nat) (os : List Int) (n : Int) (tk : Bool) (la : Int) (re im : Nat) (w : World) (h : Lb w p os n tk la re im) :
    Calls Try.prog 24 #[.pointer (some ⟨p, 0, none⟩)] w fun e w' => e = .returned (.int .i64 n) ∧ w' = w := by
  have h1 := h.n
  clear h
  go_enter Try.func24, Try.ntmps24
  go_wp2
  go_ret
  exact ⟨rfl, rfl⟩
set_option maxHeartbeats 400000 in
theorem phase_any (p : Nat) (os : List Int) (n : Int) (tk : Bool) (la : Int) (re im : Nat) (w : World) (h : Lb w p os n tk la re im) :
    Calls Try.prog 26 #[.pointer (some ⟨p, 0, none⟩)] w fun e w' => e = .returned (.complex .f64 re im) ∧ w' = w := by
  have h1 := h.ph
  clear h
  go_enter Try.func26, Try.ntmps26
  go_wp2
  go_ret
  exact ⟨rfl, rfl⟩
theorem sub_in (a b : Int) (w : World) (ha0 : -9000000000 ≤ a) (ha1 : a ≤ 9000000000) (hb0 : -9000000000 ≤ b) (hb1 : b ≤ 9000000000) :
    Calls Try.prog 42 #[.int .i64 a, .int .i64 b] w fun e w' => e = .returned (.int .i64 (a - b)) ∧ w' = w := by
  have h := sub_any a b w (by omega) (by omega) (by omega) (by omega)
  rw [Fx.cl_in (by omega) (by omega)] at h
  exact h
theorem abs_in (a : Int) (w : World) (ha0 : -90000000000 ≤ a) (ha1 : a ≤ 90000000000) :
    Calls Try.prog 41 #[.int .i64 a] w fun e w' => e = .returned (.int .i64 (a.natAbs : Int)) ∧ w' = w := by
  have h := abs_any a w (by omega) (by omega)
  rw [Fx.cl_in (by omega) (by omega)] at h
  exact h
/-- whether an edge is too far from the others -/
def farB (es : List Int) (o : Int) : Bool := decide (3 ≤ es.length ∧ 8388608 < (o - Pu.mdM es).natAbs)
theorem sub_at (p n : Nat) (u : World) (h2 : n ≤ 16) : (Instr.sliceAt 62 (.pointer (some ⟨p, 0, none⟩)) none (some (.int .i64 (n : Int))) none).run Try.prog u = .ok (.slice (some ⟨p, 0, none⟩) n 16) u := by
  simp [Instr.sliceAt, Instr.sliceBounds, Instr.sliceBound, asIntOf, run_underlying Try.underlying62, h2, add_own, Instr.sureAddr]
theorem median_at (ad : Addr) (xs : List Int) (n cap : Nat) (w : World) (hn : xs.length = n) (hl : 0 < n) (hl' : n ≤ 16) (hr : Ra w ad xs) (hb : ad.block < w.heap.size) :
    Calls Try.prog 12 #[.slice (some ad) n cap] w fun e w' => e = .returned (.tuple #[.int .i64 (Pu.mdM xs), .int .i64 (Pu.mdW xs)]) ∧ Below w.heap.size w w' := by
  subst hn
  exact median_any ad xs cap w hl (by omega) hr hb
set_option maxHeartbeats 1000000 in
theorem isFar_any (p : Nat) (os : List Int) (n : Nat) (tk : Bool) (la : Int) (re im : Nat) (o : Int) (w : World) (h : Lb w p os n tk la re im) (hn : n ≤ 16) (ho : -2147483648 ≤ o) (ho' : o < 2147483648) :
    Calls Try.prog 31 #[.pointer (some ⟨p, 0, none⟩), .int .i64 o] w fun e w' => e = .returned (.bool (farB (os.take n) o)) ∧ Below w.heap.size w w' := by
  have h1 := h.n
  have hlen : (os.take n).length = n := by rw [List.length_take, h.1]; omega
  by_cases h3 : n < 3
  · have h3i : (n : Int) < 3 := by omega
    have e : farB (os.take n) o = false := by unfold farB; rw [decide_eq_false_iff_not, hlen]; omega
    rw [e]
    clear h hlen hn h3
    go_enter Try.func31, Try.ntmps31
    go_wp2
    go_ret
    exact ⟨rfl, Below.refl _ _⟩
  · have h3i : ¬ (n : Int) < 3 := by omega
    have hM := Pu.mdM_bd (os.take n)
    obtain ⟨M, hMe⟩ : ∃ M, M = Pu.mdM (os.take n) := ⟨_, rfl⟩
    obtain ⟨D, hDe⟩ : ∃ D, D = Pu.mdW (os.take n) := ⟨_, rfl⟩
    have e : farB (os.take n) o = decide (8388608 < ((o - M).natAbs : Int)) := by
      unfold farB; rw [← hMe, hlen, decide_eq_decide]; omega
    have hmed : ∀ u, Below w.heap.size w u → Calls Try.prog 12 #[.slice (some ⟨p, 0, none⟩) n 16] u fun e w' => e = .returned (.tuple #[.int .i64 M, .int .i64 D]) ∧ Below u.heap.size u w' := fun u hu => by
      have hL := h.below hu h.lt
      rw [hMe, hDe]
      exact median_at ⟨p, 0, none⟩ (os.take n) n 16 u hlen (by omega) hn (hL.ra n) hL.lt
    rw [← hMe] at hM
    rw [e]
    have hsl := fun u => sub_at p n u hn
    have HM : Hid _ := hmed
    have hcell : ∀ k, (w.drewN k).cell? ⟨p, 16, none⟩ = some (.int .i64 n) := fun k => h1
    clear h hlen hn h3 hmed hMe hDe e
    go_enter Try.func31, Try.ntmps31
    go_wp2
    go_region_with (go_at_call 12; refine (HM.out _ (by repeat' (first | with_reducible exact Below.refl _ _ | with_reducible refine Below.setCell ?_ (by first | (simp; done) | (simp; omega) | omega) _ | with_reducible refine below_drewN ?_ _ | with_reducible refine Below.drew ?_ | with_reducible refine Below.alloc ?_ (by first | (simp; done) | (simp; omega) | omega) _))).mono ?_; rintro e w1 ⟨rfl, hb1⟩)
    all_goals
      have HB : Hid (Below w.heap.size w w1) := (Below.refl _ w).drew.trans hb1
      clear hb1 hcell hsl
      go_wp2_with (first | (go_at_call 42; refine (sub_in _ _ _ (by omega) (by omega) (by omega) (by omega)).mono ?_; rintro e w' ⟨rfl, rfl⟩) | (go_at_call 41; refine (abs_in _ _ (by omega) (by omega)).mono ?_; rintro e w' ⟨rfl, rfl⟩))
      go_ret
      exact ⟨rfl, HB.out⟩
end Go.Proofs.Ytenlkadmniobdaa
