/- What keep of a line does: the last sixteen stay. -/
import Derived.Test.YtenlkadmniobdaaPE
namespace Go.Proofs.Ytenlkadmniobdaa
open Go.RowKit
/-- the last sixteen -/
def kp (es : List Int) (o : Int) : List Int := (es ++ [o]).drop ((es ++ [o]).length - 16)
theorem kp_few (es : List Int) (o : Int) (h : es.length < 16) : kp es o = es ++ [o] := by unfold kp; rw [show (es ++ [o]).length - 16 = 0 by simp; omega, List.drop_zero]
theorem kp_full (es : List Int) (o : Int) (h : es.length = 16) : kp es o = es.drop 1 ++ [o] := by unfold kp; rw [show (es ++ [o]).length - 16 = 1 by simp; omega, List.drop_append_of_le_length (by omega)]
theorem kp_len (es : List Int) (o : Int) (h : es.length ≤ 16) : (kp es o).length = min 16 (es.length + 1) := by unfold kp; simp; omega
theorem grownBy_set (w : World) (a : Addr) (v : Value) : w.grownBy (w.setCell a v) (some a.block) := ⟨rfl, rfl, rfl, by simp, fun k hk hne => Below.heap_setCell w a v k (fun e => hne (by rw [e]))⟩
theorem grownBy_trans {a b c : World} {r : Option Nat} (h : a.grownBy b r) (k : b.grownBy c r) : a.grownBy c r := ⟨k.os.trans h.os, k.tape.trans h.tape, k.output.trans h.output, Nat.le_trans h.size k.size, fun i hi hr => (k.block i (Nat.lt_of_lt_of_le hi h.size) hr).trans (h.block i hi hr)⟩
theorem grownBy_drewN (w : World) (n : Nat) (r : Option Nat) : w.grownBy (w.drewN n) r := ⟨rfl, rfl, rfl, Nat.le_refl _, fun _ _ _ => rfl⟩
theorem grownBy_drew (w : World) (r : Option Nat) : w.grownBy w.drew r := ⟨rfl, rfl, rfl, Nat.le_refl _, fun _ _ _ => rfl⟩
theorem grownBy_below {w w' : World} (h : Below w.heap.size w w') (r : Option Nat) : w.grownBy w' r := ⟨h.os, h.tape, h.output, h.size, fun k hk _ => h.block k hk⟩
set_option maxHeartbeats 1000000 in
theorem keep_few (p : Nat) (os : List Int) (n : Nat) (tk : Bool) (la : Int) (re im : Nat) (o : Int) (w : World) (h : Lb w p os n tk la re im) (hn : n < 16) :
    Calls Try.prog 32 #[.pointer (some ⟨p, 0, none⟩), .int .i64 o] w fun e w' => e = .returned (.tuple #[]) ∧ Lb w' p (os.set n o) ((n : Int) + 1) tk la re im ∧ w.grownBy w' (some p) := by
  have h1 := h.n
  have hc := h.at n hn
  have hf := h.frozen
  have hni : (n : Int) < 16 := by omega
  have hne : ¬ ((n : Int) = 16) := by omega
  go_enter Try.func32, Try.ntmps32
  go_wp2
  go_region
  have hL : Lb (w.setCell ⟨p, n, none⟩ (.int .i64 o)).drew p (os.set n o) n tk la re im := h.setO n hn o
  have hg : w.grownBy (w.setCell ⟨p, n, none⟩ (.int .i64 o)).drew (some p) := grownBy_trans (grownBy_set w ⟨p, n, none⟩ (.int .i64 o)) (grownBy_drew _ _)
  generalize (w.setCell ⟨p, n, none⟩ (.int .i64 o)).drew = w2 at *
  have HL : Hid (Lb w2 p (os.set n o) n tk la re im ∧ w.grownBy w2 (some p)) := ⟨hL, hg⟩
  have h2 := hL.n
  have hf2 := hL.frozen
  clear h hc hf hL hg h1
  go_wp2
  go_end0
  exact ⟨rfl, HL.out.1.setN _, grownBy_trans HL.out.2 (grownBy_set w2 ⟨p, 16, none⟩ _)⟩
theorem copy_shift (p : Nat) (os : List Int) (n : Int) (tk : Bool) (la : Int) (re im : Nat) (w : World) (h : Lb w p os n tk la re im) :
    ∃ w2, (Builtin.copy_ #[28, 28] 3 #[.slice (some ⟨p, 0, none⟩) 16 16, .slice (some ⟨p, 1, none⟩) 15 15]).run Try.prog w = .ok (.int .i64 15) w2 ∧ Lb w2 p (os.drop 1 ++ [os.getD 15 0]) n tk la re im ∧ w.grownBy w2 (some p) := by
  have hd : (os.drop 1).length = 15 := by rw [List.length_drop, h.1]
  have hrun := run_copy_row (P := Try.prog) w 28 28 3 25 p 0 16 16 ⟨p, 1, none⟩ 15 15 _ 64 (vi (os.drop 1)) Try.underlying28 info25 h.2
    (by rw [vi_len, hd]; rfl)
    (by
      intro j v hv
      by_cases hj : j < (os.drop 1).length
      · rw [vi_get _ _ hj] at hv
        injection hv with hv
        rw [add_own, h.at _ (by omega), ← hv, List.getD_eq_getElem?_getD, List.getD_eq_getElem?_getD, List.getElem?_drop]
      · rw [List.getElem?_eq_none (by rw [vi_len]; omega)] at hv; cases hv)
    (by rw [vi_len, hd]; simp [Lc, vi_len, h.1]) (by intro v hv; unfold vi at hv; obtain ⟨b, _, rfl⟩ := List.mem_map.1 hv; rfl)
  rw [vi_len, hd] at hrun
  refine ⟨_, hrun, ⟨by rw [List.length_append, hd]; rfl, ?_⟩, ⟨rfl, rfl, rfl, by simp [World.setRow], fun k hk hne => setRow_other w p k _ (fun e => hne (by rw [e]))⟩⟩
  rw [setRow_heap _ _ _ _ _ _ h.2]
  refine congrArg (fun c => some (Obj.cells c 64 (0, 0))) ?_
  refine congrArg List.toArray ?_
  rw [List.take_zero, List.nil_append, Nat.zero_add]
  unfold Lc
  rw [List.drop_append_of_le_length (by rw [vi_len, h.1]; omega)]
  have e : (vi os).drop 15 = [.int .i64 (os.getD 15 0)] := by
    apply List.ext_getElem?
    intro j
    rw [List.getElem?_drop]
    cases j with
    | zero => exact vi_get os 15 (by rw [h.1]; omega)
    | succ j => rw [List.getElem?_eq_none (by rw [vi_len, h.1]; omega)]; rfl
  rw [e]
  unfold vi
  simp
theorem sub_all (p : Nat) (u : World) : (Instr.sliceAt 62 (.pointer (some ⟨p, 0, none⟩)) none none none).run Try.prog u = .ok (.slice (some ⟨p, 0, none⟩) 16 16) u := by
  simp [Instr.sliceAt, Instr.sliceBounds, run_underlying Try.underlying62, add_own, Instr.sureAddr]
theorem sub_one (p : Nat) (u : World) : (Instr.sliceAt 62 (.pointer (some ⟨p, 0, none⟩)) (some (.int .i64 1)) none none).run Try.prog u = .ok (.slice (some ⟨p, 1, none⟩) 15 15) u := by
  simp [Instr.sliceAt, Instr.sliceBounds, Instr.sliceBound, asIntOf, run_underlying Try.underlying62, add_own, Instr.sureAddr]
set_option maxHeartbeats 1000000 in
theorem keep_full (p : Nat) (os : List Int) (tk : Bool) (la : Int) (re im : Nat) (o : Int) (w : World) (h : Lb w p os 16 tk la re im) :
    Calls Try.prog 32 #[.pointer (some ⟨p, 0, none⟩), .int .i64 o] w fun e w' => e = .returned (.tuple #[]) ∧ Lb w' p (os.drop 1 ++ [o]) 16 tk la re im ∧ w.grownBy w' (some p) := by
  have h1 := h.n
  obtain ⟨w2, hcp, hL2, hg2⟩ := copy_shift p os 16 tk la re im w.drew h
  have hg2 : w.grownBy w2 (some p) := grownBy_trans (grownBy_drew _ _) hg2
  have hs0 := fun u => sub_all p u
  have hs1 := fun u => sub_one p u
  clear h
  go_enter Try.func32, Try.ntmps32
  go_wp2
  go_region
  have h2 := hL2.n
  have hf2 := hL2.frozen
  have HL2 : Hid (Lb w2 p (os.drop 1 ++ [os.getD 15 0]) 16 tk la re im ∧ w.grownBy w2 (some p)) := ⟨hL2, hg2⟩
  clear hcp h1 hL2 hg2 hs0 hs1
  go_wp2
  have hL3 : Lb (w2.setCell ⟨p, 16, none⟩ (.int .i64 15)) p (os.drop 1 ++ [os.getD 15 0]) 15 tk la re im := HL2.out.1.setN 15
  have hg3 : w.grownBy (w2.setCell ⟨p, 16, none⟩ (.int .i64 15)) (some p) := grownBy_trans HL2.out.2 (grownBy_set w2 ⟨p, 16, none⟩ _)
  generalize w2.setCell ⟨p, 16, none⟩ (.int .i64 15) = w3 at *
  have h3 := hL3.n
  have hc3 := hL3.at 15 (by omega)
  have hf3 := hL3.frozen
  go_region
  have hL4 : Lb (w3.setCell ⟨p, 15, none⟩ (.int .i64 o)).drew p ((os.drop 1 ++ [os.getD 15 0]).set 15 o) 15 tk la re im := hL3.setO 15 (by omega) o
  have hg4 : w.grownBy (w3.setCell ⟨p, 15, none⟩ (.int .i64 o)).drew (some p) := grownBy_trans hg3 (grownBy_trans (grownBy_set w3 ⟨p, 15, none⟩ (.int .i64 o)) (grownBy_drew _ _))
  generalize (w3.setCell ⟨p, 15, none⟩ (.int .i64 o)).drew = w4 at *
  have h4 := hL4.n
  have hf4 := hL4.frozen
  have e : (os.drop 1 ++ [os.getD 15 0]).set 15 o = os.drop 1 ++ [o] := by
    have hd : (os.drop 1).length = 15 := by have := HL2.out.1.1; rw [List.length_append] at this; simpa using this
    rw [List.set_append_right _ _ (by omega), hd]
    rfl
  rw [e] at hL4
  have HL4 : Hid (Lb w4 p (os.drop 1 ++ [o]) 15 tk la re im ∧ w.grownBy w4 (some p)) := ⟨hL4, hg4⟩
  clear hL3 hg3 h3 hc3 hf3 h2 hf2 hL4 hg4 e
  go_wp2
  go_end0
  exact ⟨rfl, HL4.out.1.setN _, grownBy_trans HL4.out.2 (grownBy_set w4 ⟨p, 16, none⟩ _)⟩
/-- a line that has these edges -/
def Ln (w : World) (p : Nat) (es : List Int) (tk : Bool) (la : Int) (re im : Nat) : Prop := es.length ≤ 16 ∧ ∃ os, os.take es.length = es ∧ Lb w p os es.length tk la re im
theorem Ln.lt {w : World} {p : Nat} {es : List Int} {tk : Bool} {la : Int} {re im : Nat} (h : Ln w p es tk la re im) : p < w.heap.size := by obtain ⟨_, os, _, h⟩ := h; exact h.lt
theorem Ln.grown {w w' : World} {p : Nat} {r : Option Nat} {es : List Int} {tk : Bool} {la : Int} {re im : Nat} (h : Ln w p es tk la re im) (hb : w.grownBy w' r) (hq : some p ≠ r) : Ln w' p es tk la re im := by
  obtain ⟨h1, os, h2, h3⟩ := h
  exact ⟨h1, os, h2, h3.grown hb hq⟩
theorem Ln.below {w w' : World} {p B : Nat} {es : List Int} {tk : Bool} {la : Int} {re im : Nat} (h : Ln w p es tk la re im) (hb : Below B w w') (hq : p < B) : Ln w' p es tk la re im := by
  obtain ⟨h1, os, h2, h3⟩ := h
  exact ⟨h1, os, h2, h3.below hb hq⟩
theorem keep_any (p : Nat) (es : List Int) (tk : Bool) (la : Int) (re im : Nat) (o : Int) (w : World) (h : Ln w p es tk la re im) :
    Calls Try.prog 32 #[.pointer (some ⟨p, 0, none⟩), .int .i64 o] w fun e w' => e = .returned (.tuple #[]) ∧ Ln w' p (kp es o) tk la re im ∧ w.grownBy w' (some p) := by
  obtain ⟨h1, os, h2, h3⟩ := h
  have hl := kp_len es o h1
  rcases Nat.lt_or_ge es.length 16 with hn | hn
  · refine (keep_few p os es.length tk la re im o w h3 hn).mono ?_
    rintro e w' ⟨rfl, hL, hg⟩
    refine ⟨rfl, ⟨by omega, os.set es.length o, ?_, ?_⟩, hg⟩
    · rw [kp_few es o hn, List.length_append, List.length_singleton, List.take_succ_eq_append_getElem (by rw [List.length_set, h3.1]; exact hn), List.take_set_of_le (by omega), h2]
      simp
    · rw [kp_few es o hn, List.length_append, List.length_singleton, Int.natCast_add]
      exact hL
  · have hn : es.length = 16 := by omega
    have e : es = os := by rw [← h2, hn, List.take_of_length_le (by rw [h3.1]; omega)]
    subst e
    rw [hn] at h3
    refine (keep_full p es tk la re im o w h3).mono ?_
    rintro e w' ⟨rfl, hL, hg⟩
    refine ⟨rfl, ⟨by omega, es.drop 1 ++ [o], ?_, ?_⟩, hg⟩
    · rw [kp_full es o hn, List.take_length]
    · rw [hl, hn]; exact hL
end Go.Proofs.Ytenlkadmniobdaa
