/- Kisses: Death, IsDeath of both. -/
import Derived.Test.YtmgphfdieekpdabRM
import Derived.Test.YtmgphfdieekpdabGL
import Derived.Deep.RegionWith
import Derived.Deep.RegionHeld3
import Derived.Deep.RegionLaw
namespace Go.Proofs.Ytmgphfdieekpdab
open Go Go.RowKit
/-- a packet's cells -/
structure Pk where
  leap : Int
  ver : Int
  mode : Int
  str : Int
  poll : Int
  prec : Int
  del : Int
  dis : Int
  rid : Int
  t0 : Int
  t1 : Int
  t2 : Int
  t3 : Int
  eo : Option Addr
  en : Nat
  ec : Nat
  key : Int
  nak : Bool
  mo : Option Addr
  mn : Nat
  mc : Nat
def pkC (p : Pk) : List Value := [.int .i64 p.leap, .int .i64 p.ver, .int .i64 p.mode, .int .i64 p.str, .int .i64 p.poll, .int .i64 p.prec, .int .i64 p.del, .int .i64 p.dis, .int .u32 p.rid, .int .u64 p.t0, .int .u64 p.t1, .int .u64 p.t2, .int .u64 p.t3, .slice p.eo p.en p.ec, .int .i64 p.key, .bool p.nak, .slice p.mo p.mn p.mc]
def amI (m : Int) : Int := if m = 3 then 4 else if m = 1 then 2 else m
def pollI (a b : Int) : Int := max 3 (min 10 (max a b))
/-- the answer that tells to be quiet -/
def dtP (q : Pk) (code poll : Int) : Pk := ⟨3, q.ver, amI q.mode, 0, pollI q.poll poll, -20, 0, 0, code, 0, q.t3, q.t3, q.t3, none, 0, 0, 0, false, none, 0, 0⟩
def idB (p : Pk) : Bool := decide (p.str = 0 ∧ p.leap = 3 ∧ p.rid ≠ 0)
set_option maxHeartbeats 400000 in
theorem answerMode_any (m : Int) (w : World) : Calls Try.prog 16 #[.int .i64 m] w fun e w' => e = .returned (.int .i64 (amI m)) ∧ w' = w := by
  unfold amI
  by_cases h3 : m = 3
  · subst h3
    go_enter Try.func16, Try.ntmps16
    go_wp2
    go_ret
    exact ⟨rfl, rfl⟩
  · have h3' : (m == 3) = false := by simpa using h3
    by_cases h1 : m = 1
    · subst h1
      go_enter Try.func16, Try.ntmps16
      go_wp2
      go_ret
      exact ⟨rfl, rfl⟩
    · have h1' : (m == 1) = false := by simpa using h1
      rw [if_neg h3, if_neg h1]
      go_enter Try.func16, Try.ntmps16
      go_wp2
      go_ret
      exact ⟨rfl, rfl⟩
theorem pk_info : (Try.prog.info? 29).map (·.size) = some 17 := by kernel_rfl
set_option maxHeartbeats 1000000 in
theorem isDeath_any (p : Pk) (w : World) : Calls Try.prog 6 #[.agg (pkC p).toArray] w fun e w' => e = .returned (.tuple #[.int .u32 (if idB p = true then p.rid else 0), .bool (idB p)]) ∧ Below w.heap.size w w' := by
  obtain ⟨a0, a1, a2, a3, a4, a5, a6, a7, a8, a9, a10, a11, a12, eo, en, ec, key, nak, mo, mn, mc⟩ := p
  unfold pkC idB
  simp only
  by_cases h1 : a3 = 0
  · subst h1
    by_cases h2 : a0 = 3
    · subst h2
      by_cases h3 : a8 = 0
      · subst h3
        go_enter Try.func6, Try.ntmps6
        go_wp2
        go_ret2
        exact ⟨rfl, (by repeat' (first | with_reducible exact Below.refl _ _ | with_reducible refine Below.setCell ?_ (by first | (simp; done) | (simp; omega) | omega) _ | with_reducible refine below_drewN ?_ _ | with_reducible refine Below.drew ?_ | with_reducible refine Below.alloc ?_ (by first | (simp; done) | (simp; omega) | omega) _))⟩
      · have h3' : (a8 == 0) = false := by simpa using h3
        have e : decide ((0 : Int) = 0 ∧ (3 : Int) = 3 ∧ a8 ≠ 0) = true := by simp [h3]
        rw [e, if_pos rfl]
        go_enter Try.func6, Try.ntmps6
        go_wp2
        go_ret2
        exact ⟨rfl, (by repeat' (first | with_reducible exact Below.refl _ _ | with_reducible refine Below.setCell ?_ (by first | (simp; done) | (simp; omega) | omega) _ | with_reducible refine below_drewN ?_ _ | with_reducible refine Below.drew ?_ | with_reducible refine Below.alloc ?_ (by first | (simp; done) | (simp; omega) | omega) _))⟩
    · have h2' : (a0 != 3) = true := by simpa using h2
      have e : decide ((0 : Int) = 0 ∧ a0 = 3 ∧ a8 ≠ 0) = false := by simp [h2]
      rw [e, if_neg (by decide)]
      go_enter Try.func6, Try.ntmps6
      go_wp2
      go_ret2
      exact ⟨rfl, (by repeat' (first | with_reducible exact Below.refl _ _ | with_reducible refine Below.setCell ?_ (by first | (simp; done) | (simp; omega) | omega) _ | with_reducible refine below_drewN ?_ _ | with_reducible refine Below.drew ?_ | with_reducible refine Below.alloc ?_ (by first | (simp; done) | (simp; omega) | omega) _))⟩
  · have h1' : (a3 != 0) = true := by simpa using h1
    have e : decide (a3 = 0 ∧ a0 = 3 ∧ a8 ≠ 0) = false := by simp [h1]
    rw [e, if_neg (by decide)]
    go_enter Try.func6, Try.ntmps6
    go_wp2
    go_ret2
    exact ⟨rfl, (by repeat' (first | with_reducible exact Below.refl _ _ | with_reducible refine Below.setCell ?_ (by first | (simp; done) | (simp; omega) | omega) _ | with_reducible refine below_drewN ?_ _ | with_reducible refine Below.drew ?_ | with_reducible refine Below.alloc ?_ (by first | (simp; done) | (simp; omega) | omega) _))⟩
set_option maxHeartbeats 1000000 in
theorem risDeath_any (p : Pk) (w : World) : Calls Try.prog 7 #[.agg (pkC p).toArray] w fun e w' => e = .returned (.tuple #[.int .u32 (if idB p = true then p.rid else 0), .bool (idB p)]) ∧ Below w.heap.size w w' := by
  obtain ⟨a0, a1, a2, a3, a4, a5, a6, a7, a8, a9, a10, a11, a12, eo, en, ec, key, nak, mo, mn, mc⟩ := p
  unfold pkC idB
  simp only
  by_cases h1 : a3 = 0
  · subst h1
    by_cases h2 : a0 = 3
    · subst h2
      by_cases h3 : a8 = 0
      · subst h3
        go_enter Try.func7, Try.ntmps7
        go_wp2
        go_ret2
        exact ⟨rfl, (by repeat' (first | with_reducible exact Below.refl _ _ | with_reducible refine Below.setCell ?_ (by first | (simp; done) | (simp; omega) | omega) _ | with_reducible refine below_drewN ?_ _ | with_reducible refine Below.drew ?_ | with_reducible refine Below.alloc ?_ (by first | (simp; done) | (simp; omega) | omega) _))⟩
      · have h3' : (a8 != 0) = true := by simpa using h3
        have e : decide ((0 : Int) = 0 ∧ (3 : Int) = 3 ∧ a8 ≠ 0) = true := by simp [h3]
        rw [e, if_pos rfl]
        go_enter Try.func7, Try.ntmps7
        go_wp2
        go_ret2
        exact ⟨rfl, (by repeat' (first | with_reducible exact Below.refl _ _ | with_reducible refine Below.setCell ?_ (by first | (simp; done) | (simp; omega) | omega) _ | with_reducible refine below_drewN ?_ _ | with_reducible refine Below.drew ?_ | with_reducible refine Below.alloc ?_ (by first | (simp; done) | (simp; omega) | omega) _))⟩
    · have h2' : (a0 == 3) = false := by simpa using h2
      have e : decide ((0 : Int) = 0 ∧ a0 = 3 ∧ a8 ≠ 0) = false := by simp [h2]
      rw [e, if_neg (by decide)]
      go_enter Try.func7, Try.ntmps7
      go_wp2
      go_ret2
      exact ⟨rfl, (by repeat' (first | with_reducible exact Below.refl _ _ | with_reducible refine Below.setCell ?_ (by first | (simp; done) | (simp; omega) | omega) _ | with_reducible refine below_drewN ?_ _ | with_reducible refine Below.drew ?_ | with_reducible refine Below.alloc ?_ (by first | (simp; done) | (simp; omega) | omega) _))⟩
  · have h1' : (a3 == 0) = false := by simpa using h1
    have e : decide (a3 = 0 ∧ a0 = 3 ∧ a8 ≠ 0) = false := by simp [h1]
    rw [e, if_neg (by decide)]
    go_enter Try.func7, Try.ntmps7
    go_wp2
    go_ret2
    exact ⟨rfl, (by repeat' (first | with_reducible exact Below.refl _ _ | with_reducible refine Below.setCell ?_ (by first | (simp; done) | (simp; omega) | omega) _ | with_reducible refine below_drewN ?_ _ | with_reducible refine Below.drew ?_ | with_reducible refine Below.alloc ?_ (by first | (simp; done) | (simp; omega) | omega) _))⟩
theorem alloc_at (w : World) (o : Obj) : (w.alloc o).heap[w.heap.size]? = some o := by
  show (w.heap.push o)[w.heap.size]? = some o
  simp
theorem size_alloc1 (w : World) (o : Obj) : (w.alloc o).heap.size = w.heap.size + 1 := by simp
theorem below_row {B g : Nat} {w0 w : World} (hb : Below B w0 w) (hBg : B ≤ g) (cs : Array Value) : Below B w0 (w.setRow g cs) :=
  hb.trans ⟨rfl, rfl, rfl, by simp [World.setRow], fun k hk => setRow_other w g k cs (by omega)⟩
theorem below_dr {B : Nat} {a w : World} (h : Below B a w) (n : Nat) : Below B a (w.drewN n) := ⟨h.os, h.tape, h.output, h.size, h.block⟩
theorem pollF (a b : Int) : (if 10 < if (if a < b then b else a) < 3 then 3 else if a < b then b else a then 10 else if (if a < b then b else a) < 3 then 3 else if a < b then b else a) = min (max (max a b) 3) 10 := by
  split <;> split <;> omega
theorem wpOp_st {ops : Array Oper} {Q : Exit → Act → World → Prop} {i : Nat} {K : Act → World → Prop} {a : Act} {w : World} {g : Nat} {T : TypeId} (o : Oper) (ho : ops[i]? = some o) (hg : o.guard = none) (x y : Operand) (hop : o.op = .store T x y) (cells : Array Value)
    (hx : a.eval x = .pointer (some ⟨g, 0, none⟩)) (hy : a.eval y = .agg cells) (old : Array Value) (hB : w.heap[g]? = some (.cells old T (0, 0))) (hs : (Try.prog.info? T).map (·.size) = some cells.size) (hold : old.size = cells.size) (h1 : cells.all (·.oneCell') = true)
    (h : K (a.put o.dst undef) (w.setRow g cells)) : wpOp Try.prog ops Q i K a w := by
  unfold wpOp
  rw [ho]
  have hw : Region.wanted o (yielded ops a.tmps) = true := by simp [Region.wanted, hg]
  simp only [hw, if_true]
  exact .inl (wp_store_row _ x y hop g cells hx hy _ old hB hs hold h1 h)
set_option maxHeartbeats 1000000 in
theorem death_any (p : Pk) (code poll : Int) (w : World) : Calls Try.prog 5 #[.agg (pkC p).toArray, .int .u32 code, .int .i64 poll] w fun e w' => e = .returned (.agg (pkC (dtP p code poll)).toArray) ∧ Below w.heap.size w w' := by
  obtain ⟨a0, a1, a2, a3, a4, a5, a6, a7, a8, a9, a10, a11, a12, eo, en, ec, key, nak, mo, mn, mc⟩ := p
  unfold pkC dtP
  simp only
  obtain ⟨M, hM⟩ : ∃ M, M = amI a2 := ⟨_, rfl⟩
  have HAM : Hid (∀ u, Calls Try.prog 16 #[.int .i64 a2] u fun e w' => e = .returned (.int .i64 M) ∧ w' = u) := fun u => by rw [hM]; exact answerMode_any a2 u
  rw [← hM]
  clear hM
  obtain ⟨P, hP⟩ : ∃ P, P = pollI a4 poll := ⟨_, rfl⟩
  have hP2 : min (max (max a4 poll) 3) 10 = P := by rw [hP]; unfold pollI; omega
  rw [← hP]
  clear hP
  go_enter Try.func5, Try.ntmps5
  go_wp2
  obtain ⟨W, hW⟩ : ∃ W, W = (w.alloc (.cells #[.int .i64 a0, .int .i64 a1, .int .i64 a2, .int .i64 a3, .int .i64 a4, .int .i64 a5, .int .i64 a6, .int .i64 a7, .int .u32 a8, .int .u64 a9, .int .u64 a10, .int .u64 a11, .int .u64 a12, .slice eo en ec, .int .i64 key, .bool nak, .slice mo mn mc] 29)).alloc (.cells #[.int .i64 0, .int .i64 0, .int .i64 0, .int .i64 0, .int .i64 0, .int .i64 0, .int .i64 0, .int .i64 0, .int .u32 0, .int .u64 0, .int .u64 0, .int .u64 0, .int .u64 0, .slice none 0 0, .int .i64 0, .bool false, .slice none 0 0] 29) := ⟨_, rfl⟩
  rw [← hW]
  have d1 : W.cell? ⟨w.heap.size, 1, none⟩ = some (.int .i64 a1) := by rw [hW]; simp
  have d2 : W.cell? ⟨w.heap.size, 2, none⟩ = some (.int .i64 a2) := by rw [hW]; simp
  have d4 : W.cell? ⟨w.heap.size, 4, none⟩ = some (.int .i64 a4) := by rw [hW]; simp
  have d12 : W.cell? ⟨w.heap.size, 12, none⟩ = some (.int .u64 a12) := by rw [hW]; simp
  have HZ : Hid (W.heap[w.heap.size + 1]? = some (.cells #[.int .i64 0, .int .i64 0, .int .i64 0, .int .i64 0, .int .i64 0, .int .i64 0, .int .i64 0, .int .i64 0, .int .u32 0, .int .u64 0, .int .u64 0, .int .u64 0, .int .u64 0, .slice none 0 0, .int .i64 0, .bool false, .slice none 0 0] 29 (0, 0))) := by rw [hW]; have := alloc_at (w.alloc (.cells #[.int .i64 a0, .int .i64 a1, .int .i64 a2, .int .i64 a3, .int .i64 a4, .int .i64 a5, .int .i64 a6, .int .i64 a7, .int .u32 a8, .int .u64 a9, .int .u64 a10, .int .u64 a11, .int .u64 a12, .slice eo en ec, .int .i64 key, .bool nak, .slice mo mn mc] 29)) (.cells #[.int .i64 0, .int .i64 0, .int .i64 0, .int .i64 0, .int .i64 0, .int .i64 0, .int .i64 0, .int .i64 0, .int .u32 0, .int .u64 0, .int .u64 0, .int .u64 0, .int .u64 0, .slice none 0 0, .int .i64 0, .bool false, .slice none 0 0] 29); rw [size_alloc1] at this; exact this
  have HB : Hid (Below w.heap.size w W) := by rw [hW]; exact ((Below.refl _ _).alloc (Nat.le_refl _) _).alloc (by simp) _
  clear hW
  refine wp_region_last (by kernel_rfl) (by kernel_rfl) (by rfl) (by kernel_rfl) ?_
  simp only [idleLast, idle]
  repeat (quiet_step ((go_at_call 16; exact Calls.quiet_of_same (HAM.out _))))
  refine wpQuiet_nil ?_
  intro _ hw'
  obtain ⟨nq, hw''⟩ := hw'
  subst hw''
  rw [pollF]
  rw [hP2]
  refine wpOp_st (g := w.heap.size + 1) (T := 29) _ (by rfl) rfl _ _ rfl #[.int .i64 3, .int .i64 a1, .int .i64 M, .int .i64 0, .int .i64 P, .int .i64 (-20), .int .i64 0, .int .i64 0, .int .u32 code, .int .u64 0, .int .u64 a12, .int .u64 a12, .int .u64 a12, .slice none 0 0, .int .i64 0, .bool false, .slice none 0 0] (by rfl) (by rfl) _ HZ.out (by kernel_rfl) (by rfl) (by kernel_rfl) ?_
  have hB2 : Below w.heap.size w ((W.drewN nq).setRow (w.heap.size + 1) #[.int .i64 3, .int .i64 a1, .int .i64 M, .int .i64 0, .int .i64 P, .int .i64 (-20), .int .i64 0, .int .i64 0, .int .u32 code, .int .u64 0, .int .u64 a12, .int .u64 a12, .int .u64 a12, .slice none 0 0, .int .i64 0, .bool false, .slice none 0 0]) := below_row (below_dr HB.out nq) (Nat.le_succ _) _
  have hR2 : ((W.drewN nq).setRow (w.heap.size + 1) #[.int .i64 3, .int .i64 a1, .int .i64 M, .int .i64 0, .int .i64 P, .int .i64 (-20), .int .i64 0, .int .i64 0, .int .u32 code, .int .u64 0, .int .u64 a12, .int .u64 a12, .int .u64 a12, .slice none 0 0, .int .i64 0, .bool false, .slice none 0 0]).heap[w.heap.size + 1]? = some (.cells #[.int .i64 3, .int .i64 a1, .int .i64 M, .int .i64 0, .int .i64 P, .int .i64 (-20), .int .i64 0, .int .i64 0, .int .u32 code, .int .u64 0, .int .u64 a12, .int .u64 a12, .int .u64 a12, .slice none 0 0, .int .i64 0, .bool false, .slice none 0 0] 29 (0, 0)) := setRow_heap (W.drewN nq) _ _ _ _ _ HZ.out
  generalize (W.drewN nq).setRow (w.heap.size + 1) #[.int .i64 3, .int .i64 a1, .int .i64 M, .int .i64 0, .int .i64 P, .int .i64 (-20), .int .i64 0, .int .i64 0, .int .u32 code, .int .u64 0, .int .u64 a12, .int .u64 a12, .int .u64 a12, .slice none 0 0, .int .i64 0, .bool false, .slice none 0 0] = W2 at *
  repeat (first | go_values | go_skip | go_guarded | go_step | go_upon)
  exact bodyPost_ret (v := .agg #[.int .i64 3, .int .i64 a1, .int .i64 M, .int .i64 0, .int .i64 P, .int .i64 (-20), .int .i64 0, .int .i64 0, .int .u32 code, .int .u64 0, .int .u64 a12, .int .u64 a12, .int .u64 a12, .slice none 0 0, .int .i64 0, .bool false, .slice none 0 0]) (results_cell_row Try.results5 _ _ (w.heap.size + 1) _ _ (0, 0) _ (by rfl) hR2 Try.underlying29 rfl (by kernel_rfl)) rfl ⟨rfl, hB2⟩
end Go.Proofs.Ytmgphfdieekpdab
