/- A memory of senders: its cells; what is found in it. -/
import Derived.Test.YtmgphfdieekpdaaRO
import Derived.Deep.QuietTactic
import Derived.BigQuiet
import Derived.BigRegion
namespace Go.Proofs.Ytmgphfdieekpdaa
open Go Go.RowKit
theorem below_drewN {B : Nat} {a w : World} (h : Below B a w) (n : Nat) : Below B a (w.drewN n) := ⟨h.os, h.tape, h.output, h.size, h.block⟩
/-- a block, whole -/
def Bk (p : Nat) (v : World) (cs : Array Value) (T : TypeId) : Prop := v.heap[p]? = some (.cells cs T (0, 0))
theorem Bk.cell {p : Nat} {v : World} {cs : Array Value} {T : TypeId} (h : Bk p v cs T) (j : Nat) : v.cell? ⟨p, j, none⟩ = cs[j]? := cell_of_row v p j _ _ _ h
theorem Bk.frozen {p : Nat} {v : World} {cs : Array Value} {T : TypeId} (h : Bk p v cs T) (j : Nat) : v.frozen? ⟨p, j, none⟩ = false := by
  unfold Bk at h; simp [World.frozen?, h]
theorem Bk.lt {p : Nat} {v : World} {cs : Array Value} {T : TypeId} (h : Bk p v cs T) : p < v.heap.size := by
  rcases Nat.lt_or_ge p v.heap.size with hlt | hge
  · exact hlt
  · unfold Bk at h; rw [Array.getElem?_eq_none hge] at h; cases h
theorem Bk.new (w : World) (cs : Array Value) (T : TypeId) : Bk w.heap.size (w.alloc (.cells cs T)) cs T := heap_alloc_new w _
theorem Bk.kept {p : Nat} {v v' : World} {cs : Array Value} {T : TypeId} (h : Bk p v cs T) (hb : v'.heap[p]? = v.heap[p]?) : Bk p v' cs T := by unfold Bk at h ⊢; rw [hb]; exact h
theorem Bk.set {p j : Nat} {v : World} {cs : Array Value} {T : TypeId} (h : Bk p v cs T) (x : Value) : Bk p (v.setCell ⟨p, j, none⟩ x) (cs.setIfInBounds j x) T := heap_setCell_same v p j cs T x h
/-- a sender -/
structure Sn where
  addr : Int
  first : Int
  last : Int
  count : Int
  score : Int
  turn : Int
def snL (s : Sn) : List Value := [.int .u32 s.addr, .int .i64 s.first, .int .i64 s.last, .int .i64 s.count, .int .i64 s.score, .int .i64 s.turn]
theorem snL_len (xs : List Sn) : ∀ r ∈ xs.map snL, r.length = 6 := fun r hr => by
  obtain ⟨x, _, rfl⟩ := List.mem_map.1 hr; rfl
theorem getD_map' {α : Type} (f : α → List Value) (l : List α) (i : Nat) (h : i < l.length) : (l.map f).getD i [] = f l[i] := by
  rw [List.getD_eq_getElem?_getD, List.getElem?_map, List.getElem?_eq_getElem h]; rfl
theorem sn_info : (Try.prog.info? 75).map (·.size) = some 6 := by kernel_rfl
theorem ix_sn {ao : Option Addr} {ad : Addr} (n cap k : Nat) (h : ao = some ad) (hk : (k : Int) < n) (w : World) : Sem.run Try.prog (Instr.indexAt 64 (.slice ao n cap) (.int .i64 (k : Int))) w = .ok (.pointer (some (ad.add (k * 6)))) w := by
  subst h
  have u := Try.underlying64
  have c3 : Try.prog.cellsOf 75 = 6 := by kernel_rfl
  have h0 : (0 : Int) ≤ k := Int.natCast_nonneg k
  go_simp
set_option maxHeartbeats 400000 in
theorem most_any (g : Nat) (cost : Int) (w : World) (hc : w.cell? ⟨g, 0, none⟩ = some (.int .i64 cost)) (c0 : 0 ≤ cost) (c1 : cost ≤ 1024) : Calls Try.prog 50 #[.pointer (some ⟨g, 0, none⟩)] w fun e w' => e = .returned (.int .i64 (8 * cost)) ∧ w' = w := by
  go_enter Try.func50, Try.ntmps50
  go_wp2
  go_ret
  exact ⟨rfl, rfl⟩
/-- what becomes of a packet -/
def jdG (cost mn score gap : Int) (lim kod : Bool) : Int := if lim = false then 0 else if gap < mn then 1 else if score + cost ≤ 8 * cost then 0 else if kod = true then 2 else 1
set_option maxHeartbeats 1000000 in
theorem judge_any (g : Nat) (cost mn score gap flags : Int) (lim kod : Bool) (w : World) (hc : w.cell? ⟨g, 0, none⟩ = some (.int .i64 cost)) (hm : w.cell? ⟨g, 1, none⟩ = some (.int .i64 mn)) (c0 : 0 ≤ cost) (c1 : cost ≤ 1024) (m0 : 0 ≤ mn) (m1 : mn ≤ 1024) (s0 : 0 ≤ score) (s1 : score ≤ 8192)
    (hl : lim = decide (bits BinOp.and IntKind.i64 flags 32 ≠ 0)) (hk : kod = decide (bits BinOp.and IntKind.i64 flags 64 ≠ 0)) :
    Calls Try.prog 49 #[.pointer (some ⟨g, 0, none⟩), .int .i64 score, .int .u64 gap, .int .i64 flags] w fun e w' => e = .returned (.int .i64 (jdG cost mn score gap lim kod)) ∧ ∃ n, w' = w.drewN n := by
  obtain ⟨A, hA⟩ : ∃ A, A = bits BinOp.and IntKind.i64 flags 32 := ⟨_, rfl⟩
  obtain ⟨D, hD⟩ : ∃ D, D = bits BinOp.and IntKind.i64 flags 64 := ⟨_, rfl⟩
  have eA : bits BinOp.and IntKind.i64 flags 32 = A := hA.symm
  have eD : bits BinOp.and IntKind.i64 flags 64 = D := hD.symm
  rw [eA] at hl
  rw [eD] at hk
  obtain ⟨R, hR⟩ : ∃ R, R = jdG cost mn score gap lim kod := ⟨_, rfl⟩
  rw [← hR]
  unfold jdG at hR
  rw [hl, hk] at hR
  have HR : Hid (R = if decide (A ≠ 0) = false then 0 else if gap < mn then 1 else if score + cost ≤ 8 * cost then 0 else if decide (D ≠ 0) = true then 2 else 1) := hR
  clear hR hl hk hA hD
  have HM : Hid (∀ u, u.cell? ⟨g, 0, none⟩ = some (.int .i64 cost) → Calls Try.prog 50 #[.pointer (some ⟨g, 0, none⟩)] u fun e w' => e = .returned (.int .i64 (8 * cost)) ∧ w' = u) := fun u hu => most_any g cost u hu c0 c1
  by_cases h1 : A = 0
  · subst h1
    go_enter Try.func49, Try.ntmps49
    go_wp2
    go_ret
    exact ⟨ret_int' (by rw [HR.out]; rfl), 0, rfl⟩
  · have h1' : (A == 0) = false := by simpa using h1
    by_cases h2 : gap < mn
    · go_enter Try.func49, Try.ntmps49
      go_wp2
      go_ret
      exact ⟨ret_int' (by rw [HR.out, if_neg (by simp [h1]), if_pos h2]), 0, rfl⟩
    · by_cases h3 : score + cost ≤ 8 * cost
      all_goals
        go_enter Try.func49, Try.ntmps49
        go_wp2
        go_quiet ((go_at_call 50; exact Calls.quiet_of_same (most_any g cost _ (by first | assumption | simp_all) c0 c1)))
        go_wp2
        all_goals go_ret
        all_goals
          refine ⟨ret_int' ?_, _, rfl⟩
          rw [HR.out]
          first
          | (rw [if_neg (by simp [h1]), if_neg (by omega), if_pos (by omega)]; done)
          | (rw [if_neg (by simp [h1]), if_neg (by omega), if_neg (by omega)]; split <;> simp_all)
end Go.Proofs.Ytmgphfdieekpdaa
