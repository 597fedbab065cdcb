/- The small functions of the program. -/
import Derived.Test.YtlggademcmkihaaHP
namespace Go.Proofs.Ytlggademcmkihaa
open Go Go.RowKit
theorem Pm.kind {w : World} {p : Nat} {s : Ps} (h : Pm w p s) : w.cell? ⟨p, 0, none⟩ = some (.int .i64 s.kind) := Bk.cell h 0
theorem Pm.key {w : World} {p : Nat} {s : Ps} (h : Pm w p s) : w.cell? ⟨p, 1, none⟩ = some (.int .i64 s.key) := Bk.cell h 1
theorem Pm.own {w : World} {p : Nat} {s : Ps} (h : Pm w p s) : w.cell? ⟨p, 2, none⟩ = some (.int .u32 s.own) := Bk.cell h 2
theorem Pm.taken {w : World} {p : Nat} {s : Ps} (h : Pm w p s) : w.cell? ⟨p, 3, none⟩ = some (.bool s.taken) := Bk.cell h 3
theorem Pm.last {w : World} {p : Nat} {s : Ps} (h : Pm w p s) : w.cell? ⟨p, 4, none⟩ = some (.int .u64 s.last) := Bk.cell h 4
theorem Pm.req {w : World} {p : Nat} {s : Ps} (h : Pm w p s) : w.cell? ⟨p, 5, none⟩ = some (.int .u64 s.req) := Bk.cell h 5
theorem Pm.heard {w : World} {p : Nat} {s : Ps} (h : Pm w p s) : w.cell? ⟨p, 6, none⟩ = some (.bool s.heard) := Bk.cell h 6
theorem Pm.ex {w : World} {p : Nat} {s : Ps} (h : Pm w p s) : w.cell? ⟨p, 7, none⟩ = some (.int .u64 s.ex) := Bk.cell h 7
theorem Pm.ea {w : World} {p : Nat} {s : Ps} (h : Pm w p s) : w.cell? ⟨p, 8, none⟩ = some (.int .u64 s.ea) := Bk.cell h 8
theorem Pm.told {w : World} {p : Nat} {s : Ps} (h : Pm w p s) : ∀ j u, (tdL s.t)[j]? = some u → w.cell? ((⟨p, 9, none⟩ : Addr).add j) = some u := fun j u hu => by
  have e : (⟨p, 9, none⟩ : Addr).add j = ⟨p, 9 + j, none⟩ := by unfold Addr.add; split <;> simp_all
  rw [e, Bk.cell h]
  rw [← hu]
  have : (psL s).toArray[9 + j]? = (psL s)[9 + j]? := by simp
  rw [this, show psL s = [.int .i64 s.kind, .int .i64 s.key, .int .u32 s.own, .bool s.taken, .int .u64 s.last, .int .u64 s.req, .bool s.heard, .int .u64 s.ex, .int .u64 s.ea] ++ tdL s.t from rfl, List.getElem?_append_right (by simp)]
  simp
/-- a packet in a block of its own -/
def Kb (w : World) (b : Nat) (q : Pk) : Prop := Bk b w (pkC q).toArray 44
theorem Kb.lt {w : World} {p : Nat} {s : Pk} (h : Kb w p s) : p < w.heap.size := Bk.lt h
theorem Kb.kept {w w' : World} {p : Nat} {s : Pk} (h : Kb w p s) (hb : w'.heap[p]? = w.heap[p]?) : Kb w' p s := Bk.kept h hb
theorem Kb.frozen {w : World} {p : Nat} {s : Pk} (h : Kb w p s) (j : Nat) : w.frozen? ⟨p, j, none⟩ = false := Bk.frozen h j
theorem Kb.new (w : World) (q : Pk) : Kb (w.alloc (.cells (pkC q).toArray 44)) w.heap.size q := Bk.new _ _ _
theorem Kb.leap {w : World} {b : Nat} {q : Pk} (h : Kb w b q) : w.cell? ⟨b, 0, none⟩ = some (.int .i64 q.leap) := Bk.cell h 0
theorem Kb.mode {w : World} {b : Nat} {q : Pk} (h : Kb w b q) : w.cell? ⟨b, 2, none⟩ = some (.int .i64 q.mode) := Bk.cell h 2
theorem Kb.str {w : World} {b : Nat} {q : Pk} (h : Kb w b q) : w.cell? ⟨b, 3, none⟩ = some (.int .i64 q.str) := Bk.cell h 3
theorem Kb.poll {w : World} {b : Nat} {q : Pk} (h : Kb w b q) : w.cell? ⟨b, 4, none⟩ = some (.int .i64 q.poll) := Bk.cell h 4
theorem Kb.prec {w : World} {b : Nat} {q : Pk} (h : Kb w b q) : w.cell? ⟨b, 5, none⟩ = some (.int .i64 q.prec) := Bk.cell h 5
theorem Kb.del {w : World} {b : Nat} {q : Pk} (h : Kb w b q) : w.cell? ⟨b, 6, none⟩ = some (.int .i64 q.del) := Bk.cell h 6
theorem Kb.dis {w : World} {b : Nat} {q : Pk} (h : Kb w b q) : w.cell? ⟨b, 7, none⟩ = some (.int .i64 q.dis) := Bk.cell h 7
theorem Kb.rid {w : World} {b : Nat} {q : Pk} (h : Kb w b q) : w.cell? ⟨b, 8, none⟩ = some (.int .u32 q.rid) := Bk.cell h 8
theorem Kb.ref {w : World} {b : Nat} {q : Pk} (h : Kb w b q) : w.cell? ⟨b, 9, none⟩ = some (.int .u64 q.ref) := Bk.cell h 9
theorem Kb.org {w : World} {b : Nat} {q : Pk} (h : Kb w b q) : w.cell? ⟨b, 10, none⟩ = some (.int .u64 q.org) := Bk.cell h 10
theorem Kb.rc {w : World} {b : Nat} {q : Pk} (h : Kb w b q) : w.cell? ⟨b, 11, none⟩ = some (.int .u64 q.rc) := Bk.cell h 11
theorem Kb.xmt {w : World} {b : Nat} {q : Pk} (h : Kb w b q) : w.cell? ⟨b, 12, none⟩ = some (.int .u64 q.xmt) := Bk.cell h 12
theorem Kb.all {w : World} {b : Nat} {q : Pk} (h : Kb w b q) : ∀ j u, (pkC q)[j]? = some u → w.cell? ((⟨b, 0, none⟩ : Addr).add j) = some u := cells_of h
set_option maxHeartbeats 400000 in
theorem sc_any (n : Int) (w : World) : Calls Try.prog 45 #[.int .i64 n] w fun e w' => e = .returned (.bool (scB n)) ∧ w' = w := by
  unfold scB
  go_enter Try.func45, Try.ntmps45
  go_wp2
  all_goals
    go_ret
    exact ⟨ret_bool' (by rw [Bool.eq_iff_iff]; simp; omega), rfl⟩
set_option maxHeartbeats 400000 in
theorem onWire_any (d : Int) (w : World) : Calls Try.prog 56 #[.int .i64 d] w fun e w' => e = .returned (.int .i64 (ow d)) ∧ w' = w := by
  unfold ow
  have mx := run_mxS
  have mn := run_mnS
  go_enter Try.func56, Try.ntmps56
  go_wp2_with (go_at_call 77; refine (fromShort_any _ _ (by omega) (by omega)).mono ?_; rintro e w' ⟨rfl, rfl⟩)
  go_ret
  exact ⟨rfl, rfl⟩
set_option maxHeartbeats 400000 in
theorem worn_any (a b : Int) (w : World) : Calls Try.prog 49 #[.int .u64 a, .int .u64 b] w fun e w' => e = .returned (.int .i64 (wr a b)) ∧ ∃ n, w' = w.drewN n := by
  unfold wr dr
  have mx := run_mxS
  have b1 := sn_bd b a
  go_enter Try.func49, Try.ntmps49
  go_wp2_with (first
    | (go_at_call 30; refine (since_any _ _ _).mono ?_; rintro e w' ⟨rfl, rfl⟩)
    | (go_at_call 69; refine (drift_any _ _ _ (by omega) (by omega) (by omega) (by omega)).mono ?_; rintro e w' ⟨rfl, n, rfl⟩))
  go_ret
  exact ⟨rfl, n, rfl⟩
set_option maxHeartbeats 400000 in
theorem waits_any (p : Nat) (s : Ps) (w : World) (h : Pm w p s) : Calls Try.prog 20 #[.pointer (some ⟨p, 0, none⟩)] w fun e w' => e = .returned (.bool (decide (s.req ≠ 0))) ∧ w' = w := by
  have h1 := h.req
  go_enter Try.func20, Try.ntmps20
  go_wp2
  go_ret
  exact ⟨ret_bool' (by by_cases e : s.req = 0 <;> simp [e]), rfl⟩
set_option maxHeartbeats 400000 in
theorem trusts_any (p : Nat) (s : Ps) (a : Bool) (w : World) (h : Pm w p s) : Calls Try.prog 72 #[.pointer (some ⟨p, 0, none⟩), .bool a] w fun e w' => e = .returned (.bool (trB s a)) ∧ w' = w := by
  have h1 := h.key
  unfold trB
  by_cases e : s.key = 0
  · rw [e] at h1
    go_enter Try.func72, Try.ntmps72
    go_wp2
    go_ret
    exact ⟨ret_bool' (by simp [e]), rfl⟩
  · have e' : (s.key == 0) = false := by simpa using e
    go_enter Try.func72, Try.ntmps72
    go_wp2
    go_ret
    exact ⟨ret_bool' (by simp [e]), rfl⟩
set_option maxRecDepth 20000 in
set_option maxHeartbeats 400000 in
theorem isKiss_any (q : Pk) (w : World) : Calls Try.prog 73 #[.agg (pkC q).toArray] w fun e w' => e = .returned (.bool (kissB q)) ∧ Below w.heap.size w w' := by
  go_enter Try.func73, Try.ntmps73
  refine post_hid fun Q hQ => ?_
  refine seq_hid fun R hR => ?_
  go_wp2
  refine world_hid fun W hW => ?_
  have hK : Kb W w.heap.size q := by rw [hW.out]; exact Kb.new _ _
  have HB : Hid (Below w.heap.size w W) := by show Below _ _ _; rw [hW.out]; exact (Below.refl _ _).alloc (Nat.le_refl _) _
  have k1 := hK.str
  have k2 := hK.leap
  have k3 := hK.rid
  clear hW hK
  rw [hR.out]
  clear hR
  unfold kissB at hQ
  go_wp2
  all_goals
    rw [hQ.out]
    go_ret
    exact ⟨ret_bool' (by rw [Bool.eq_iff_iff]; simp_all), HB.out⟩
set_option maxRecDepth 20000 in
set_option maxHeartbeats 1000000 in
theorem came_any (p : Nat) (s : Ps) (q : Pk) (w : World) (h : Pm w p s) : Calls Try.prog 71 #[.pointer (some ⟨p, 0, none⟩), .agg (pkC q).toArray] w fun e w' => e = .returned (.bool (dupB s q)) ∧ Below w.heap.size w w' := by
  obtain ⟨D, hD⟩ : ∃ D, D = sn q.xmt s.last := ⟨_, rfl⟩
  have HS : Hid (∀ u, Calls Try.prog 30 #[.int .u64 q.xmt, .int .u64 s.last] u fun e w' => e = .returned (.int .i64 D) ∧ w' = u) := fun u => by rw [hD]; exact since_any _ _ u
  unfold dupB
  rw [← hD]
  clear hD
  have HP : Hid (Pm w p s) := h
  clear h
  go_enter Try.func71, Try.ntmps71
  refine post_hid fun Q hQ => ?_
  refine seq_hid fun R hR => ?_
  go_wp2
  refine world_hid fun W hW => ?_
  have hK : Kb W w.heap.size q := by rw [hW.out]; exact Kb.new _ _
  have hB : Below w.heap.size w W := by rw [hW.out]; exact (Below.refl _ _).alloc (Nat.le_refl _) _
  have hP := HP.out.kept (hB.block p HP.out.lt)
  have HB : Hid (Below w.heap.size w W) := hB
  have k1 := hK.mode
  have k2 := hK.xmt
  have k3 := hP.taken
  have k4 := hP.last
  clear hW hK hB hP HP
  rw [hR.out]
  clear hR
  cases ht : s.taken
  · rw [ht] at k3
    go_wp2
    rw [hQ.out]
    go_ret
    exact ⟨ret_bool' (by simp [ht]), HB.out⟩
  · rw [ht] at k3
    by_cases hm : q.mode = 5
    · rw [hm] at k1
      go_wp2
      go_quiet ((go_at_call 30; exact Calls.quiet_of_same (HS.out _)))
      go_wp2
      rw [hQ.out]
      go_ret
      exact ⟨ret_bool' (by simp [ht, hm]), below_dr HB.out _⟩
    · have hm' : (q.mode == 5) = false := by simpa using hm
      go_wp2
      go_region
      go_wp2
      rw [hQ.out]
      go_ret
      exact ⟨ret_bool' (by rw [Bool.eq_iff_iff]; simp [ht, hm]), HB.out.drew⟩
end Go.Proofs.Ytlggademcmkihaa
