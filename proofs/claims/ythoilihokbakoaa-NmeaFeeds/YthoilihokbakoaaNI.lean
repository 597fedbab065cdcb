/- Pieces of bytes that came in; how heavy they are; two rows of texts that are the same. -/
import Derived.Test.YthoilihokbakoaaNH
namespace Go.Proofs.Ythoilihokbakoaa
open Go Go.RowKit
/-- pieces of bytes below block N -/
def Pc (N : Nat) (w : World) (ao : Option Addr) (l : List (List UInt8)) : Prop := ∀ k (_ : k < l.length), ∃ ad bo m cp, ao = some ad ∧ ad.block < N ∧ w.cell? (ad.add k) = some (.slice bo m cp) ∧ Sv N w (.slice bo m cp) (ib l[k])
theorem Pc.below {N B : Nat} {w w' : World} {ao : Option Addr} {l : List (List UInt8)} (h : Pc N w ao l) (hb : Below B w w') (hB : N ≤ B) : Pc N w' ao l := fun k hk => by
  obtain ⟨ad, bo, m, cp, h1, h2, h3, h4⟩ := h k hk
  exact ⟨ad, bo, m, cp, h1, h2, (hb.cell (p := ad.add k) (by rw [add_block]; omega)).trans h3, h4.below hb hB⟩
/-- one piece -/
theorem Pc.get {N : Nat} {w : World} {ao : Option Addr} {l : List (List UInt8)} (h : Pc N w ao l) {k : Nat} (hk : k < l.length) : ∃ ad bo m cp b, ao = some ad ∧ ad.block < N ∧ l[k]? = some b ∧ m = b.length ∧ w.cell? (ad.add k) = some (.slice bo m cp) ∧ Sv N w (.slice bo m cp) (ib b) := by
  obtain ⟨ad, bo, m, cp, h1, h2, h3, h4⟩ := h k hk
  refine ⟨ad, bo, m, cp, _, h1, h2, List.getElem?_eq_getElem hk, ?_, h3, h4⟩
  obtain ⟨a1, c1, e1, -⟩ := h4
  injection e1 with _ e1 _
  rw [e1, ib_len]
theorem Sv.rb {N q : Nat} {w : World} {bo : Option Addr} {m cp : Nat} {b : List UInt8} (h : Sv N w (.slice bo m cp) (ib b)) (hN : N ≤ w.heap.size) (hq : N ≤ q) : Rb w q bo b := fun k hk => by
  obtain ⟨a1, c1, e1, -, -, h4, -⟩ := h
  injection e1 with e1 _ _
  subst e1
  obtain ⟨ad, g1, g2, g3⟩ := h4 k (by rw [ib_len]; exact hk)
  rw [ib_at b k hk] at g3
  exact ⟨ad, g1, by omega, by omega, g3⟩
theorem idx_p {ao : Option Addr} {ad : Addr} (n cap k : Nat) (h : ao = some ad) (hk : (k : Int) < n) (w : World) : Sem.run Try.prog (Instr.indexAt 22 (.slice ao n cap) (.int .i64 (k : Int))) w = .ok (.pointer (some (ad.add k))) w := by
  subst h
  have hk2 : k < n := by omega
  simp [Instr.indexAt, go_sem, hk2]
def sumL (l : List (List UInt8)) : Nat := (l.map List.length).sum
theorem sumL_take (l : List (List UInt8)) (k : Nat) (b : List UInt8) (h : l[k]? = some b) : sumL (l.take (k + 1)) = sumL (l.take k) + b.length := by
  obtain ⟨hk, rfl⟩ := List.getElem?_eq_some_iff.1 h
  clear h
  unfold sumL
  rw [List.take_succ_eq_append_getElem hk, List.map_append, List.sum_append]
  rfl
theorem flat_take (l : List (List UInt8)) (k : Nat) (b : List UInt8) (h : l[k]? = some b) : (l.take (k + 1)).flatten = (l.take k).flatten ++ b := by
  obtain ⟨hk, rfl⟩ := List.getElem?_eq_some_iff.1 h
  rw [List.take_succ_eq_append_getElem hk, List.flatten_append]
  simp only [List.flatten_cons, List.flatten_nil, List.append_nil]
theorem flat_len (l : List (List UInt8)) : l.flatten.length = sumL l := by unfold sumL; rw [List.length_flatten]
theorem sumL_le (l : List (List UInt8)) (k : Nat) : sumL (l.take k) ≤ sumL l := by
  have h : sumL l = sumL (l.take k) + sumL (l.drop k) := by
    unfold sumL
    rw [← List.sum_append, ← List.map_append, List.take_append_drop]
  omega
theorem sumL_mem (l : List (List UInt8)) (k : Nat) (b : List UInt8) (h : l[k]? = some b) : b.length ≤ sumL l := by
  have h1 := sumL_take l k b h
  have h2 := sumL_le l (k + 1)
  omega
/-- what the loop has counted -/
structure Hv (l : List (List UInt8)) (k : Nat) (n : Int) : Prop where
  hk : k ≤ l.length
  n0 : 0 ≤ n
  n1 : n ≤ l.length + 1114112
  sm : n ≤ 65536 → (l.length : Int) + sumL (l.take k) ≤ n
/-- what heavy answers -/
def HvR (l : List (List UInt8)) (e : Ending) : Prop := ∃ B : Bool, e = .returned (.bool B) ∧ (B = false → l.length + sumL l ≤ 65536)
set_option maxHeartbeats 1000000 in
theorem heavy_any (N L cap : Nat) (ao : Option Addr) (l : List (List UInt8)) (w : World) (hL : L = l.length) (hp : Pc N w ao l) (hl : l.length ≤ 70368744177664) :
    Calls Try.prog 7 #[.slice ao L cap] w fun e w' => HvR l e ∧ w' = w := by
  have HP : Hid (L = l.length ∧ Pc N w ao l) := ⟨hL, hp⟩
  have hLi : (L : Int) ≤ 70368744177664 := by omega
  clear hp hL hl
  go_enter Try.func7, Try.ntmps7
  go_wp2
  go_loop [3, 4] (fun n i => ∃ (k : Nat) (m : Int), i = .int .i64 (k : Int) ∧ n = .int .i64 m ∧ Hid (Hv l k m)) (fun _ i => L - (intOf i).toNat)
  case atStart => exact ⟨0, L, rfl, rfl, Nat.zero_le _, by omega, by have := HP.out.1; omega, fun _ => by have := HP.out.1; simp [sumL]; omega⟩
  case round =>
    obtain ⟨k, m, rfl, rfl, H⟩ := hrel
    have hm0 := H.out.n0
    have hm1 : m ≤ 70368745300000 := by have := H.out.n1; have := HP.out.1; omega
    by_cases hlt : k < L
    · have hlti : (k : Int) < L := by omega
      by_cases hm : m ≤ 65536
      · obtain ⟨ad, bo, mm, cp, b, h1, -, h2, h3, h4, h5⟩ := HP.out.2.get (k := k) (by have := HP.out.1; omega)
        have hix := idx_p L cap k h1 hlti
        have HB : Hid (l[k]? = some b ∧ mm = b.length) := ⟨h2, h3⟩
        obtain ⟨mn, hmn⟩ : ∃ mn : Int, (if (1048576 : Int) < (mm : Int) then 1048576 else (mm : Int)) = mn := ⟨_, rfl⟩
        have hmn0 : 0 ≤ mn ∧ mn ≤ 1048576 ∧ (mn < 1048576 → mn = mm) := by rw [← hmn]; split <;> omega
        clear h1 h2 h3 h5
        go_wp2
        refine ⟨⟨k + 1, m + mn, by go_num, rfl, ⟨by have := HP.out.1; omega, by omega, by omega, fun h => ?_⟩⟩, by simp [intOf]; omega⟩
        have h1 := H.out.sm hm
        have h2 := sumL_take l k b HB.out.1
        have h3 := HB.out.2
        omega
      · have hm' : ¬ m ≤ 65536 := hm
        go_wp2
        go_ret
        exact ⟨⟨_, rfl, fun h => by simp at h⟩, rfl⟩
    · have hlti : ¬ (k : Int) < L := by omega
      go_wp2
      all_goals
        go_ret
        refine ⟨⟨_, rfl, fun h => ?_⟩, rfl⟩
        simp at h
        have h1 := H.out.sm (by omega)
        rw [List.take_of_length_le (by have := HP.out.1; omega)] at h1
        omega
set_option maxHeartbeats 1000000 in
theorem sameTexts7_any (u v : Value) (ts : List (List UInt8)) (w : World) (hu : Rt w u ts) (hv : Rt w v ts) (hl : ts.length ≤ 10000000) :
    Calls Try.prog 12 #[u, v] w fun e w' => e = .returned (.bool true) ∧ ∃ n, w' = w.drewN n := by
  obtain ⟨ao, ca, rfl, h1, h2⟩ := hu
  obtain ⟨bo, cb, rfl, h3, h4⟩ := hv
  obtain ⟨L, hL⟩ : ∃ L, L = ts.length := ⟨_, rfl⟩
  rw [← hL]
  have HH : Hid (L = ts.length ∧ (∀ k (hk : k < ts.length), ∃ g o, ao = some ⟨g, o, none⟩ ∧ g < w.heap.size ∧ w.cell? ⟨g, o + k, none⟩ = some (.string (tx ts[k]))) ∧ (∀ k (hk : k < ts.length), ∃ g o, bo = some ⟨g, o, none⟩ ∧ g < w.heap.size ∧ w.cell? ⟨g, o + k, none⟩ = some (.string (tx ts[k])))) := ⟨hL, h2, h4⟩
  have hLi : (L : Int) ≤ 10000000 := by omega
  clear h1 h2 h3 h4 hL hl
  go_enter Try.func12, Try.ntmps12
  go_wp2
  go_loopw [5] (fun i wr => ∃ (k n : Nat), i = .int .i64 (k : Int) ∧ k ≤ L ∧ wr = w.drewN n) (fun i _ => L - (intOf i).toNat)
  case atStart => exact ⟨0, 0, rfl, Nat.zero_le _, rfl⟩
  case round =>
    obtain ⟨k, n, rfl, hk, rfl⟩ := hrel
    by_cases hlt : k < L
    · have hlti : (k : Int) < L := by omega
      obtain ⟨g, o, rfl, hg, hc⟩ := HH.out.2.1 k (by have := HH.out.1; omega)
      obtain ⟨g', o', rfl, hg', hc'⟩ := HH.out.2.2 k (by have := HH.out.1; omega)
      obtain ⟨X, hX⟩ : ∃ X, X = tx (ts[k]'(by have := HH.out.1; omega)) := ⟨_, rfl⟩
      rw [← hX] at hc hc'
      clear hX
      go_wp2
      go_region
      go_wp2
      exact ⟨⟨k + 1, n + 1, by go_num, by omega, rfl⟩, by simp [intOf]; omega⟩
    · go_wp2
      go_ret
      exact ⟨rfl, n, rfl⟩
/-- what is fed behind what was fed -/
theorem fdL_piece (st : Option (List UInt8)) (O : List (List UInt8)) (n : Nat) (b : List UInt8) : fdL ⟨st, O, n⟩ b = ⟨(fdL ⟨st, [], n⟩ b).st, O ++ (fdL ⟨st, [], n⟩ b).out, (fdL ⟨st, [], n⟩ b).lost⟩ := by
  rw [fdL_from b st O n, fdL_from b st [] n]
  simp
theorem fdL_len (b : List UInt8) : ∀ (s : LS), (∀ cur, s.st = some cur → cur.length ≤ 82) → ∀ cur, (fdL s b).st = some cur → cur.length ≤ 82 := by
  induction b with
  | nil => intro s h; exact h
  | cons c r ih => intro s h; rw [fdL_cons]; exact ih _ (stp_len h)
theorem fdL_grow (b : List UInt8) : ∀ s : LS, (fdL s b).out.length + (fdL s b).lost ≤ s.out.length + s.lost + opn s.st + b.length := by
  intro s
  have h := fdL_count b s
  have h2 : beg b ≤ b.length := by unfold beg; exact List.countP_le_length
  omega
end Go.Proofs.Ythoilihokbakoaa
