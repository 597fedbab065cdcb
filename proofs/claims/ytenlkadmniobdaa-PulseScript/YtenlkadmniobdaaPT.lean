/- A row of spans that is written: PulseWild. -/
import Derived.Test.YtenlkadmniobdaaPQ
import Derived.Test.YtenlkadmniobdaaPR
namespace Go.Proofs.Ytenlkadmniobdaa
open Go.RowKit
/-- a block whose first cells are these spans -/
def Rg (w : World) (g : Nat) (ys : List Int) : Prop := ∃ cur : Array Value, w.heap[g]? = some (.cells cur 25 (0, 0)) ∧ cur.toList.take ys.length = vi ys ∧ ys.length ≤ cur.size
theorem Rg.lt {w : World} {g : Nat} {ys : List Int} (h : Rg w g ys) : g < w.heap.size := by obtain ⟨cur, h, _⟩ := h; exact (Array.getElem?_eq_some_iff.1 h).1
theorem Rg.cell {w : World} {g : Nat} {ys : List Int} (h : Rg w g ys) (k : Nat) (hk : k < ys.length) : w.cell? ⟨g, k, none⟩ = some (.int .i64 (ys.getD k 0)) := by
  obtain ⟨cur, h1, h2, h3⟩ := h
  rw [cell_of_row w g k cur _ (0, 0) h1]
  have e := vi_get ys k hk
  rw [← h2, List.getElem?_take_of_lt (by omega)] at e
  simpa using e
theorem Rg.frozen {w : World} {g : Nat} {ys : List Int} (h : Rg w g ys) (k : Nat) : w.frozen? ⟨g, k, none⟩ = false := by
  obtain ⟨cur, h1, _⟩ := h
  simp [World.frozen?, h1]
theorem Rg.set {w : World} {g : Nat} {ys : List Int} (h : Rg w g ys) (k : Nat) (x : Int) : Rg (w.setCell ⟨g, k, none⟩ (.int .i64 x)) g (ys.set k x) := by
  obtain ⟨cur, h1, h2, h3⟩ := h
  refine ⟨cur.setIfInBounds k (.int .i64 x), ?_, ?_, by simp; exact h3⟩
  · rw [setCell_eq_setRow w g k _ _ (0, 0) _ h1, setRow_heap w g _ _ _ _ h1]
  · rw [List.length_set, Array.toList_setIfInBounds, List.take_set, h2]
    unfold vi
    rw [List.map_set]
theorem Rg.below {w w' : World} {g B : Nat} {ys : List Int} (h : Rg w g ys) (hb : Below B w w') (hg : g < B) : Rg w' g ys := by
  obtain ⟨cur, h1, h2, h3⟩ := h
  exact ⟨cur, (hb.block g hg).trans h1, h2, h3⟩
theorem Rg.sl {w : World} {g : Nat} {ys : List Int} (h : Rg w g ys) (cp : Nat) (hc : ys.length ≤ cp) (hok : ok6 ys) : Sl w.heap.size w (.slice (some ⟨g, 0, none⟩) ys.length cp) ys :=
  ⟨_, _, rfl, hc, fun _ => ⟨_, rfl, h.lt, fun k hk => by rw [add_own, Nat.zero_add]; exact h.cell k hk⟩, hok, by simp⟩
theorem Oi.rg {w : World} {B : Nat} {v : Value} {xs : List Int} (h : Oi w B v xs) (hp : 0 < xs.length) : ∃ g cp, v = .slice (some ⟨g, 0, none⟩) xs.length cp ∧ B ≤ g ∧ xs.length ≤ cp ∧ Rg w g xs := by
  obtain ⟨h, hok⟩ := h
  rcases h.2 with ⟨h1, h2⟩ | ⟨g, cap, cur, h1, h2, h3, h4, h5, h6, h7⟩
  · omega
  · exact ⟨g, cap, h1, h2, h4, cur, h3, by simpa using h7, by omega⟩
theorem swap_perm (ys : List Int) (i k : Nat) (hi : i < ys.length) (hk : k < ys.length) : ((ys.set i (ys.getD k 0)).set k (ys.getD i 0)).Perm ys := by
  have h := Array.swap_perm (xs := ys.toArray) (i := i) (j := k) (by simpa using hi) (by simpa using hk)
  have h2 := h.toList
  rw [Array.toList_swap] at h2
  rw [List.getD_eq_getElem?_getD, List.getD_eq_getElem?_getD, List.getElem?_eq_getElem hi, List.getElem?_eq_getElem hk]
  simpa using h2
theorem ok6_perm {xs ys : List Int} (h : ok6 xs) (hp : ys.Perm xs) : ok6 ys := fun x hx => h x (hp.mem_iff.1 hx)
theorem len_run32 (ao : Option Addr) (n cap : Nat) (u : World) : (Builtin.len_ #[32] 3 #[.slice ao n cap]).run Try.prog u = .ok (.int .i64 (n : Int)) u := by
  simp [Builtin.len_, run_underlying Try.underlying32, goInt]
theorem idx_at32 (ad : Addr) (n cap k : Nat) (u : World) (h : k < n) : (Instr.indexAt 32 (.slice (some ad) n cap) (.int .i64 (k : Int))).run Try.prog u = .ok (.pointer (some (ad.add k))) u := by
  simp [go_sem, h]
set_option maxRecDepth 20000 in
set_option maxHeartbeats 4000000 in
theorem wild_out (tv wv pv : Value) (tl wl : Int) (w : World) (t0 : 0 ≤ tl) (t1 : tl ≤ 17592186044416) (w0 : 0 ≤ wl) (w1 : wl ≤ 17592186044416)
    (ht : ∀ u, (Builtin.len_ #[28] 3 #[tv]).run Try.prog u = .ok (.int .i64 tl) u) (hw : ∀ u, (Builtin.len_ #[28] 3 #[wv]).run Try.prog u = .ok (.int .i64 wl) u)
    (h : tl = 0 ∨ 64 < tl + wl ∨ (tl + wl) / 4 < wl) :
    Calls Try.prog 5 #[tv, wv, pv] w fun e w' => e = .returned (.bool true) ∧ Below w.heap.size w w' := by
  by_cases c1 : tl = 0
  · subst c1
    go_enter Try.func5, Try.ntmps5
    go_wp2_with (go_at_call 9; refine (shown_any _).mono ?_; rintro e w1 ⟨rfl, hB⟩)
    go_ret
    exact ⟨rfl, hB⟩
  by_cases c2 : 64 < tl + wl
  · clear h
    go_enter Try.func5, Try.ntmps5
    go_wp2_with (go_at_call 9; refine (shown_any _).mono ?_; rintro e w1 ⟨rfl, hB⟩)
    go_ret
    exact ⟨rfl, hB⟩
  have c3 : (tl + wl) / 4 < wl := by omega
  clear h
  go_enter Try.func5, Try.ntmps5
  go_wp2_with (go_at_call 9; refine (shown_any _).mono ?_; rintro e w1 ⟨rfl, hB⟩)
  go_ret
  exact ⟨rfl, hB⟩
end Go.Proofs.Ytenlkadmniobdaa
