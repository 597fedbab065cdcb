/- Auth: kept of the laws' package of layer 4. -/
import Derived.Test.YtocimfhagkcnlaaDoorAuG
namespace Go.Proofs.YtocimfhagkcnlaaDoor
open Go Go.RowKit Go.Sort
set_option linter.unusedVariables false
theorem conv8 {N : Nat} {v : Value} {bs : List Int} (w : World) (h : Sv N w v bs) : (convert 23 9 v).run Tryd.prog w = .ok (.string (strOfNums bs)) w := by
  obtain ⟨ao, cap, rfl, h1, h2, h3, h4⟩ := h
  have u9 : Tryd.prog.underlying 9 = some .string := Tryd.underlying9
  have u5 : Tryd.prog.underlying 5 = some (.int .u8) := Tryd.underlying5
  cases ao with
  | none =>
    have hc := h2 rfl
    have hl0 : bs = [] := List.length_eq_zero_iff.1 (by omega)
    subst hl0
    rw [run_convert_bytes_nil w 23 5 Tryd.underlying23 u5 _ _ 9 u9]
    rfl
  | some ad =>
    have hl : (loadCells ad bs.length).run Tryd.prog w = .ok (bs.map (Value.int .u8)).toArray w := by
      have := run_loadCells_list (P := Tryd.prog) w ad (bs.map (Value.int .u8)) (fun j v hj => h3.news j v hj)
      simpa using this
    rw [run_convert_bytes_string w 23 9 5 _ bs.length cap Tryd.underlying23 u5 u9, run_bytesToString w _ bs.length cap bs hl, foldl_push_bytes]
    simp [strOfNums, ByteArray.empty, ByteArray.emptyWithCapacity]
    rfl
set_option maxRecDepth 20000 in
set_option maxHeartbeats 1000000 in
theorem kept04_any (B g cap n : Nat) (vb : Value) (bs : List Int) (w : World) (h : Own w B (.slice (some ⟨g, 0, none⟩) (n + 1) cap) (bs ++ [167])) (hn : bs.length = n) (hcap : n + 1 ≤ cap) (hb : Sv w.heap.size w vb bs) (hl : n ≤ 140737488355327) :
    Calls Tryd.prog 16 #[.slice (some ⟨g, 0, none⟩) n cap, vb] w fun e w' => e = .returned (.bool true) ∧ Below w.heap.size w w' := by
  have ok : okb (bs ++ [167]) := by
    obtain ⟨_, _, _, _, _, _, hk⟩ := hb
    exact okb_app hk (fun x hx => by simp at hx; omega)
  have hsv := h.sv ok
  obtain ⟨ao, c, e1, e2, e3, e4, e5⟩ := hsv
  injection e1 with q1 q2 q3
  subst q1 q3
  have hown : Sv w.heap.size w (.slice (some ⟨g, 0, none⟩) n cap) bs := by
    refine ⟨_, _, by rw [hn], by omega, (fun q => by cases q), fun k hk => ?_, fun x hx => ok x (List.mem_append_left _ hx)⟩
    obtain ⟨ad, k1, k2, k3⟩ := e4 k (by rw [List.length_append]; omega)
    refine ⟨ad, k1, k2, ?_⟩
    rw [k3, List.getD_eq_getElem?_getD, List.getD_eq_getElem?_getD, List.getElem?_append_left hk]
  have hc : w.cell? ⟨g, n, none⟩ = some (.int .u8 167) := by
    obtain ⟨ad, k1, k2, k3⟩ := e4 n (by rw [List.length_append, List.length_singleton]; omega)
    injection k1 with k1
    subst k1
    rw [List.getD_eq_getElem?_getD, List.getElem?_append_right (by omega), hn, Nat.sub_self] at k3
    rw [Lib.add_plain2, Nat.zero_add] at k3
    exact k3
  have c1 := conv8 w hown
  have c2 := conv8 w hb
  obtain ⟨S, hS⟩ : ∃ S, strOfNums bs = S := ⟨_, rfl⟩
  rw [hS] at c1 c2
  obtain ⟨bo, bc, hvb, _⟩ := hb
  rw [hn] at hvb
  subst hvb
  have n1 : (n : Int) + 1 ≤ cap := by omega
  have hl1 : (n : Int) ≤ 140737488355327 := by omega
  clear q2 h ok e2 e3 e4 e5 hown hS hn hcap hl
  go_enter Tryd.func16, Tryd.ntmps16
  refine post_hid fun Q hQ => ?_
  go_wp2_with fail
  rw [hQ.out]
  go_ret
  exact ⟨rfl, Below.refl _ _⟩
end Go.Proofs.YtocimfhagkcnlaaDoor
