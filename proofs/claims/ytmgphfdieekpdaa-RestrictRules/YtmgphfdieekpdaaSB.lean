/- cmp, compareRanges. -/
import Derived.Test.YtmgphfdieekpdaaSA
import Derived.Test.YtmgphfdieekpdaaRM
import Derived.Test.YtmgphfdieekpdaaRT
import Derived.Deep.RegionHeld3
namespace Go.Proofs.Ytmgphfdieekpdaa
open Go Go.RowKit Go.Sort
def cmI (a b : Int) : Int := if a < b then -1 else if b < a then 1 else 0
def crI (x y : Ru) : Int := if cmI x.addr y.addr = 0 then cmI x.bits y.bits else cmI x.addr y.addr
set_option maxHeartbeats 400000 in
theorem nan32_any (a : Int) (w : World) : Calls Try.prog 63 #[.int .u32 a] w fun e w' => e = .returned (.bool false) ∧ w' = w := by
  go_enter Try.func63, Try.ntmps63
  go_wp2
  go_ret
  exact ⟨by simp, rfl⟩
set_option maxHeartbeats 400000 in
theorem nan64_any (a : Int) (w : World) : Calls Try.prog 52 #[.int .i64 a] w fun e w' => e = .returned (.bool false) ∧ w' = w := by
  go_enter Try.func52, Try.ntmps52
  go_wp2
  go_ret
  exact ⟨by simp, rfl⟩
set_option maxHeartbeats 400000 in
theorem cmp32_any (a b : Int) (w : World) : Calls Try.prog 45 #[.int .u32 a, .int .u32 b] w fun e w' => e = .returned (.int .i64 (cmI a b)) ∧ w' = w := by
  have h1 := fun (c : Int) (v : World) => nan32_any c v
  have H1 : Hid (∀ (c : Int) (v : World), Calls Try.prog 63 #[.int .u32 c] v fun e w' => e = .returned (.bool false) ∧ w' = v) := h1
  clear h1
  unfold cmI
  rcases Int.lt_trichotomy a b with h | h | h
  · rw [if_pos h]
    go_enter Try.func45, Try.ntmps45
    go_wp2_with (go_at_call 63; refine (H1.out _ _).mono ?_; rintro e w1 ⟨rfl, hw⟩; rw [hw]; clear hw)
    go_ret
    exact ⟨rfl, rfl⟩
  · subst h
    rw [if_neg (by omega), if_neg (by omega)]
    go_enter Try.func45, Try.ntmps45
    go_wp2_with (go_at_call 63; refine (H1.out _ _).mono ?_; rintro e w1 ⟨rfl, hw⟩; rw [hw]; clear hw)
    go_ret
    exact ⟨rfl, rfl⟩
  · rw [if_neg (by omega), if_pos h]
    go_enter Try.func45, Try.ntmps45
    go_wp2_with (go_at_call 63; refine (H1.out _ _).mono ?_; rintro e w1 ⟨rfl, hw⟩; rw [hw]; clear hw)
    go_ret
    exact ⟨rfl, rfl⟩
set_option maxHeartbeats 400000 in
theorem cmp64_any (a b : Int) (w : World) : Calls Try.prog 41 #[.int .i64 a, .int .i64 b] w fun e w' => e = .returned (.int .i64 (cmI a b)) ∧ w' = w := by
  have h1 := fun (c : Int) (v : World) => nan64_any c v
  have H1 : Hid (∀ (c : Int) (v : World), Calls Try.prog 52 #[.int .i64 c] v fun e w' => e = .returned (.bool false) ∧ w' = v) := h1
  clear h1
  unfold cmI
  rcases Int.lt_trichotomy a b with h | h | h
  · rw [if_pos h]
    go_enter Try.func41, Try.ntmps41
    go_wp2_with (go_at_call 52; refine (H1.out _ _).mono ?_; rintro e w1 ⟨rfl, hw⟩; rw [hw]; clear hw)
    go_ret
    exact ⟨rfl, rfl⟩
  · subst h
    rw [if_neg (by omega), if_neg (by omega)]
    go_enter Try.func41, Try.ntmps41
    go_wp2_with (go_at_call 52; refine (H1.out _ _).mono ?_; rintro e w1 ⟨rfl, hw⟩; rw [hw]; clear hw)
    go_ret
    exact ⟨rfl, rfl⟩
  · rw [if_neg (by omega), if_pos h]
    go_enter Try.func41, Try.ntmps41
    go_wp2_with (go_at_call 52; refine (H1.out _ _).mono ?_; rintro e w1 ⟨rfl, hw⟩; rw [hw]; clear hw)
    go_ret
    exact ⟨rfl, rfl⟩
set_option maxHeartbeats 1000000 in
theorem or_any (c d : Int) (q : Nat) (w : World) (h0 : w.cell? ⟨q, 0, none⟩ = some (.int .i64 c)) (h1 : w.cell? ⟨q, 1, none⟩ = some (.int .i64 d)) : Calls Try.prog 44 #[.slice (some ⟨q, 0, none⟩) 2 2] w fun e w' => e = .returned (.int .i64 (if c = 0 then d else c)) ∧ w' = w := by
  by_cases hc : c = 0
  · subst hc
    rw [if_pos rfl]
    by_cases hd : d = 0
    · subst hd
      go_enter Try.func44, Try.ntmps44
      go_wp2
      go_rounds 3
      all_goals go_ret
      all_goals exact ⟨rfl, rfl⟩
    · have hd' : (d != 0) = true := by simpa using hd
      go_enter Try.func44, Try.ntmps44
      go_wp2
      go_rounds 3
      all_goals go_ret
      all_goals exact ⟨rfl, rfl⟩
  · rw [if_neg hc]
    have hc' : (c != 0) = true := by simpa using hc
    go_enter Try.func44, Try.ntmps44
    go_wp2
    go_rounds 3
    all_goals go_ret
    all_goals exact ⟨rfl, rfl⟩
theorem grown_form1 (w : World) (os : Array Obj) (o : Obj) : ∃ q os', (grow w os).drew.alloc o = grow (w.drewN q) os' := ⟨1, os ++ #[o], by rw [alloc_eq_grow]; show grow (grow (w.drewN 1) os) #[o] = _; rw [grow_grow]⟩
theorem grown_form2 (w : World) (os : Array Obj) (o : Obj) : ∃ q os', ((grow w os).alloc o).drew = grow (w.drewN q) os' := ⟨1, os ++ #[o], by rw [alloc_eq_grow]; show grow (grow (w.drewN 1) os) #[o] = _; rw [grow_grow]⟩
set_option maxHeartbeats 1000000 in
theorem ranges_any (x y : Ru) (w : World) : Calls Try.prog 29 #[.agg (ruL x).toArray, .agg (ruL y).toArray] w fun e w' => e = .returned (.int .i64 (crI x y)) ∧ ∃ q os', w' = grow (w.drewN q) os' := by
  obtain ⟨a0, a1, a2⟩ := x
  obtain ⟨b0, b1, b2⟩ := y
  unfold ruL
  simp only
  have H1 : Hid (∀ u, Calls Try.prog 45 #[.int .u32 a0, .int .u32 b0] u fun e w' => e = .returned (.int .i64 (cmI a0 b0)) ∧ w' = u) := fun u => cmp32_any a0 b0 u
  have H2 : Hid (∀ u, Calls Try.prog 41 #[.int .i64 a1, .int .i64 b1] u fun e w' => e = .returned (.int .i64 (cmI a1 b1)) ∧ w' = u) := fun u => cmp64_any a1 b1 u
  have HR : Hid (crI ⟨a0, a1, a2⟩ ⟨b0, b1, b2⟩ = if cmI a0 b0 = 0 then cmI a1 b1 else cmI a0 b0) := rfl
  generalize cmI a0 b0 = C at *
  generalize cmI a1 b1 = D at *
  obtain ⟨R, hR⟩ : ∃ R, R = (if C = 0 then D else C) := ⟨_, rfl⟩
  have H3 : Hid (∀ u q, u.cell? ⟨q, 0, none⟩ = some (.int .i64 C) → u.cell? ⟨q, 1, none⟩ = some (.int .i64 D) → Calls Try.prog 44 #[.slice (some ⟨q, 0, none⟩) 2 2] u fun e w' => e = .returned (.int .i64 R) ∧ w' = u) := fun u q h0 h1 => by rw [hR]; exact or_any C D q u h0 h1
  rw [← hR] at HR
  clear hR
  go_enter Try.func29, Try.ntmps29
  go_wp2
  generalize hW : World.alloc _ _ = W
  have d0 : W.cell? ⟨w.heap.size, 0, none⟩ = some (.int .u32 a0) := by rw [← hW]; simp
  have d1 : W.cell? ⟨w.heap.size, 1, none⟩ = some (.int .i64 a1) := by rw [← hW]; simp
  have e0 : W.cell? ⟨w.heap.size + 1, 0, none⟩ = some (.int .u32 b0) := by rw [← hW]; simp
  have e1 : W.cell? ⟨w.heap.size + 1, 1, none⟩ = some (.int .i64 b1) := by rw [← hW]; simp
  have HW : Hid (∃ os, W = grow w os) := by
    rw [← hW]
    exact ⟨_, by rw [alloc_eq_grow, alloc_eq_grow, grow_grow]⟩
  clear hW
  go_region_held3 (fun w' => w'.cell? ⟨w.heap.size, 0, none⟩ = some (.int .u32 a0) ∧ w'.cell? ⟨w.heap.size, 1, none⟩ = some (.int .i64 a1) ∧ w'.cell? ⟨w.heap.size + 1, 0, none⟩ = some (.int .u32 b0) ∧ w'.cell? ⟨w.heap.size + 1, 1, none⟩ = some (.int .i64 b1)) (first | exact ⟨d0, d1, e0, e1⟩ | go_keep) (first | (go_at_call 45; refine (H1.out _).mono ?_; rintro e w1 ⟨rfl, rfl⟩) | (go_at_call 41; refine (H2.out _).mono ?_; rintro e w1 ⟨rfl, rfl⟩) | (go_at_call 44; refine (H3.out _ _ (by simp) (by simp)).mono ?_; rintro e w1 ⟨rfl, rfl⟩))
  all_goals
    go_wp2
    go_ret
    refine ⟨ret_int' HR.out.symm, ?_⟩
    obtain ⟨os, hos⟩ := HW.out
    rw [hos]
    first
    | exact grown_form1 w os _
    | exact grown_form2 w os _
/-- below: what grows alone -/
theorem below_grow (w : World) (q : Nat) (os : Array Obj) : Below w.heap.size w (grow (w.drewN q) os) :=
  ⟨rfl, rfl, rfl, by simp [grow], fun k hk => by simp only [grow]; rw [Array.getElem?_append_left (by simpa using hk)]; rfl⟩
def ltR (x y : Ru) : Bool := decide (crI x y < 0)
theorem ltR_iff (x y : Ru) : ltR x y = true ↔ (x.addr < y.addr ∨ (x.addr = y.addr ∧ x.bits < y.bits)) := by
  unfold ltR crI cmI
  rw [decide_eq_true_eq]
  (repeat' split) <;> omega
theorem ltR_swo : SWO (Proofs.ltOf crI) where
  irrefl x := by
    have h := ltR_iff x x
    show ltR x x = false
    cases hx : ltR x x
    · rfl
    · exact absurd (h.1 hx) (by omega)
  trans x y z h1 h2 := by
    have h1' := (ltR_iff x y).1 h1
    have h2' := (ltR_iff y z).1 h2
    exact (ltR_iff x z).2 (by omega)
  ntrans x y z h1 h2 := by
    have h1' : ¬ (x.addr < y.addr ∨ (x.addr = y.addr ∧ x.bits < y.bits)) := fun h => by have h3 : ltR x y = false := h1; rw [(ltR_iff x y).2 h] at h3; cases h3
    have h2' : ¬ (y.addr < z.addr ∨ (y.addr = z.addr ∧ y.bits < z.bits)) := fun h => by have h3 : ltR y z = false := h2; rw [(ltR_iff y z).2 h] at h3; cases h3
    show ltR x z = false
    cases hx : ltR x z
    · rfl
    · have := (ltR_iff x z).1 hx
      exfalso
      omega
theorem isAggRu : ∀ w, (isAgg (Try.sortRu_ren.t 24)).run Try.prog w = .ok true w := Try.isAgg26
theorem sizeRu : ∀ w, (Go.sizeOf (Try.sortRu_ren.t 24)).run Try.prog w = .ok 3 w := Try.sizeOf26
set_option maxHeartbeats 1000000 in
theorem sortRu_any (B g cap : Nat) (xs : List Ru) (w : World) (h : OR w B 26 3 (.slice (some ⟨g, 0, none⟩) xs.length cap) (xs.map ruL)) (hg : g < w.heap.size) (hl : xs.length ≤ 100000) :
    Calls Try.prog 28 #[.slice (some ⟨g, 0, none⟩) xs.length cap, .func (.func 29) #[] #[]] w fun e w' => e = .returned (.tuple #[]) ∧ ∃ ys : List Ru, ys.Perm xs ∧ ys.Pairwise (fun a b => ltR b a = false) ∧ OR w' B 26 3 (.slice (some ⟨g, 0, none⟩) xs.length cap) (ys.map ruL) ∧ w.grownBy w' (some g) := by
  haveI : Inhabited Ru := ⟨⟨0, 0, 0⟩⟩
  have eg : ∀ args w, (callFunc 29 args).run Try.prog w = .ok (.enter 29 args) w := Proofs.enters_of Try.func29 (by kernel_rfl) rfl
  have hcon := Proofs.AnyQ.slices_SortFunc Try.sortRu 3 isAggRu sizeRu ruL (fun _ => rfl) (fun x v hv => one_ru _ _ _ v hv) crI ltR_swo 29 #[] g 0 cap xs.toArray w eg (fun m os dk _ x y => ranges_any x y _) (h.holdsK (fun _ => rfl) (by decide)) hg (by simp; omega)
  change Calls Try.prog 28 _ _ _ at hcon
  have e1 : xs.toArray.size = xs.length := by simp
  rw [e1] at hcon
  refine hcon.mono ?_
  rintro e w' ⟨rfl, d', n, os, hp, hs, rfl⟩
  have hsz : d'.size = xs.length := by have := hp.1; simpa using this
  have hpm : d'.toList.Perm xs := by
    have := hp.2.2
    have h2 : (d'.extract 0 xs.length).toList = d'.toList := by simp [hsz, List.take_of_length_le]
    rw [h2] at this
    simpa using this
  have hb := h.putRowK (q := n) (ys := d'.toList) (fun _ => rfl) (by decide) (by simp [hsz]) os
  rw [Array.toArray_toList] at hb
  refine ⟨rfl, d'.toList, hpm, ?_, hb.1, hb.2⟩
  rw [List.pairwise_iff_getElem]
  intro i j hi hj hij
  have hi' : i < d'.size := by simpa using hi
  have hj' : j < d'.size := by simpa using hj
  have := hs i j (Nat.zero_le _) hij (by omega)
  rw [getElem!_pos d' i hi', getElem!_pos d' j hj'] at this
  rw [Array.getElem_toList, Array.getElem_toList]
  exact this
end Go.Proofs.Ytmgphfdieekpdaa
