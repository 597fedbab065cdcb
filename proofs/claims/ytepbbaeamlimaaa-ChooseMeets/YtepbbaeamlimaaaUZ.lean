/- ChooseMeets. -/
import Derived.Test.YtepbbaeamlimaaaUW
import Derived.Test.YtepbbaeamlimaaaUL
import Derived.Test.YtepbbaeamlimaaaUOr
namespace Go.Proofs.Ytepbbaeamlimaaa
open Go Go.RowKit Go.Sort Ch Pu
set_option linter.unusedVariables false
/-- a candidate of which only the number is told -/
def oneC (i : Int) : Cn := ⟨i, 0, 0, 0, 0, false, false⟩
theorem run_b1 (i : Int) (u : World) : (Instr.build 26 #[(0, .int .i64 i)]).run Try.prog u = .ok (.agg (cnL (oneC i)).toArray) u := by kernel_rfl
theorem ix_ownC {g : Nat} (n cap k : Nat) (hk : (k : Int) < n) (w : World) : Sem.run Try.prog (Instr.indexAt 22 (.slice (some ⟨g, 0, none⟩) n cap) (.int .i64 (k : Int))) w = .ok (.pointer (some ⟨g, k * 7, none⟩)) w := by
  have := ix_C (ao := some ⟨g, 0, none⟩) (ad := ⟨g, 0, none⟩) n cap k rfl hk w
  rw [add_own] at this
  exact this
/-- what the law has made: a row, and what the program and the reference have answered -/
structure Kt (w u : World) (g n cap : Nat) (s t : Value) (xs : List Cn) : Prop where
  ow : ∃ rows, rows.length = n ∧ OR u w.heap.size 26 7 (.slice (some ⟨g, 0, none⟩) n cap) rows
  be : Below w.heap.size w u
  os : OR u w.heap.size 26 7 s (xs.map cnL)
  ot : OR u w.heap.size 26 7 t (xs.map cnL)
  ns : s.ownBlock ≠ some g
  nt : t.ownBlock ≠ some g
  gw : w.heap.size ≤ g
set_option maxRecDepth 20000 in
set_option maxHeartbeats 2000000 in
theorem ChooseMeets_row (v : Value) (l : List Cn) (w : World) (h : Rk w.heap.size w 7 v (l.map cnL)) (hok : ∀ c ∈ l, okC c) (hlen : l.length ≤ maxLen) (hra : Ra v) :
    Calls Try.prog 7 #[v] w fun e w' => e = .returned (.bool true) ∧ Below w.heap.size w w' := by
  obtain ⟨ao, cap, hv, hcap, hr⟩ := cands_read h
  obtain ⟨n, hn⟩ : ∃ n, l.length = n := ⟨_, rfl⟩
  have HN : Hid (l.length = n) := hn
  rw [hn] at hv hlen
  subst hv
  have H0 : Hid (Rk w.heap.size w 7 (.slice ao n cap) (l.map cnL) ∧ Ra (.slice ao n cap)) := ⟨h, hra⟩
  clear h hr hn hcap hlen hok hra
  by_cases hbig : (256 : Int) < n
  · go_enter Try.func7, Try.ntmps7
    refine post_hid fun Q hQ => ?_
    go_wp2_with fail
    rw [hQ.out]
    go_ret
    exact ⟨rfl, Below.refl _ _⟩
  have hl2 : (n : Int) ≤ 256 := by omega
  clear hbig
  obtain ⟨n1, hn1⟩ : ∃ n1 : Nat, n1 = n + 1 := ⟨_, rfl⟩
  have hn1i : (n1 : Int) = (n : Int) + 1 := by omega
  have HL : Hid ((l.map cnL).length = n ∧ l.length ≤ 1000000 ∧ n ≤ 256 ∧ n1 = n + 1) := ⟨by rw [List.length_map]; exact HN.out, by rw [HN.out]; omega, by omega, hn1⟩
  clear hn1
  go_enter Try.func7, Try.ntmps7
  refine post_hid fun Q hQ => ?_
  go_upto_region 4 with (fail)
  refine world_hid fun W hW => ?_
  have HB : Hid (OR W w.heap.size 26 7 (.slice (some ⟨w.heap.size, 0, none⟩) 0 0) [] ∧ Below w.heap.size w W) := by
    rw [hW.out]
    exact ⟨OR.fresh _ _ _ _ (Nat.le_refl _), (Below.refl _ _).alloc (Nat.le_refl _) _⟩
  have HX : Hid (Rk w.heap.size W 7 (.slice ao n cap) (l.map cnL) ∧ (∀ r ∈ l.map cnL, r.length = 7) ∧ ∀ r ∈ l.map cnL, ∀ u ∈ r, u.oneCell' = true) := by
    refine ⟨H0.out.1.below HB.out.2 (Nat.le_refl _), fun r hr => ?_, fun r hr => ?_⟩
    · obtain ⟨c, _, rfl⟩ := List.mem_map.1 hr; rfl
    · obtain ⟨c, _, rfl⟩ := List.mem_map.1 hr; exact cnL_one c
  clear hW
  go_upto_region 5 with (at_builtin; refine wpList_appk tiC rfl _ _ rfl w.heap.size w.heap.size (.slice (some ⟨w.heap.size, 0, none⟩) 0 0) (.slice ao n cap) [] (l.map cnL) (by rfl) (by rfl) HB.out.1 HX.out.1 H0.out.2 HX.out.2.1 HX.out.2.2 ?_ ?_ HB.out.2.size ?_; (have := HL.out; simp only [maxLen, List.length_nil]; omega); (have := HL.out; simp only [List.length_nil]; omega); intro v3 w3 h3 hg3 _; have K3 : Hid (Kp w w3 v3 l) := ⟨h3, HB.out.2.trans (below_own hg3 HB.out.2.size HB.out.1.own)⟩; clear h3 hg3)
  clear HB HX
  go_upto_region 6 with (first
    | (refine step_bdL (by rfl) 26 [(0, _)] rfl [(0, .int .i64 (-7))] (by rfl) _ (run_b1 (-7) w3) ?_)
    | (refine step_bsL (by rfl) 22 26 _ rfl (.agg (cnL (oneC (-7))).toArray) (cnL (oneC (-7))) (by rfl) (run_bsC (oneC (-7))) ?_; intro w6 g6 H7)
    | (at_builtin; refine step_apL tiC rfl _ _ rfl w.heap.size g6 v3 (cnL (oneC (-7))) (by rfl) (by rfl) rfl (cnL_one _) w3 _ ?_ ?_ K3.out.ow H7.out K3.out.be.size ?_; (have := HL.out; simp only [maxLen]; omega); (have := HL.out; omega); intro v4 w4 H8))
  have K4 : Hid (Kp w w4 v4 (l ++ [oneC (-7)])) := ⟨by rw [List.map_append]; exact H8.out.1, K3.out.be.trans H8.out.2⟩
  clear H7 H8 K3
  obtain ⟨g, cap4, hv4, hc4, hg4, hg5⟩ := K4.out.ow.form (by rw [List.length_map, List.length_append]; simp)
  rw [List.length_map, List.length_append, HN.out] at hv4 hc4
  have e1 : n + [oneC (-7)].length = n1 := by rw [HL.out.2.2.2]; rfl
  rw [e1] at hv4 hc4
  subst hv4
  have hcap : (n : Int) ≤ cap4 := by omega
  have HG : Hid (w.heap.size ≤ g ∧ g < w4.heap.size) := ⟨hg4, hg5⟩
  clear hg4 hg5 hc4 e1
  obtain ⟨xs, hxs⟩ : ∃ xs, l ++ [oneC (-7)] = xs := ⟨_, rfl⟩
  rw [hxs] at K4
  have HXS : Hid (l ++ [oneC (-7)] = xs) := hxs
  clear hxs
  have HTk : Hid (∀ u, Kp w u (.slice (some ⟨g, 0, none⟩) n1 cap4) xs → Rk u.heap.size u 7 (.slice (some ⟨g, 0, none⟩) n cap4) (l.map cnL)) := fun u hu => by
    have := hu.ow.rk.take n (by rw [List.length_map, ← HXS.out, List.length_append, HN.out]; omega)
    rw [← List.map_take, ← HXS.out, List.take_append_of_le_length (by rw [HN.out]; exact Nat.le_refl _), List.take_of_length_le (by rw [HN.out]; exact Nat.le_refl _)] at this
    exact this
  obtain ⟨A, hA⟩ : ∃ A, mA (mtL l) = A := ⟨_, rfl⟩
  obtain ⟨B, hB⟩ : ∃ B, mB (mtL l) = B := ⟨_, rfl⟩
  obtain ⟨X, hX⟩ : ∃ X, (mtL l).isSome = X := ⟨_, rfl⟩
  have CM : Hid (∀ u, Kp w u (.slice (some ⟨g, 0, none⟩) n1 cap4) xs → Calls Try.prog 10 #[.slice (some ⟨g, 0, none⟩) n cap4] u fun e w' => e = .returned (.tuple #[.int .i64 A, .int .i64 B, .bool X]) ∧ Hid (Below u.heap.size u w')) := fun u hu => by
    rw [← hA, ← hB, ← hX]
    exact meet_any _ l u u.heap.size (HTk.out u hu) (Nat.le_refl _) HL.out.2.1
  have CR : Hid (∀ u, Kp w u (.slice (some ⟨g, 0, none⟩) n1 cap4) xs → Calls Try.prog 19 #[.slice ao n cap] u fun e w' => e = .returned (.tuple #[.int .i64 A, .int .i64 B, .bool X]) ∧ Hid (Below u.heap.size u w')) := fun u hu => by
    rw [← hA, ← hB, ← hX]
    exact rmeet_any _ l u w.heap.size (H0.out.1.below hu.be (Nat.le_refl _)) hu.be.size HL.out.2.1
  have CS : Hid (∀ u, Kp w u (.slice (some ⟨g, 0, none⟩) n1 cap4) xs → Calls Try.prog 12 #[.slice (some ⟨g, 0, none⟩) n cap4] u fun e w' => ∃ s, e = .returned s ∧ Hid (OR w' u.heap.size 26 7 s ((sv l).map cnL)) ∧ Hid (Below u.heap.size u w')) := fun u hu => survivors_any _ l u u.heap.size (HTk.out u hu) (Nat.le_refl _) HL.out.2.1
  have CT : Hid (∀ u, Kp w u (.slice (some ⟨g, 0, none⟩) n1 cap4) xs → Calls Try.prog 20 #[.slice ao n cap] u fun e w' => ∃ s, e = .returned s ∧ Hid (OR w' u.heap.size 26 7 s ((sv l).map cnL)) ∧ Hid (Below u.heap.size u w')) := fun u hu => rsurvivors_any _ l u w.heap.size (H0.out.1.below hu.be (Nat.le_refl _)) hu.be.size HL.out.2.1
  clear hA hB hX
  have hAA : (A != A) = false := by simp
  have hBB : (B != B) = false := by simp
  have hXX : (X != X) = false := by simp
  go_wp2_with fail
  refine (CM.out _ K4.out).mono ?_
  rintro e w5 ⟨rfl, hb5⟩
  have K5 : Hid (Kp w w5 (.slice (some ⟨g, 0, none⟩) n1 cap4) xs) := K4.out.next hb5.out
  have HG5 : Hid (g < w5.heap.size) := Nat.lt_of_lt_of_le HG.out.2 hb5.out.size
  clear hb5 K4 CM
  go_wp2_with fail
  refine (CR.out _ K5.out).mono ?_
  rintro e w6 ⟨rfl, hb6⟩
  have K6 : Hid (Kp w w6 (.slice (some ⟨g, 0, none⟩) n1 cap4) xs) := K5.out.next hb6.out
  have HG6 : Hid (g < w6.heap.size) := Nat.lt_of_lt_of_le HG5.out hb6.out.size
  clear hb6 K5 CR
  go_wp2_with fail
  refine (CS.out _ K6.out).mono ?_
  rintro e w7 ⟨s, rfl, O7, hb7⟩
  have K7 : Hid (Kp w w7 (.slice (some ⟨g, 0, none⟩) n1 cap4) xs) := K6.out.next hb7.out
  have HG7 : Hid (g < w7.heap.size) := Nat.lt_of_lt_of_le HG6.out hb7.out.size
  have OS : Hid (OR w7 w.heap.size 26 7 s ((sv l).map cnL) ∧ s.ownBlock ≠ some g) := ⟨O7.out.mono K6.out.be.size, fun e => by have := (O7.out.ownlt g e).1; have := HG6.out; omega⟩
  clear hb7 O7 K6 CS
  go_wp2_with fail
  refine (CT.out _ K7.out).mono ?_
  rintro e w8 ⟨t, rfl, O8, hb8⟩
  have K8 : Hid (Kp w w8 (.slice (some ⟨g, 0, none⟩) n1 cap4) xs) := K7.out.next hb8.out
  have OT : Hid (OR w8 w.heap.size 26 7 s ((sv l).map cnL) ∧ s.ownBlock ≠ some g ∧ OR w8 w.heap.size 26 7 t ((sv l).map cnL) ∧ t.ownBlock ≠ some g) := ⟨OS.out.1.below hb8.out (Nat.le_refl _), OS.out.2, O8.out.mono K7.out.be.size, fun e => by have := (O8.out.ownlt g e).1; have := HG7.out; omega⟩
  have CC : Hid (Calls Try.prog 11 #[s, t] w8 fun e w' => e = .returned (.bool true) ∧ Below w8.heap.size w8 w') := sameCands_any s t (sv l) w8 _ _ OT.out.1.rk OT.out.2.2.1.rk (Nat.le_trans (sv_le l) (by omega))
  clear hb8 O8 K7 CT OS
  go_wp2_with fail
  refine CC.out.mono ?_
  rintro e w9 ⟨rfl, hb9⟩
  have K9 : Hid (Kp w w9 (.slice (some ⟨g, 0, none⟩) n1 cap4) xs) := K8.out.next hb9
  have OU : Hid (OR w9 w.heap.size 26 7 s ((sv l).map cnL) ∧ s.ownBlock ≠ some g ∧ OR w9 w.heap.size 26 7 t ((sv l).map cnL) ∧ t.ownBlock ≠ some g) := ⟨OT.out.1.below hb9 (Nat.le_refl _), OT.out.2.1, OT.out.2.2.1.below hb9 (Nat.le_refl _), OT.out.2.2.2⟩
  have CD : Hid (Calls Try.prog 11 #[.slice (some ⟨g, 0, none⟩) n cap4, .slice ao n cap] w9 fun e w' => e = .returned (.bool true) ∧ Below w9.heap.size w9 w') := sameCands_any _ _ l w9 _ _ (HTk.out w9 K9.out) (H0.out.1.below K9.out.be (Nat.le_refl _)) HL.out.2.1
  clear hb9 K8 CC OT
  go_wp2_with fail
  refine CD.out.mono ?_
  rintro e w10 ⟨rfl, hb10⟩
  have K10 : Hid (Kp w w10 (.slice (some ⟨g, 0, none⟩) n1 cap4) xs) := K9.out.next hb10
  have OV : Hid (OR w10 w.heap.size 26 7 s ((sv l).map cnL) ∧ s.ownBlock ≠ some g ∧ OR w10 w.heap.size 26 7 t ((sv l).map cnL) ∧ t.ownBlock ≠ some g) := ⟨OU.out.1.below hb10 (Nat.le_refl _), OU.out.2.1, OU.out.2.2.1.below hb10 (Nat.le_refl _), OU.out.2.2.2⟩
  have hix := ix_ownC (g := g) n1 cap4 n (by omega)
  have c0 : w10.cell? ⟨g, n * 7, none⟩ = some (.int .i64 (-7)) := by
    have h1 := K10.out.ow.at n (by rw [List.length_map, ← HXS.out, List.length_append, HN.out]; simp) 0 (.int .i64 (-7)) (by
      rw [List.getD_eq_getElem?_getD, List.getElem?_map, ← HXS.out, List.getElem?_append_right (by rw [HN.out]; exact Nat.le_refl _), HN.out, Nat.sub_self]
      rfl)
    rw [add_at] at h1
    exact h1
  clear hb10 K9 CD OU
  go_wp2_with fail
  go_loopw [12] (fun i wr => ∃ (k : Nat), i = .int .i64 k ∧ (k : Int) ≤ n1 ∧ Hid (Kt w wr g n1 cap4 s t (sv l))) (fun i _ => n1 - (intOf i).toNat)
  case atStart => exact ⟨0, rfl, by omega, ⟨⟨xs.map cnL, by rw [List.length_map, ← HXS.out, List.length_append, HN.out, HL.out.2.2.2]; rfl, K10.out.ow⟩, K10.out.be, OV.out.1, OV.out.2.2.1, OV.out.2.1, OV.out.2.2.2, HG.out.1⟩⟩
  case round =>
    obtain ⟨k, rfl, hk, HK⟩ := hrel
    clear hix c0 K10 OV
    by_cases hlt : (k : Int) < n1
    · obtain ⟨rows, hrl, hro⟩ := HK.out.ow
      have HO3 : Hid (OR wr w.heap.size 26 7 (.slice (some ⟨g, 0, none⟩) rows.length cap4) rows ∧ k < rows.length ∧ rows.length = n1) := ⟨by rw [hrl]; exact hro, by rw [hrl]; omega, hrl⟩
      have hix := ix_ownC (g := g) n1 cap4 k hlt
      clear hro hrl
      go_wp2_with (first
        | (refine step_bdL (by rfl) 26 [(0, _)] rfl [(0, .int .i64 (-9))] (by rfl) _ (run_b1 (-9) wr) ?_)
        | (refine wpList_stk rfl 26 _ _ rfl k (cnL (oneC (-9))) HO3.out.1 (by kernel_rfl) (by rfl) (by rfl) HO3.out.2.1 rfl (cnL_one _) ?_; intro w7 ho7 hg7 hz7))
      have HK7 : Hid (Kt w w7 g n1 cap4 s t (sv l)) := by
        have h1 := HK.out
        refine ⟨⟨rows.set k (cnL (oneC (-9))), by rw [List.length_set]; exact HO3.out.2.2, by rw [← HO3.out.2.2]; exact ho7⟩, ?_, h1.os.mod hg7 h1.ns, h1.ot.mod hg7 h1.nt, h1.ns, h1.nt, h1.gw⟩
        exact h1.be.trans ⟨hg7.os, hg7.tape, hg7.output, hg7.size, fun b hb => hg7.block b (by have := h1.be.size; omega) (fun e => by injection e with e; have := h1.gw; omega)⟩
      clear ho7 hg7 hz7 HO3
      go_roundw
      case rel => exact ⟨k + 1, by go_num, by omega, HK7⟩
      case measure => (simp [intOf]; try omega)
    · obtain ⟨w11, hw11⟩ : ∃ w11, w11 = wr := ⟨_, rfl⟩
      subst hw11
      have CC : Hid (Calls Try.prog 11 #[s, t] w11 fun e w' => e = .returned (.bool true) ∧ Below w11.heap.size w11 w') := sameCands_any s t (sv l) w11 _ _ HK.out.os.rk HK.out.ot.rk (Nat.le_trans (sv_le l) (by omega))
      go_wp2_with fail
      refine CC.out.mono ?_
      rintro e w12 ⟨rfl, hb12⟩
      have HE : Hid (Below w.heap.size w w12) := below_thru HK.out.be hb12
      clear hb12 CC
      go_wp2_with fail
      rw [hQ.out]
      go_ret
      exact ⟨rfl, HE.out⟩
end Go.Proofs.Ytepbbaeamlimaaa
