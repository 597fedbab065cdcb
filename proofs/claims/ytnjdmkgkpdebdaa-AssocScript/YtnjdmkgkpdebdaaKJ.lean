/- assoc: Heard, Hops. -/
import Derived.Test.YtnjdmkgkpdebdaaKI
namespace Go.Proofs.Ytnjdmkgkpdebdaa
open Go Go.RowKit Go.Sort
set_option linter.unusedVariables false
/-- what a call on the table writes: the table's blocks alone, and new ones -/
structure Fm (w w' : World) (q : Nat) (ms : List (Option Mb)) : Prop where
  os : w'.os = w.os
  tape : w'.tape = w.tape
  output : w'.output = w.output
  size : w.heap.size ≤ w'.heap.size
  block : ∀ k, k < w.heap.size → k ≠ q → (∀ (i : Nat) m, ms[i]? = some (some m) → m.b ≠ k) → w'.heap[k]? = w.heap[k]?
theorem Fm.ofq {w w' : World} {q : Nat} {ms : List (Option Mb)} (h : w.grownBy w' (some q)) : Fm w w' q ms :=
  ⟨h.os, h.tape, h.output, h.size, fun k hk hne _ => h.block k hk (fun e => hne (Option.some.inj e))⟩
theorem Fm.ofm {w w' : World} {q : Nat} {ms : List (Option Mb)} {i : Nat} {m : Mb} (hm : ms[i]? = some (some m)) (h : w.grownBy w' (some m.b)) : Fm w w' q ms :=
  ⟨h.os, h.tape, h.output, h.size, fun k hk _ hne => h.block k hk (fun e => hne i m hm (Option.some.inj e).symm)⟩
theorem Fm.ofb {w w' : World} {q : Nat} {ms : List (Option Mb)} (h : Below w.heap.size w w') : Fm w w' q ms :=
  ⟨h.os, h.tape, h.output, h.size, fun k hk _ _ => h.block k hk⟩
theorem Tb.upd {w w' : World} {q : Nat} {ms : List (Option Mb)} (h : Tb w q ms) {i : Nat} {m m' : Mb} (hm : ms[i]? = some (some m)) (hb : m'.b = m.b) (hid : m'.id = m.id) (hk : Bk m.b w' (mbL m').toArray 77) (hg : w.grownBy w' (some m.b)) : Tb w' q (ms.set i (some m')) := by
  have k0 := h.mem i m hm
  have hptr : (ms.set i (some m')).map ptr = ms.map ptr := by
    have hi : i < ms.length := by
      rcases Nat.lt_or_ge i ms.length with h | h
      · exact h
      · rw [List.getElem?_eq_none h] at hm; cases hm
    rw [List.map_set]
    refine List.ext_getElem? fun j => ?_
    rw [List.getElem?_set]
    split
    · rename_i e
      subst e
      rw [List.getElem?_map, hm]
      simp [hi, ptr, hb]
    · rfl
  refine ⟨?_, by rw [List.length_set]; exact h.len, fun j n hj => ?_, fun j l n o hj hl e => ?_⟩
  · rw [hptr]
    exact h.tab.kept (hg.block _ h.tab.lt (fun e => k0.2.1 (Option.some.inj e).symm))
  · rw [List.getElem?_set] at hj
    split at hj
    · rename_i e
      subst e
      split at hj
      · injection hj with hj
        injection hj with hj
        subst hj
        exact ⟨by rw [hb]; exact hk, by rw [hb]; exact k0.2.1, by rw [hid]; exact k0.2.2⟩
      · cases hj
    · rename_i e
      have k1 := h.mem j n hj
      exact ⟨k1.1.kept (hg.block _ k1.1.lt (fun e' => e (h.inj i j m n hm hj (Option.some.inj e').symm))), k1.2⟩
  · have key : ∀ (j : Nat) n, (ms.set i (some m'))[j]? = some (some n) → ∃ n0, ms[j]? = some (some n0) ∧ n0.b = n.b := fun j n hj => by
      rw [List.getElem?_set] at hj
      split at hj
      · rename_i e
        subst e
        split at hj
        · injection hj with hj
          injection hj with hj
          subst hj
          exact ⟨m, hm, hb.symm⟩
        · cases hj
      · exact ⟨n, hj, rfl⟩
    obtain ⟨n0, a1, a2⟩ := key j n hj
    obtain ⟨o0, b1, b2⟩ := key l o hl
    exact h.inj j l n0 o0 a1 b1 (by rw [a2, b2]; exact e)
def heM (m : Mb) (now : Int) : Mb := if m.ends = 0 then m else { m with ends := ltI now }
def heT (ms : List (Option Mb)) (id now : Int) : List (Option Mb) := match atM ms id with
  | none => ms
  | some m => ms.set (id - 1).toNat (some (heM m now))
theorem set_same {ms : List (Option Mb)} {i : Nat} {m : Mb} (h : ms[i]? = some (some m)) : ms.set i (some m) = ms := by
  refine List.ext_getElem? fun j => ?_
  rw [List.getElem?_set]
  split
  · rename_i e
    subst e
    split
    · exact h.symm
    · rename_i hl
      rw [List.getElem?_eq_none (by omega)] at h; cases h
  · rfl
set_option maxHeartbeats 1000000 in
theorem heard_any (q : Nat) (ms : List (Option Mb)) (id now : Int) (w : World) (h : Tb w q ms) (hn : -9223372036854775808 ≤ now) : Calls Try.prog 26 #[.pointer (some ⟨q, 0, none⟩), .int .i64 id, .int .i64 now] w fun e w' => e = .returned (.bool (atM ms id).isSome) ∧ Tb w' q (heT ms id now) ∧ Fm w w' q ms := by
  have HT : Hid (Tb w q ms) := h
  clear h
  unfold heT
  obtain ⟨x, hx⟩ : ∃ x, atM ms id = x := ⟨_, rfl⟩
  have HX : Hid (atM ms id = x) := hx
  rw [hx]
  clear hx
  go_enter Try.func26, Try.ntmps26
  refine post_hid fun Q hQ => ?_
  cases x with
  | none =>
    go_wp2_with (go_at_call 39; refine (at_any q ms id w HT.out).mono ?_; rintro e w1 ⟨rfl, hw1⟩; rw [HX.out, hw1]; unfold ptr; simp only)
    rw [hQ.out]
    go_ret
    exact ⟨rfl, HT.out, Fm.ofb (Below.refl _ _)⟩
  | some m =>
    obtain ⟨i, hi, hi2, hi3⟩ := atM_mem HX.out
    have HI : Hid (ms[i]? = some (some m) ∧ (id - 1).toNat = i) := ⟨hi, by omega⟩
    have HM : Hid (Bk m.b w (mbL m).toArray 77) := (HT.out.mem i m hi).1
    clear hi hi2 hi3
    have c14 : w.cell? ⟨m.b, 14, none⟩ = some (.int .i64 m.ends) := HM.out.cell 14
    by_cases h0 : m.ends = 0
    · rw [h0] at c14
      go_wp2_with (go_at_call 39; refine (at_any q ms id w HT.out).mono ?_; rintro e w1 ⟨rfl, hw1⟩; rw [HX.out, hw1]; unfold ptr; simp only)
      rw [hQ.out]
      go_ret
      refine ⟨rfl, ?_, Fm.ofb (Below.refl _ _)⟩
      unfold heM
      rw [if_pos h0, HI.out.2, set_same HI.out.1]
      exact HT.out
    · have h02 : (m.ends == 0) = false := by simpa using h0
      obtain ⟨E, hE⟩ : ∃ E, ltI now = E := ⟨_, rfl⟩
      have HE : Hid (ltI now = E) := hE
      clear hE
      go_wp2_with (first
        | (go_at_call 39; refine (at_any q ms id w HT.out).mono ?_; rintro e w1 ⟨rfl, hw1⟩; rw [HX.out, hw1]; unfold ptr; simp only)
        | (go_at_call 40; refine (later_any now _ hn).mono ?_; rintro e w5 ⟨rfl, hw5⟩; rw [HE.out, hw5]; clear hw5)
        | (refine step_st1 (by rfl) _ _ rfl m.b 14 (.int .i64 E) (by rfl) (by rfl) rfl (by kernel_rfl) rfl (mbL m) (by simp [mbL]) HM.out ?_; intro w6 H6))
      rw [hQ.out]
      go_ret
      refine ⟨rfl, ?_, Fm.ofm HI.out.1 H6.out.gr⟩
      unfold heM
      rw [if_neg h0, HI.out.2, HE.out]
      exact HT.out.upd (m' := { m with ends := E }) HI.out.1 rfl rfl H6.out.bk H6.out.gr
/-- how far the next request goes -/
def hoN (m : Mb) : Int := if m.ac.ttl ≤ m.hops then 1 else m.hops + 1
def hoB (ms : List (Option Mb)) (id : Int) : Bool := match atM ms id with
  | none => false
  | some m => decide (m.ac.kind = 5)
def hoR (ms : List (Option Mb)) (id : Int) : Int := match atM ms id with
  | none => 0
  | some m => if m.ac.kind = 5 then hoN m else 0
def hoT (ms : List (Option Mb)) (id : Int) : List (Option Mb) := match atM ms id with
  | none => ms
  | some m => if m.ac.kind = 5 then ms.set (id - 1).toNat (some { m with hops := hoN m }) else ms
set_option maxHeartbeats 1000000 in
theorem hops_any (q : Nat) (ms : List (Option Mb)) (id : Int) (w : World) (h : Tb w q ms) (hh : ∀ m, atM ms id = some m → 0 ≤ m.hops ∧ m.hops < 9223372036854775807) : Calls Try.prog 30 #[.pointer (some ⟨q, 0, none⟩), .int .i64 id] w fun e w' => e = .returned (.tuple #[.int .i64 (hoR ms id), .bool (hoB ms id)]) ∧ Tb w' q (hoT ms id) ∧ Fm w w' q ms := by
  have HT : Hid (Tb w q ms) := h
  clear h
  unfold hoT hoR hoB
  obtain ⟨x, hx⟩ : ∃ x, atM ms id = x := ⟨_, rfl⟩
  have HX : Hid (atM ms id = x) := hx
  rw [hx] at hh ⊢
  clear hx
  go_enter Try.func30, Try.ntmps30
  refine post_hid fun Q hQ => ?_
  cases x with
  | none =>
    go_wp2_with (go_at_call 39; refine (at_any q ms id w HT.out).mono ?_; rintro e w1 ⟨rfl, hw1⟩; rw [HX.out, hw1]; unfold ptr; simp only)
    rw [hQ.out]
    go_ret2
    exact ⟨rfl, HT.out, Fm.ofb (Below.refl _ _)⟩
  | some m =>
    obtain ⟨i, hi, hi2, hi3⟩ := atM_mem HX.out
    have HI : Hid (ms[i]? = some (some m) ∧ (id - 1).toNat = i) := ⟨hi, by omega⟩
    have HM : Hid (Bk m.b w (mbL m).toArray 77) := (HT.out.mem i m hi).1
    obtain ⟨hh0, hh1⟩ := hh m rfl
    clear hi hi2 hi3 hh
    have c1 : w.cell? ⟨m.b, 1, none⟩ = some (.int .i64 m.ac.kind) := HM.out.cell 1
    by_cases h5 : m.ac.kind = 5
    · rw [h5] at c1
      have H5k : Hid (m.ac.kind = 5) := h5
      clear h5
      have c15 : w.cell? ⟨m.b, 15, none⟩ = some (.int .i64 m.hops) := HM.out.cell 15
      have c9 : w.cell? ⟨m.b, 9, none⟩ = some (.int .i64 m.ac.ttl) := HM.out.cell 9
      have HR : Hid (∀ N W, hoN m = N → Bk m.b W (mbL { m with hops := N }).toArray 77 → w.grownBy W (some m.b) → Tb W q (ms.set (id - 1).toNat (some { m with hops := hoN m })) ∧ Fm w W q ms) := fun N W h1 h2 h3 => by
        rw [HI.out.2, h1]
        exact ⟨HT.out.upd (m' := { m with hops := N }) HI.out.1 rfl rfl h2 h3, Fm.ofm HI.out.1 h3⟩
      by_cases ht : m.ac.ttl ≤ m.hops
      · have HN : Hid (hoN m = 1) := by show _ = _; unfold hoN; rw [if_pos ht]
        go_upto_region 4 with (go_at_call 39; refine (at_any q ms id w HT.out).mono ?_; rintro e w1 ⟨rfl, hw1⟩; rw [HX.out, hw1]; unfold ptr; simp only)
        go_quiet (fail)
        rename_i nq
        go_wp2_with (first
          | (refine step_st1 (by rfl) _ _ rfl m.b 15 (.int .i64 0) (by rfl) (by rfl) rfl (by kernel_rfl) rfl (mbL m) (by simp [mbL]) HM.out ?_; intro w5 H5; have d15 : w5.cell? ⟨m.b, 15, none⟩ = some (.int .i64 0) := H5.out.bk.cell 15)
          | (refine step_st1 (by rfl) _ _ rfl m.b 15 (.int .i64 1) (by rfl) (by rfl) rfl (by kernel_rfl) rfl (mbL { m with hops := 0 }) (by simp [mbL]) H5.out.bk ?_; intro w6 H6; have e15 : w6.cell? ⟨m.b, 15, none⟩ = some (.int .i64 1) := H6.out.bk.cell 15))
        rw [hQ.out]
        go_ret2
        have F := HR.out 1 w6 HN.out H6.out.bk (grownBy_trans (grownBy_drewN w nq _) (grownBy_trans H5.out.gr H6.out.gr))
        simp only [if_pos H5k.out, decide_eq_true H5k.out, HN.out]
        rw [HN.out] at F
        exact ⟨rfl, F⟩
      · have HN : Hid (hoN m = m.hops + 1) := by show _ = _; unfold hoN; rw [if_neg ht]
        go_upto_region 4 with (go_at_call 39; refine (at_any q ms id w HT.out).mono ?_; rintro e w1 ⟨rfl, hw1⟩; rw [HX.out, hw1]; unfold ptr; simp only)
        go_quiet (fail)
        rename_i nq
        go_wp2_with (refine step_st1 (by rfl) _ _ rfl m.b 15 (.int .i64 (m.hops + 1)) (by rfl) (by rfl) rfl (by kernel_rfl) rfl (mbL m) (by simp [mbL]) HM.out ?_; intro w6 H6; have e15 : w6.cell? ⟨m.b, 15, none⟩ = some (.int .i64 (m.hops + 1)) := H6.out.bk.cell 15)
        rw [hQ.out]
        go_ret2
        have F := HR.out (m.hops + 1) w6 HN.out H6.out.bk (grownBy_trans (grownBy_drewN w nq _) H6.out.gr)
        simp only [if_pos H5k.out, decide_eq_true H5k.out, HN.out]
        rw [HN.out] at F
        exact ⟨rfl, F⟩
    · have h52 : (m.ac.kind == 5) = false := by simpa using h5
      go_wp2_with (go_at_call 39; refine (at_any q ms id w HT.out).mono ?_; rintro e w1 ⟨rfl, hw1⟩; rw [HX.out, hw1]; unfold ptr; simp only)
      rw [hQ.out]
      go_ret2
      exact ⟨by simp only [if_neg h5, decide_eq_false h5]; rfl, by simp only [if_neg h5]; exact HT.out, Fm.ofb (Below.refl _ _)⟩
end Go.Proofs.Ytnjdmkgkpdebdaa
