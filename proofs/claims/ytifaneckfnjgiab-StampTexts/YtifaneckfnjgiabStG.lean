/- What Print and Parse of package stamp return, for every input. -/
import Derived.Test.YtifaneckfnjgiabStD
import Derived.Test.YtifaneckfnjgiabStF
import Derived.WalkKit
import Derived.WalkSpells
import Derived.WalkLawsBesides
import Derived.Handy
import Derived.Below
namespace Go.Proofs.Ytifaneckfnjgiab
open Go.RowKit
def noP : Value := .tuple #[.string ⟨#[]⟩, .int .i64 20]
def yesP (a : Nat → Int) : Value := .tuple #[.string ⟨(Tx.txt a).toArray⟩, .int .i64 0]
theorem ret_eq {a b : Value} (h : a = b) : Ending.returned a = .returned b := by rw [h]
set_option maxHeartbeats 400000 in
theorem print_no (era t : Int) (w : World) (t0 : 0 ≤ t) (t1 : t < 18446744073709551616) (h : ds era t < 0 ∨ 66269577600 ≤ ds era t) :
    Calls Try.prog 12 #[.agg #[.int .i64 era, .int .u64 t]] w fun e w' => e = .returned noP ∧ Below w.heap.size w w' := by
  have H : Hid (ds era t < 0 ∨ 66269577600 ≤ ds era t) := h
  clear h
  go_enter Try.func12, Try.ntmps12
  go_wp2_with fail
  refine (ofDate_no era t _ t0 t1 H.out).mono ?_
  rintro e w1 ⟨rfl, hb⟩
  have hB : Hid (Below w.heap.size w w1) := by
    refine Below.trans ?_ (hb.mono (by simp))
    exact (by repeat' (first | with_reducible exact Below.refl _ _ | with_reducible refine Below.setCell ?_ (by first | (simp; done) | (simp; omega) | omega) _ | with_reducible refine below_drewN ?_ _ | with_reducible refine Below.drew ?_ | with_reducible refine Below.alloc ?_ (by first | (simp; done) | (simp; omega) | omega) _))
  have hz : w.heap.size < w1.heap.size := by have := hb.size; simp at this; omega
  clear hb
  unfold noC
  go_wp2
  go_ret2
  exact ⟨rfl, (by repeat' (first | with_reducible exact Below.refl _ _ | with_reducible exact hB.out | with_reducible refine Below.setCell ?_ (by first | (simp; done) | (simp; omega) | omega) _ | with_reducible refine below_drewN ?_ _ | with_reducible refine Below.drew ?_ | with_reducible refine Below.alloc ?_ (by first | (simp; done) | (simp; omega) | omega) _))⟩
theorem mill (f : Int) (h0 : 0 ≤ f) (h1 : f < 4294967296) : 0 ≤ f * 1000000 / 4294967296 ∧ f * 1000000 / 4294967296 ≤ 999999 := by omega
theorem day_bd {y m d : Int} (h : Cal.Day y m d) : 1 ≤ y ∧ y ≤ 2100 ∧ 1 ≤ m ∧ m ≤ 12 ∧ 1 ≤ d ∧ d ≤ 31 := by
  obtain ⟨h1, h2, h3, h4, h5, h6⟩ := h
  have := Cal.dim_bd y m
  omega
set_option maxHeartbeats 1000000 in
theorem print_yes (era t : Int) (w : World) (t0 : 0 ≤ t) (t1 : t < 18446744073709551616) (h0 : 0 ≤ ds era t) (h1 : ds era t < 66269577600) :
    Calls Try.prog 12 #[.agg #[.int .i64 era, .int .u64 t]] w fun e w' => ∃ y m d h n s : Int, e = .returned (yesP (nums y m d h n s (t % 4294967296 * 1000000 / 4294967296))) ∧ Cal.Day y m d ∧ Cal.Time h n s ∧ Cal.sec y m d h n s = ds era t ∧ Below w.heap.size w w' := by
  obtain ⟨S, hS⟩ : ∃ S, S = ds era t := ⟨_, rfl⟩
  have HS : Hid (S = ds era t) := hS
  rw [← hS] at h0 h1 ⊢
  clear hS
  go_enter Try.func12, Try.ntmps12
  go_wp2_with fail
  refine (ofDate_yes era t _ t0 t1 (by rw [← HS.out]; exact h0) (by rw [← HS.out]; exact h1)).mono ?_
  rintro e w1 ⟨y, m, d, h, n, s, rfl, hd, ht, hs, hb⟩
  have hB : Hid (Below w.heap.size w w1) := by
    refine Below.trans ?_ (hb.mono (by simp))
    exact (by repeat' (first | with_reducible exact Below.refl _ _ | with_reducible refine Below.setCell ?_ (by first | (simp; done) | (simp; omega) | omega) _ | with_reducible refine below_drewN ?_ _ | with_reducible refine Below.drew ?_ | with_reducible refine Below.alloc ?_ (by first | (simp; done) | (simp; omega) | omega) _))
  have hz : w.heap.size < w1.heap.size := by have := hb.size; simp at this; omega
  have HD : Hid (Cal.Day y m d ∧ Cal.Time h n s ∧ Cal.sec y m d h n s = S) := ⟨hd, ht, by rw [hs, HS.out]⟩
  obtain ⟨f, hf⟩ : ∃ f, f = t % 4294967296 := ⟨_, rfl⟩
  rw [← hf]
  have f0 : 0 ≤ f := by omega
  have f1 : f < 4294967296 := by omega
  have HF : Hid (f = t % 4294967296) := hf
  clear hb hd ht hs hf
  unfold yesC
  go_wp2_with fail
  refine (write_any y m d h n s (f * 1000000 / 4294967296) _ ?_).mono ?_
  · obtain ⟨k1, k2, k3, k4, k5, k6⟩ := day_bd HD.out.1
    obtain ⟨l1, l2, l3, l4, l5, l6⟩ := HD.out.2.1
    obtain ⟨g1, g2⟩ := mill f f0 f1
    exact nums_bd (by omega) (by omega) (by omega) (by omega) (by omega) (by omega) l1 (by omega) l3 (by omega) l5 (by omega) g1 g2
  · rintro e w2 ⟨rfl, hb⟩
    have hB2 : Hid (Below w.heap.size w w2) := by
      refine Below.trans ?_ (hb.mono (by simp; omega))
      exact (by repeat' (first | with_reducible exact Below.refl _ _ | with_reducible exact hB.out | with_reducible refine Below.setCell ?_ (by first | (simp; done) | (simp; omega) | omega) _ | with_reducible refine below_drewN ?_ _ | with_reducible refine Below.drew ?_ | with_reducible refine Below.alloc ?_ (by first | (simp; done) | (simp; omega) | omega) _))
    clear hb
    go_wp2
    go_ret2
    exact ⟨y, m, d, h, n, s, by rw [← HF.out]; rfl, HD.out.1, HD.out.2.1, HD.out.2.2, hB2.out⟩
set_option maxHeartbeats 400000 in
theorem parse_bad (s : ByteArray) (w : World) (h : ¬ OkS s) :
    Calls Try.prog 10 #[.string s] w fun e w' => e = .returned (noD 21) ∧ Below w.heap.size w w' := by
  have HV : Hid (rdV s = noN) := by show _ = _; unfold rdV; rw [okS_f h]; rfl
  clear h
  go_enter Try.func10, Try.ntmps10
  go_wp2_with fail
  refine (read_any s _).mono ?_
  rintro e w1 ⟨rfl, hb⟩
  rw [HV.out]
  obtain ⟨hcl, hfr⟩ := bcell hb
  have hz : w.heap.size < w1.heap.size := by have := hb.size; simp at this; omega
  have hB : Hid (Below w.heap.size w w1) := by
    refine Below.trans ?_ (hb.mono (by simp))
    exact (by repeat' (first | with_reducible exact Below.refl _ _ | with_reducible refine Below.setCell ?_ (by first | (simp; done) | (simp; omega) | omega) _ | with_reducible refine below_drewN ?_ _ | with_reducible refine Below.drew ?_ | with_reducible refine Below.alloc ?_ (by first | (simp; done) | (simp; omega) | omega) _))
  have r0 : w1.cell? ⟨w.heap.size, 0, none⟩ = some (.int .i64 0) := by rw [hcl _ _ (by simp)]; simp
  have r1 : w1.cell? ⟨w.heap.size, 1, none⟩ = some (.int .u64 0) := by rw [hcl _ _ (by simp)]; simp
  have rf : ∀ o, w1.frozen? ⟨w.heap.size, o, none⟩ = false := fun o => by rw [hfr _ _ (by simp)]; simp
  clear hcl hfr hb
  unfold noN
  go_simp
  repeat (first | go_values | go_skip | go_guarded | go_step | go_upon)
  exact bodyPost_ret (v := noD 21) (by simp [results, Try.results10, go_sem, noD, r0, r1, hz]) rfl ⟨rfl, (by repeat' (first | with_reducible exact Below.refl _ _ | with_reducible exact hB.out | with_reducible refine Below.setCell ?_ (by first | (simp; done) | (simp; omega) | omega) _ | with_reducible refine below_drewN ?_ _ | with_reducible refine Below.drew ?_ | with_reducible refine Below.alloc ?_ (by first | (simp; done) | (simp; omega) | omega) _))⟩
theorem frac_bd (u : Int) (h0 : 0 ≤ u) (h1 : u ≤ 999999) : 0 ≤ (u * 4294967296 + 999999) / 1000000 ∧ (u * 4294967296 + 999999) / 1000000 < 4294967296 := by omega
/-- what a text that has the form says -/
def pE (b : Nat → Int) : Int := dE (Tx.nv b 26 0) (Tx.nv b 26 1) (Tx.nv b 26 2) (Tx.nv b 26 3) (Tx.nv b 26 4) (Tx.nv b 26 5)
def pT (b : Nat → Int) : Int := dT (Tx.nv b 26 0) (Tx.nv b 26 1) (Tx.nv b 26 2) (Tx.nv b 26 3) (Tx.nv b 26 4) (Tx.nv b 26 5) ((Tx.nv b 26 6 * 4294967296 + 999999) / 1000000)
def pC (b : Nat → Int) : Int := dC (Tx.nv b 26 0) (Tx.nv b 26 1) (Tx.nv b 26 2) (Tx.nv b 26 3) (Tx.nv b 26 4) (Tx.nv b 26 5)
set_option maxHeartbeats 1000000 in
theorem parse_good (s : ByteArray) (w : World) (h : OkS s) :
    Calls Try.prog 10 #[.string s] w fun e w' => e = .returned (.tuple #[.agg #[.int .i64 (pE (Tx.bt s)), .int .u64 (pT (Tx.bt s))], .int .i64 (pC (Tx.bt s))]) ∧ Below w.heap.size w w' := by
  have HV : Hid (rdV s = yesN (Tx.bt s)) := by show _ = _; unfold rdV; rw [okS_t h]; rfl
  obtain ⟨u, hu⟩ : ∃ u, u = Tx.nv (Tx.bt s) 26 6 := ⟨_, rfl⟩
  have hub := Tx.nv_lt h.2 (by omega) 6 (by omega)
  rw [← hu] at hub
  obtain ⟨u0, u1⟩ := hub
  have HU : Hid (u = Tx.nv (Tx.bt s) 26 6) := hu
  clear h hu
  go_enter Try.func10, Try.ntmps10
  go_wp2_with fail
  refine (read_any s _).mono ?_
  rintro e w1 ⟨rfl, hb⟩
  rw [HV.out]
  obtain ⟨hcl, hfr⟩ := bcell hb
  have hz : w.heap.size < w1.heap.size := by have := hb.size; simp at this; omega
  have hB : Hid (Below w.heap.size w w1) := by
    refine Below.trans ?_ (hb.mono (by simp))
    exact (by repeat' (first | with_reducible exact Below.refl _ _ | with_reducible refine Below.setCell ?_ (by first | (simp; done) | (simp; omega) | omega) _ | with_reducible refine below_drewN ?_ _ | with_reducible refine Below.drew ?_ | with_reducible refine Below.alloc ?_ (by first | (simp; done) | (simp; omega) | omega) _))
  have r0 : w1.cell? ⟨w.heap.size, 0, none⟩ = some (.int .i64 0) := by rw [hcl _ _ (by simp)]; simp
  have r1 : w1.cell? ⟨w.heap.size, 1, none⟩ = some (.int .u64 0) := by rw [hcl _ _ (by simp)]; simp
  have rf : ∀ o, w1.frozen? ⟨w.heap.size, o, none⟩ = false := fun o => by rw [hfr _ _ (by simp)]; simp
  clear hcl hfr hb
  unfold yesN
  rw [← HU.out]
  go_wp2_with fail
  have e1 : u * 4294967296 + 1000000 - 1 = u * 4294967296 + 999999 := by omega
  rw [e1]
  clear e1
  obtain ⟨f, hf⟩ : ∃ f, f = (u * 4294967296 + 999999) / 1000000 := ⟨_, rfl⟩
  rw [← hf]
  have HF : Hid (f = (u * 4294967296 + 999999) / 1000000) := hf
  have f0 : 0 ≤ f := by omega
  have f1 : f < 4294967296 := by omega
  clear hf
  refine (toDate_any _ _ _ _ _ _ f _ f0 f1).mono ?_
  rintro e w2 ⟨rfl, hb⟩
  have hB2 : Hid (Below w.heap.size w w2) := by
    refine Below.trans ?_ (hb.mono (by simp; omega))
    exact (by repeat' (first | with_reducible exact Below.refl _ _ | with_reducible exact hB.out | with_reducible refine Below.setCell ?_ (by first | (simp; done) | (simp; omega) | omega) _ | with_reducible refine below_drewN ?_ _ | with_reducible refine Below.drew ?_ | with_reducible refine Below.alloc ?_ (by first | (simp; done) | (simp; omega) | omega) _))
  have s0 : w2.cell? ⟨w.heap.size, 0, none⟩ = some (.int .i64 0) := by rw [hb.cell (by simp; omega), World.cell?_alloc_lt (h := by simpa using hz)]; exact r0
  have s1 : w2.cell? ⟨w.heap.size, 1, none⟩ = some (.int .u64 0) := by rw [hb.cell (by simp; omega), World.cell?_alloc_lt (h := by simpa using hz)]; exact r1
  have sf : ∀ o, w2.frozen? ⟨w.heap.size, o, none⟩ = false := fun o => by rw [hb.frozen (by simp; omega), World.frozen?_alloc_old (h := by simp; omega)]; exact rf o
  clear hb r0 r1 rf
  have E1 : Hid (dE (Tx.nv (Tx.bt s) 26 0) (Tx.nv (Tx.bt s) 26 1) (Tx.nv (Tx.bt s) 26 2) (Tx.nv (Tx.bt s) 26 3) (Tx.nv (Tx.bt s) 26 4) (Tx.nv (Tx.bt s) 26 5) = pE (Tx.bt s)) := rfl
  have E2 : Hid (dT (Tx.nv (Tx.bt s) 26 0) (Tx.nv (Tx.bt s) 26 1) (Tx.nv (Tx.bt s) 26 2) (Tx.nv (Tx.bt s) 26 3) (Tx.nv (Tx.bt s) 26 4) (Tx.nv (Tx.bt s) 26 5) f = pT (Tx.bt s)) := by show _ = _; rw [HF.out, HU.out]; rfl
  have E3 : Hid (dC (Tx.nv (Tx.bt s) 26 0) (Tx.nv (Tx.bt s) 26 1) (Tx.nv (Tx.bt s) 26 2) (Tx.nv (Tx.bt s) 26 3) (Tx.nv (Tx.bt s) 26 4) (Tx.nv (Tx.bt s) 26 5) = pC (Tx.bt s)) := rfl
  rw [E1.out, E2.out, E3.out]
  go_simp
  repeat (first | go_values | go_skip | go_guarded | go_step | go_upon)
  exact bodyPost_ret (v := .tuple #[.agg #[.int .i64 (pE (Tx.bt s)), .int .u64 (pT (Tx.bt s))], .int .i64 (pC (Tx.bt s))]) (by simp [results, Try.results10, go_sem, s0, s1]) rfl ⟨rfl, (by repeat' (first | with_reducible exact Below.refl _ _ | with_reducible exact hB2.out | with_reducible refine Below.setCell ?_ (by first | (simp; done) | (simp; omega) | omega) _ | with_reducible refine below_drewN ?_ _ | with_reducible refine Below.drew ?_ | with_reducible refine Below.alloc ?_ (by first | (simp; done) | (simp; omega) | omega) _))⟩
end Go.Proofs.Ytifaneckfnjgiab
