/- What flags, controlFits and CheckControl of package wire return. -/
import Derived.Test.YthimekdpclmddaaWC
import Derived.Test.YthimekdpclmddaaWBit
import Derived.Deep.QuietTactic
import Derived.BigQuiet
namespace Go.Proofs.Ythimekdpclmddaa
open Go.RowKit
theorem below_drewN {B : Nat} {a w : World} (h : Below B a w) (n : Nat) : Below B a (w.drewN n) := by
  induction n with
  | zero => exact h
  | succ n ih => exact ih.drew
/-- what was laid in a new block is there behind a callee -/
theorem box_cell {w w1 : World} {cs : Array Value} {T : TypeId} {C : Nat} (hb : Below C (w.alloc (.cells cs T)) w1) (hC : w.heap.size < C) (j : Nat) : w1.cell? ⟨w.heap.size, j, none⟩ = cs[j]? := by
  rw [hb.cell (p := ⟨w.heap.size, j, none⟩) hC, World.cell?_alloc_new]
theorem undrew {C : Nat} {v v' : World} (h : Below C v.drew v') : Below C v v' := ⟨h.os, h.tape, h.output, h.size, h.block⟩
/-- a block's cells -/
structure Ck (p : Nat) (v : World) (cs : Array Value) : Prop where
  lt : p < v.heap.size
  at_ : ∀ j, v.cell? ⟨p, j, none⟩ = cs[j]?
theorem Ck.below {p C : Nat} {v v' : World} {cs : Array Value} (h : Ck p v cs) (hb : Below C v v') (hC : p < C) : Ck p v' cs :=
  ⟨Nat.lt_of_lt_of_le h.lt hb.size, fun j => by rw [hb.cell (p := ⟨p, j, none⟩) hC]; exact h.at_ j⟩
theorem Ck.drew {p : Nat} {v : World} {cs : Array Value} (h : Ck p v cs) : Ck p v.drew cs := ⟨h.lt, h.at_⟩
theorem Ck.new (w : World) (cs : Array Value) (T : TypeId) : Ck w.heap.size (w.alloc (.cells cs T)) cs := ⟨by simp, fun j => World.cell?_alloc_new _ _ _ _⟩
theorem Ck.c12 {p : Nat} {v : World} {a0 a1 a2 a3 a4 a5 a6 a7 a8 a9 a10 a11 : Value} (h : Ck p v #[a0, a1, a2, a3, a4, a5, a6, a7, a8, a9, a10, a11]) :
    v.cell? ⟨p, 0, none⟩ = some a0 ∧ v.cell? ⟨p, 1, none⟩ = some a1 ∧ v.cell? ⟨p, 2, none⟩ = some a2 ∧ v.cell? ⟨p, 3, none⟩ = some a3 ∧ v.cell? ⟨p, 4, none⟩ = some a4 ∧ v.cell? ⟨p, 5, none⟩ = some a5 ∧ v.cell? ⟨p, 6, none⟩ = some a6 ∧ v.cell? ⟨p, 7, none⟩ = some a7 ∧ v.cell? ⟨p, 8, none⟩ = some a8 ∧ v.cell? ⟨p, 9, none⟩ = some a9 ∧ v.cell? ⟨p, 10, none⟩ = some a10 ∧ v.cell? ⟨p, 11, none⟩ = some a11 :=
  ⟨h.at_ 0, h.at_ 1, h.at_ 2, h.at_ 3, h.at_ 4, h.at_ 5, h.at_ 6, h.at_ 7, h.at_ 8, h.at_ 9, h.at_ 10, h.at_ 11⟩
def b01 (b : Bool) : Int := if b then 1 else 0
/-- the bits above Op, in units of 32 -/
def flg (r e m : Bool) : Int := 4 * b01 r + 2 * b01 e + b01 m
theorem flg_bd (r e m : Bool) : 0 ≤ flg r e m ∧ flg r e m < 8 := by cases r <;> cases e <;> cases m <;> decide
/-- a packet of control as a value -/
def ctV (ver : Int) (r e m : Bool) (op seq sta ass off : Int) (dv : Value) (key : Int) (mv : Value) : Value :=
  .agg #[.int .i64 ver, .bool r, .bool e, .bool m, .int .i64 op, .int .i64 seq, .int .i64 sta, .int .i64 ass, .int .i64 off, dv, .int .i64 key, mv]
set_option maxHeartbeats 1000000 in
theorem flags_any (ver : Int) (r e m : Bool) (op seq sta ass off : Int) (da : Option Addr) (dn dc : Nat) (key : Int) (ma : Option Addr) (mn mc : Nat) (w : World) :
    Calls Try.prog 58 #[ctV ver r e m op seq sta ass off (.slice da dn dc) key (.slice ma mn mc)] w fun e' w' => e' = .returned (.int .i64 (32 * flg r e m)) ∧ Below w.heap.size w w' := by
  have e1 : bits .or .i64 0 128 = 128 := by decide
  have e2 : bits .or .i64 0 64 = 64 := by decide
  have e3 : bits .or .i64 0 32 = 32 := by decide
  have e4 : bits .or .i64 128 64 = 192 := by decide
  have e5 : bits .or .i64 128 32 = 160 := by decide
  have e6 : bits .or .i64 64 32 = 96 := by decide
  have e7 : bits .or .i64 192 32 = 224 := by decide
  unfold ctV
  cases r <;> cases e <;> cases m
  all_goals
    go_enter Try.func58, Try.ntmps58
    go_wp2
    go_ret
    exact ⟨rfl, (by repeat' (first | with_reducible exact Below.refl _ _ | with_reducible refine Below.setCell ?_ (by first | (simp; done) | (simp; omega) | omega) _ | with_reducible refine below_drewN ?_ _ | with_reducible refine Below.drew ?_ | with_reducible refine Below.alloc ?_ (by first | (simp; done) | (simp; omega) | omega) _))⟩
/-- may the numbers be? -/
def cfB (ver op seq sta ass off : Int) : Bool := wiB seq 0 65535 && wiB sta 0 65535 && wiB ass 0 65535 && wiB off 0 65535 && wiB ver 1 4 && wiB op 0 31
set_option maxHeartbeats 2000000 in
theorem controlFits_any (ver : Int) (r e m : Bool) (op seq sta ass off : Int) (da : Option Addr) (dn dc : Nat) (key : Int) (ma : Option Addr) (mn mc : Nat) (w : World) :
    Calls Try.prog 61 #[ctV ver r e m op seq sta ass off (.slice da dn dc) key (.slice ma mn mc)] w fun e' w' => e' = .returned (.bool (cfB ver op seq sta ass off)) ∧ Below w.heap.size w w' := by
  unfold ctV
  go_enter Try.func61, Try.ntmps61
  go_wp2
  have i0 : ∀ (x y z u : Value) w, (Instr.index 88 (.agg #[x, y, z, u]) (.int .i64 0)).run Try.prog w = .ok x w := fun _ _ _ _ _ => by kernel_rfl
  have i1 : ∀ (x y z u : Value) w, (Instr.index 88 (.agg #[x, y, z, u]) (.int .i64 1)).run Try.prog w = .ok y w := fun _ _ _ _ _ => by kernel_rfl
  have i2 : ∀ (x y z u : Value) w, (Instr.index 88 (.agg #[x, y, z, u]) (.int .i64 2)).run Try.prog w = .ok z w := fun _ _ _ _ _ => by kernel_rfl
  have i3 : ∀ (x y z u : Value) w, (Instr.index 88 (.agg #[x, y, z, u]) (.int .i64 3)).run Try.prog w = .ok u w := fun _ _ _ _ _ => by kernel_rfl
  go_loopw [14] (fun i wr => ∃ (k : Int), i = .int .i64 k ∧ 0 ≤ k ∧ k ≤ 4 ∧ Hid (∀ j : Nat, (j : Int) < k → wiB ([seq, sta, ass, off].getD j 0) 0 65535 = true) ∧ wr = w.alloc (.cells #[.int .i64 ver, .bool r, .bool e, .bool m, .int .i64 op, .int .i64 seq, .int .i64 sta, .int .i64 ass, .int .i64 off, .slice da dn dc, .int .i64 key, .slice ma mn mc] 48)) (fun i _ => (4 - intOf i).toNat)
  case atStart => exact ⟨0, rfl, by omega, by omega, fun j hj => absurd hj (by omega), rfl⟩
  case round =>
    obtain ⟨k, rfl, hk0, hk, hA, rfl⟩ := hrel
    have hk5 : k = 0 ∨ k = 1 ∨ k = 2 ∨ k = 3 ∨ k = 4 := by omega
    clear hk hk0
    rcases hk5 with rfl | rfl | rfl | rfl | rfl
    · cases hx : wiB seq 0 65535
      · go_wp2_with (first | (go_at_call 65; refine (within_any _ _ _ _).mono ?_; rintro e' w' ⟨rfl, rfl⟩) | (go_at_call 49; refine (versionFits_any _ _).mono ?_; rintro e' w' ⟨rfl, rfl⟩))
        go_ret
        exact ⟨ret_bool' (by unfold cfB; rw [hx]; simp), (by repeat' (first | with_reducible exact Below.refl _ _ | with_reducible refine Below.setCell ?_ (by first | (simp; done) | (simp; omega) | omega) _ | with_reducible refine below_drewN ?_ _ | with_reducible refine Below.drew ?_ | with_reducible refine Below.alloc ?_ (by first | (simp; done) | (simp; omega) | omega) _))⟩
      · go_wp2_with (first | (go_at_call 65; refine (within_any _ _ _ _).mono ?_; rintro e' w' ⟨rfl, rfl⟩) | (go_at_call 49; refine (versionFits_any _ _).mono ?_; rintro e' w' ⟨rfl, rfl⟩))
        refine ⟨⟨1, rfl, by omega, by omega, fun j hj => ?_, trivial⟩, by simp [intOf]⟩
        rcases Nat.lt_or_ge j 0 with hl | hl
        · exact hA.out j (by omega)
        · have : j = 0 := by omega
          subst this
          exact hx
    · cases hx : wiB sta 0 65535
      · go_wp2_with (first | (go_at_call 65; refine (within_any _ _ _ _).mono ?_; rintro e' w' ⟨rfl, rfl⟩) | (go_at_call 49; refine (versionFits_any _ _).mono ?_; rintro e' w' ⟨rfl, rfl⟩))
        go_ret
        exact ⟨ret_bool' (by unfold cfB; rw [hx]; simp), (by repeat' (first | with_reducible exact Below.refl _ _ | with_reducible refine Below.setCell ?_ (by first | (simp; done) | (simp; omega) | omega) _ | with_reducible refine below_drewN ?_ _ | with_reducible refine Below.drew ?_ | with_reducible refine Below.alloc ?_ (by first | (simp; done) | (simp; omega) | omega) _))⟩
      · go_wp2_with (first | (go_at_call 65; refine (within_any _ _ _ _).mono ?_; rintro e' w' ⟨rfl, rfl⟩) | (go_at_call 49; refine (versionFits_any _ _).mono ?_; rintro e' w' ⟨rfl, rfl⟩))
        refine ⟨⟨2, rfl, by omega, by omega, fun j hj => ?_, trivial⟩, by simp [intOf]⟩
        rcases Nat.lt_or_ge j 1 with hl | hl
        · exact hA.out j (by omega)
        · have : j = 1 := by omega
          subst this
          exact hx
    · cases hx : wiB ass 0 65535
      · go_wp2_with (first | (go_at_call 65; refine (within_any _ _ _ _).mono ?_; rintro e' w' ⟨rfl, rfl⟩) | (go_at_call 49; refine (versionFits_any _ _).mono ?_; rintro e' w' ⟨rfl, rfl⟩))
        go_ret
        exact ⟨ret_bool' (by unfold cfB; rw [hx]; simp), (by repeat' (first | with_reducible exact Below.refl _ _ | with_reducible refine Below.setCell ?_ (by first | (simp; done) | (simp; omega) | omega) _ | with_reducible refine below_drewN ?_ _ | with_reducible refine Below.drew ?_ | with_reducible refine Below.alloc ?_ (by first | (simp; done) | (simp; omega) | omega) _))⟩
      · go_wp2_with (first | (go_at_call 65; refine (within_any _ _ _ _).mono ?_; rintro e' w' ⟨rfl, rfl⟩) | (go_at_call 49; refine (versionFits_any _ _).mono ?_; rintro e' w' ⟨rfl, rfl⟩))
        refine ⟨⟨3, rfl, by omega, by omega, fun j hj => ?_, trivial⟩, by simp [intOf]⟩
        rcases Nat.lt_or_ge j 2 with hl | hl
        · exact hA.out j (by omega)
        · have : j = 2 := by omega
          subst this
          exact hx
    · cases hx : wiB off 0 65535
      · go_wp2_with (first | (go_at_call 65; refine (within_any _ _ _ _).mono ?_; rintro e' w' ⟨rfl, rfl⟩) | (go_at_call 49; refine (versionFits_any _ _).mono ?_; rintro e' w' ⟨rfl, rfl⟩))
        go_ret
        exact ⟨ret_bool' (by unfold cfB; rw [hx]; simp), (by repeat' (first | with_reducible exact Below.refl _ _ | with_reducible refine Below.setCell ?_ (by first | (simp; done) | (simp; omega) | omega) _ | with_reducible refine below_drewN ?_ _ | with_reducible refine Below.drew ?_ | with_reducible refine Below.alloc ?_ (by first | (simp; done) | (simp; omega) | omega) _))⟩
      · go_wp2_with (first | (go_at_call 65; refine (within_any _ _ _ _).mono ?_; rintro e' w' ⟨rfl, rfl⟩) | (go_at_call 49; refine (versionFits_any _ _).mono ?_; rintro e' w' ⟨rfl, rfl⟩))
        refine ⟨⟨4, rfl, by omega, by omega, fun j hj => ?_, trivial⟩, by simp [intOf]⟩
        rcases Nat.lt_or_ge j 3 with hl | hl
        · exact hA.out j (by omega)
        · have : j = 3 := by omega
          subst this
          exact hx
    · have k0 := hA.out 0 (by omega)
      have k1 := hA.out 1 (by omega)
      have k2 := hA.out 2 (by omega)
      have k3 := hA.out 3 (by omega)
      simp only [List.getD_cons_zero, List.getD_cons_succ] at k0 k1 k2 k3
      have HC : Hid (cfB ver op seq sta ass off = (wiB ver 1 4 && wiB op 0 31)) := by show _ = _; unfold cfB; rw [k0, k1, k2, k3]; simp
      clear k0 k1 k2 k3 hA
      cases hv : wiB ver 1 4
      · go_wp2_with (first | (go_at_call 65; refine (within_any _ _ _ _).mono ?_; rintro e' w' ⟨rfl, rfl⟩) | (go_at_call 49; refine (versionFits_any _ _).mono ?_; rintro e' w' ⟨rfl, rfl⟩))
        go_ret
        exact ⟨ret_bool' (by rw [HC.out, hv]; simp), (by repeat' (first | with_reducible exact Below.refl _ _ | with_reducible refine Below.setCell ?_ (by first | (simp; done) | (simp; omega) | omega) _ | with_reducible refine below_drewN ?_ _ | with_reducible refine Below.drew ?_ | with_reducible refine Below.alloc ?_ (by first | (simp; done) | (simp; omega) | omega) _))⟩
      · go_wp2_with (first | (go_at_call 65; refine (within_any _ _ _ _).mono ?_; rintro e' w' ⟨rfl, rfl⟩) | (go_at_call 49; refine (versionFits_any _ _).mono ?_; rintro e' w' ⟨rfl, rfl⟩))
        go_ret
        exact ⟨ret_bool' (by rw [HC.out, hv]; simp), (by repeat' (first | with_reducible exact Below.refl _ _ | with_reducible refine Below.setCell ?_ (by first | (simp; done) | (simp; omega) | omega) _ | with_reducible refine below_drewN ?_ _ | with_reducible refine Below.drew ?_ | with_reducible refine Below.alloc ?_ (by first | (simp; done) | (simp; omega) | omega) _))⟩
/-- what CheckControl answers -/
def ccE (ver op seq sta ass off key : Int) (dn mn : Nat) : Int := if (cfB ver op seq sta ass off && dfB key mn) = true then (if 512 < 12 + fil dn + dsz key mn then 31 else 0) else 32
set_option maxHeartbeats 2000000 in
theorem checkControl_any (ver : Int) (r e m : Bool) (op seq sta ass off : Int) (da : Option Addr) (dn dc : Nat) (key : Int) (ma : Option Addr) (mn mc : Nat) (w : World) (hdn : (dn : Int) ≤ 140737488355327) (hmn : (mn : Int) ≤ 140737488355327) :
    Calls Try.prog 30 #[ctV ver r e m op seq sta ass off (.slice da dn dc) key (.slice ma mn mc)] w fun e' w' => e' = .returned (.int .i64 (ccE ver op seq sta ass off key dn mn)) ∧ Below w.heap.size w w' := by
  obtain ⟨C, hC⟩ : ∃ C, C = cfB ver op seq sta ass off := ⟨_, rfl⟩
  have HC : Hid (C = cfB ver op seq sta ass off) := hC
  have hcf := controlFits_any ver r e m op seq sta ass off da dn dc key ma mn mc
  rw [← hC] at hcf
  unfold ctV at hcf ⊢
  have HF : Hid (∀ (w : World), Calls Try.prog 61 #[.agg #[.int .i64 ver, .bool r, .bool e, .bool m, .int .i64 op, .int .i64 seq, .int .i64 sta, .int .i64 ass, .int .i64 off, .slice da dn dc, .int .i64 key, .slice ma mn mc]] w fun e' w' => e' = .returned (.bool C) ∧ Below w.heap.size w w') := hcf
  clear hcf hC
  obtain ⟨D, hD⟩ : ∃ D, D = dfB key mn := ⟨_, rfl⟩
  have HD : Hid (D = dfB key mn) := hD
  clear hD
  obtain ⟨S, hS⟩ : ∃ S, S = dsz key mn := ⟨_, rfl⟩
  obtain ⟨F, hF⟩ : ∃ F, F = fil dn := ⟨_, rfl⟩
  have HSF : Hid (S = dsz key mn ∧ F = fil dn) := ⟨hS, hF⟩
  have s0 : 0 ≤ S := by rw [hS]; unfold dsz; split <;> omega
  have s1 : S ≤ 140737488355332 := by rw [hS]; unfold dsz; split <;> omega
  have f0 : 0 ≤ F := by rw [hF]; unfold fil; omega
  have f1 : F ≤ 140737488355331 := by rw [hF]; unfold fil; omega
  clear hS hF
  have HG : Hid (∀ (w : World), Calls Try.prog 44 #[.int .i64 key, .slice ma mn mc] w fun e' w' => e' = .returned (.bool D) ∧ w' = w) := by
    intro w; rw [HD.out]; exact digestFits_any key ma mn mc w
  have HH : Hid (∀ (w : World), Calls Try.prog 62 #[.int .i64 key, .slice ma mn mc] w fun e' w' => e' = .returned (.int .i64 S) ∧ w' = w) := by
    intro w; rw [HSF.out.1]; exact digestSize_any key ma mn mc w (by omega)
  have HI : Hid (∀ (w : World), Calls Try.prog 59 #[.int .i64 (dn : Int)] w fun e' w' => e' = .returned (.int .i64 F) ∧ w' = w) := by
    intro w; rw [HSF.out.2]; exact filled_any dn w (by omega) (by omega)
  go_enter Try.func30, Try.ntmps30
  go_wp2_with fail
  refine (HF.out _).mono ?_
  rintro e' w1 ⟨rfl, hb⟩
  have HB : Hid (Below (w.heap.size + 1) (w.alloc (.cells #[.int .i64 ver, .bool r, .bool e, .bool m, .int .i64 op, .int .i64 seq, .int .i64 sta, .int .i64 ass, .int .i64 off, .slice da dn dc, .int .i64 key, .slice ma mn mc] 48)) w1) := hb.mono (by simp)
  have HBW : Hid (Below w.heap.size w w1) := Below.trans (by repeat' (first | with_reducible exact Below.refl _ _ | with_reducible refine Below.setCell ?_ (by first | (simp; done) | (simp; omega) | omega) _ | with_reducible refine below_drewN ?_ _ | with_reducible refine Below.drew ?_ | with_reducible refine Below.alloc ?_ (by first | (simp; done) | (simp; omega) | omega) _)) (HB.out.mono (by omega))
  clear hb
  have c9 : w1.cell? ⟨w.heap.size, 9, none⟩ = some (.slice da dn dc) := box_cell HB.out (by omega) 9
  have c10 : w1.cell? ⟨w.heap.size, 10, none⟩ = some (.int .i64 key) := box_cell HB.out (by omega) 10
  have c11 : w1.cell? ⟨w.heap.size, 11, none⟩ = some (.slice ma mn mc) := box_cell HB.out (by omega) 11
  cases C
  · go_wp2_with fail
    go_ret
    exact ⟨ret_i64 (by unfold ccE; rw [← HC.out]; simp), HBW.out⟩
  cases D
  · go_wp2_with fail
    refine (HG.out _).mono ?_
    rintro e' w2 ⟨rfl, rfl⟩
    go_wp2_with fail
    go_ret
    exact ⟨ret_i64 (by unfold ccE; rw [← HC.out, ← HD.out]; simp), HBW.out⟩
  · have e1 : IntKind.i64.wrap (12 + F) = 12 + F := by simp only [IntKind.wrap_i64]; omega
    have e2 : IntKind.i64.wrap (12 + F + S) = 12 + F + S := by simp only [IntKind.wrap_i64]; omega
    by_cases hs : 512 < 12 + F + S
    · have hd : decide (512 < 12 + F + S) = true := decide_eq_true hs
      go_wp2_with fail
      refine (HG.out _).mono ?_
      rintro e' w2 ⟨rfl, rfl⟩
      go_wp2_with fail
      go_quiet (first | (go_at_call 59; exact Calls.quiet_of_same (HI.out _)) | (go_at_call 62; exact Calls.quiet_of_same (HH.out _)))
      go_wp2
      go_ret
      exact ⟨ret_i64 (by unfold ccE; rw [← HC.out, ← HD.out, ← HSF.out.1, ← HSF.out.2]; simp [hs]), (by repeat' (first | with_reducible exact Below.refl _ _ | with_reducible exact HBW.out | with_reducible refine Below.setCell ?_ (by first | (simp; done) | (simp; omega) | omega) _ | with_reducible refine below_drewN ?_ _ | with_reducible refine Below.drew ?_ | with_reducible refine Below.alloc ?_ (by first | (simp; done) | (simp; omega) | omega) _))⟩
    · have hd : decide (512 < 12 + F + S) = false := decide_eq_false hs
      go_wp2_with fail
      refine (HG.out _).mono ?_
      rintro e' w2 ⟨rfl, rfl⟩
      go_wp2_with fail
      go_quiet (first | (go_at_call 59; exact Calls.quiet_of_same (HI.out _)) | (go_at_call 62; exact Calls.quiet_of_same (HH.out _)))
      go_wp2
      go_ret
      exact ⟨ret_i64 (by unfold ccE; rw [← HC.out, ← HD.out, ← HSF.out.1, ← HSF.out.2]; simp [hs]), (by repeat' (first | with_reducible exact Below.refl _ _ | with_reducible exact HBW.out | with_reducible refine Below.setCell ?_ (by first | (simp; done) | (simp; omega) | omega) _ | with_reducible refine below_drewN ?_ _ | with_reducible refine Below.drew ?_ | with_reducible refine Below.alloc ?_ (by first | (simp; done) | (simp; omega) | omega) _))⟩
end Go.Proofs.Ythimekdpclmddaa
