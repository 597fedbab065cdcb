/- What headerFits, size and Check of package wire return. -/
import Derived.Test.YtdobghhjlfffpaaXB
namespace Go.Proofs.Ytdobghhjlfffpaa
open Go.RowKit
/-- may the header's numbers be? -/
def hfB (h : Hd) : Bool := wiB h.poll (-128) 127 && wiB h.prec (-128) 127 && wiB h.del 0 281474976645120 && wiB h.dis 0 281474976645120 && wiB h.leap 0 3 && wiB h.ver 1 4 && wiB h.mode 1 5 && wiB h.str 0 255
theorem hf_parts {h : Hd} (a : wiB h.poll (-128) 127 = true) (b : wiB h.prec (-128) 127 = true) (c : wiB h.del 0 281474976645120 = true) (d : wiB h.dis 0 281474976645120 = true) : hfB h = (wiB h.leap 0 3 && wiB h.ver 1 4 && wiB h.mode 1 5 && wiB h.str 0 255) := by
  unfold hfB; rw [a, b, c, d]; simp
set_option maxRecDepth 4000 in
set_option maxHeartbeats 4000000 in
theorem headerFits_any (h : Hd) (ea : Option Addr) (en ec : Nat) (key : Int) (nak : Bool) (ma : Option Addr) (mn mc : Nat) (w : World) :
    Calls Try.prog 29 #[pkV h (.slice ea en ec) key nak (.slice ma mn mc)] w fun e' w' => e' = .returned (.bool (hfB h)) ∧ Below w.heap.size w w' := by
  unfold pkV
  have i0 : ∀ (x y : Value) w, (Instr.index 80 (.agg #[x, y]) (.int .i64 0)).run Try.prog w = .ok x w := fun _ _ _ => by kernel_rfl
  have i1 : ∀ (x y : Value) w, (Instr.index 80 (.agg #[x, y]) (.int .i64 1)).run Try.prog w = .ok y w := fun _ _ _ => by kernel_rfl
  have j0 : ∀ (x y : Value) w, (Instr.index 81 (.agg #[x, y]) (.int .i64 0)).run Try.prog w = .ok x w := fun _ _ _ => by kernel_rfl
  have j1 : ∀ (x y : Value) w, (Instr.index 81 (.agg #[x, y]) (.int .i64 1)).run Try.prog w = .ok y w := fun _ _ _ => by kernel_rfl
  go_enter Try.func29, Try.ntmps29
  go_wp2
  go_loopw [12] (fun i wr => ∃ (k : Int), i = .int .i64 k ∧ 0 ≤ k ∧ k ≤ 2 ∧ Hid ((0 < k → wiB h.poll (-128) 127 = true) ∧ (1 < k → wiB h.prec (-128) 127 = true)) ∧ wr = w.alloc (.cells #[.int .i64 h.leap, .int .i64 h.ver, .int .i64 h.mode, .int .i64 h.str, .int .i64 h.poll, .int .i64 h.prec, .int .i64 h.del, .int .i64 h.dis, .int .u32 h.rid, .int .u64 h.t0, .int .u64 h.t1, .int .u64 h.t2, .int .u64 h.t3, .slice ea en ec, .int .i64 key, .bool nak, .slice ma mn mc] 29)) (fun i _ => (2 - intOf i).toNat)
  case atStart => exact ⟨0, rfl, by omega, by omega, ⟨fun x => absurd x (by omega), fun x => absurd x (by omega)⟩, rfl⟩
  case round =>
    obtain ⟨k, rfl, k0, k1, hA, rfl⟩ := hrel
    have hk : k = 0 ∨ k = 1 ∨ k = 2 := by omega
    clear k0 k1
    rcases hk with rfl | rfl | rfl
    · cases hx : wiB h.poll (-128) 127
      · go_wp2_with (first | (go_at_call 49; refine (within_any _ _ _ _).mono ?_; rintro e' w' ⟨rfl, rfl⟩) | (go_at_call 51; refine (fromShort_max _).mono ?_; rintro e' w' ⟨rfl, rfl⟩) | (go_at_call 50; refine (withinS_any _ _ _ _).mono ?_; rintro e' w' ⟨rfl, rfl⟩) | (go_at_call 36; refine (versionFits_any _ _).mono ?_; rintro e' w' ⟨rfl, rfl⟩) | (go_at_call 37; refine (modeFits_any _ _).mono ?_; rintro e' w' ⟨rfl, rfl⟩))
        go_ret
        exact ⟨ret_bool' (by unfold hfB; rw [hx]; simp), (by repeat' (first | with_reducible exact Below.refl _ _ | with_reducible refine Below.setCell ?_ (by first | (simp; done) | (simp; omega) | omega) _ | with_reducible refine below_drewN ?_ _ | with_reducible refine Below.drew ?_ | with_reducible refine Below.alloc ?_ (by first | (simp; done) | (simp; omega) | omega) _))⟩
      · go_wp2_with (first | (go_at_call 49; refine (within_any _ _ _ _).mono ?_; rintro e' w' ⟨rfl, rfl⟩) | (go_at_call 51; refine (fromShort_max _).mono ?_; rintro e' w' ⟨rfl, rfl⟩) | (go_at_call 50; refine (withinS_any _ _ _ _).mono ?_; rintro e' w' ⟨rfl, rfl⟩) | (go_at_call 36; refine (versionFits_any _ _).mono ?_; rintro e' w' ⟨rfl, rfl⟩) | (go_at_call 37; refine (modeFits_any _ _).mono ?_; rintro e' w' ⟨rfl, rfl⟩))
        exact ⟨⟨1, rfl, by omega, by omega, ⟨fun _ => by first | exact hx | trivial, fun x => absurd x (by omega)⟩, trivial⟩, by simp [intOf]⟩
    · cases hx : wiB h.prec (-128) 127
      · go_wp2_with (first | (go_at_call 49; refine (within_any _ _ _ _).mono ?_; rintro e' w' ⟨rfl, rfl⟩) | (go_at_call 51; refine (fromShort_max _).mono ?_; rintro e' w' ⟨rfl, rfl⟩) | (go_at_call 50; refine (withinS_any _ _ _ _).mono ?_; rintro e' w' ⟨rfl, rfl⟩) | (go_at_call 36; refine (versionFits_any _ _).mono ?_; rintro e' w' ⟨rfl, rfl⟩) | (go_at_call 37; refine (modeFits_any _ _).mono ?_; rintro e' w' ⟨rfl, rfl⟩))
        go_ret
        exact ⟨ret_bool' (by unfold hfB; rw [hx]; simp), (by repeat' (first | with_reducible exact Below.refl _ _ | with_reducible refine Below.setCell ?_ (by first | (simp; done) | (simp; omega) | omega) _ | with_reducible refine below_drewN ?_ _ | with_reducible refine Below.drew ?_ | with_reducible refine Below.alloc ?_ (by first | (simp; done) | (simp; omega) | omega) _))⟩
      · have HA0 := hA.out.1 (by omega)
        have H0 : Hid (wiB h.poll (-128) 127 = true) := HA0
        clear HA0 hA
        go_wp2_with (first | (go_at_call 49; refine (within_any _ _ _ _).mono ?_; rintro e' w' ⟨rfl, rfl⟩) | (go_at_call 51; refine (fromShort_max _).mono ?_; rintro e' w' ⟨rfl, rfl⟩) | (go_at_call 50; refine (withinS_any _ _ _ _).mono ?_; rintro e' w' ⟨rfl, rfl⟩) | (go_at_call 36; refine (versionFits_any _ _).mono ?_; rintro e' w' ⟨rfl, rfl⟩) | (go_at_call 37; refine (modeFits_any _ _).mono ?_; rintro e' w' ⟨rfl, rfl⟩))
        exact ⟨⟨2, rfl, by omega, by omega, ⟨fun _ => H0.out, fun _ => by first | exact hx | trivial⟩, trivial⟩, by simp [intOf]⟩
    · have H01 : Hid (wiB h.poll (-128) 127 = true ∧ wiB h.prec (-128) 127 = true) := ⟨hA.out.1 (by omega), hA.out.2 (by omega)⟩
      clear hA
      go_wp2
      go_loopw [24] (fun i wr => ∃ (k : Int), i = .int .i64 k ∧ 0 ≤ k ∧ k ≤ 2 ∧ Hid ((0 < k → wiB h.del 0 281474976645120 = true) ∧ (1 < k → wiB h.dis 0 281474976645120 = true)) ∧ wr = w.alloc (.cells #[.int .i64 h.leap, .int .i64 h.ver, .int .i64 h.mode, .int .i64 h.str, .int .i64 h.poll, .int .i64 h.prec, .int .i64 h.del, .int .i64 h.dis, .int .u32 h.rid, .int .u64 h.t0, .int .u64 h.t1, .int .u64 h.t2, .int .u64 h.t3, .slice ea en ec, .int .i64 key, .bool nak, .slice ma mn mc] 29)) (fun i _ => (2 - intOf i).toNat)
      case atStart => exact ⟨0, rfl, by omega, by omega, ⟨fun x => absurd x (by omega), fun x => absurd x (by omega)⟩, rfl⟩
      case round =>
        obtain ⟨k, rfl, k0, k1, hA, rfl⟩ := hrel
        have hk : k = 0 ∨ k = 1 ∨ k = 2 := by omega
        clear k0 k1
        rcases hk with rfl | rfl | rfl
        · cases hx : wiB h.del 0 281474976645120
          · go_wp2_with (first | (go_at_call 49; refine (within_any _ _ _ _).mono ?_; rintro e' w' ⟨rfl, rfl⟩) | (go_at_call 51; refine (fromShort_max _).mono ?_; rintro e' w' ⟨rfl, rfl⟩) | (go_at_call 50; refine (withinS_any _ _ _ _).mono ?_; rintro e' w' ⟨rfl, rfl⟩) | (go_at_call 36; refine (versionFits_any _ _).mono ?_; rintro e' w' ⟨rfl, rfl⟩) | (go_at_call 37; refine (modeFits_any _ _).mono ?_; rintro e' w' ⟨rfl, rfl⟩))
            go_ret
            exact ⟨ret_bool' (by unfold hfB; rw [hx]; simp), (by repeat' (first | with_reducible exact Below.refl _ _ | with_reducible refine Below.setCell ?_ (by first | (simp; done) | (simp; omega) | omega) _ | with_reducible refine below_drewN ?_ _ | with_reducible refine Below.drew ?_ | with_reducible refine Below.alloc ?_ (by first | (simp; done) | (simp; omega) | omega) _))⟩
          · go_wp2_with (first | (go_at_call 49; refine (within_any _ _ _ _).mono ?_; rintro e' w' ⟨rfl, rfl⟩) | (go_at_call 51; refine (fromShort_max _).mono ?_; rintro e' w' ⟨rfl, rfl⟩) | (go_at_call 50; refine (withinS_any _ _ _ _).mono ?_; rintro e' w' ⟨rfl, rfl⟩) | (go_at_call 36; refine (versionFits_any _ _).mono ?_; rintro e' w' ⟨rfl, rfl⟩) | (go_at_call 37; refine (modeFits_any _ _).mono ?_; rintro e' w' ⟨rfl, rfl⟩))
            exact ⟨⟨1, rfl, by omega, by omega, ⟨fun _ => by first | exact hx | trivial, fun x => absurd x (by omega)⟩, trivial⟩, by simp [intOf]⟩
        · cases hx : wiB h.dis 0 281474976645120
          · go_wp2_with (first | (go_at_call 49; refine (within_any _ _ _ _).mono ?_; rintro e' w' ⟨rfl, rfl⟩) | (go_at_call 51; refine (fromShort_max _).mono ?_; rintro e' w' ⟨rfl, rfl⟩) | (go_at_call 50; refine (withinS_any _ _ _ _).mono ?_; rintro e' w' ⟨rfl, rfl⟩) | (go_at_call 36; refine (versionFits_any _ _).mono ?_; rintro e' w' ⟨rfl, rfl⟩) | (go_at_call 37; refine (modeFits_any _ _).mono ?_; rintro e' w' ⟨rfl, rfl⟩))
            go_ret
            exact ⟨ret_bool' (by unfold hfB; rw [hx]; simp), (by repeat' (first | with_reducible exact Below.refl _ _ | with_reducible refine Below.setCell ?_ (by first | (simp; done) | (simp; omega) | omega) _ | with_reducible refine below_drewN ?_ _ | with_reducible refine Below.drew ?_ | with_reducible refine Below.alloc ?_ (by first | (simp; done) | (simp; omega) | omega) _))⟩
          · have H0 : Hid (wiB h.del 0 281474976645120 = true) := hA.out.1 (by omega)
            clear hA
            go_wp2_with (first | (go_at_call 49; refine (within_any _ _ _ _).mono ?_; rintro e' w' ⟨rfl, rfl⟩) | (go_at_call 51; refine (fromShort_max _).mono ?_; rintro e' w' ⟨rfl, rfl⟩) | (go_at_call 50; refine (withinS_any _ _ _ _).mono ?_; rintro e' w' ⟨rfl, rfl⟩) | (go_at_call 36; refine (versionFits_any _ _).mono ?_; rintro e' w' ⟨rfl, rfl⟩) | (go_at_call 37; refine (modeFits_any _ _).mono ?_; rintro e' w' ⟨rfl, rfl⟩))
            exact ⟨⟨2, rfl, by omega, by omega, ⟨fun _ => H0.out, fun _ => by first | exact hx | trivial⟩, trivial⟩, by simp [intOf]⟩
        · have HP : Hid (hfB h = (wiB h.leap 0 3 && wiB h.ver 1 4 && wiB h.mode 1 5 && wiB h.str 0 255)) := hf_parts H01.out.1 H01.out.2 (hA.out.1 (by omega)) (hA.out.2 (by omega))
          clear hA H01
          cases h1 : wiB h.leap 0 3
          · go_wp2_with (first | (go_at_call 49; refine (within_any _ _ _ _).mono ?_; rintro e' w' ⟨rfl, rfl⟩) | (go_at_call 51; refine (fromShort_max _).mono ?_; rintro e' w' ⟨rfl, rfl⟩) | (go_at_call 50; refine (withinS_any _ _ _ _).mono ?_; rintro e' w' ⟨rfl, rfl⟩) | (go_at_call 36; refine (versionFits_any _ _).mono ?_; rintro e' w' ⟨rfl, rfl⟩) | (go_at_call 37; refine (modeFits_any _ _).mono ?_; rintro e' w' ⟨rfl, rfl⟩))
            go_ret
            exact ⟨ret_bool' (by rw [HP.out, h1]; simp), (by repeat' (first | with_reducible exact Below.refl _ _ | with_reducible refine Below.setCell ?_ (by first | (simp; done) | (simp; omega) | omega) _ | with_reducible refine below_drewN ?_ _ | with_reducible refine Below.drew ?_ | with_reducible refine Below.alloc ?_ (by first | (simp; done) | (simp; omega) | omega) _))⟩
          cases h2 : wiB h.ver 1 4
          · go_wp2_with (first | (go_at_call 49; refine (within_any _ _ _ _).mono ?_; rintro e' w' ⟨rfl, rfl⟩) | (go_at_call 51; refine (fromShort_max _).mono ?_; rintro e' w' ⟨rfl, rfl⟩) | (go_at_call 50; refine (withinS_any _ _ _ _).mono ?_; rintro e' w' ⟨rfl, rfl⟩) | (go_at_call 36; refine (versionFits_any _ _).mono ?_; rintro e' w' ⟨rfl, rfl⟩) | (go_at_call 37; refine (modeFits_any _ _).mono ?_; rintro e' w' ⟨rfl, rfl⟩))
            go_ret
            exact ⟨ret_bool' (by rw [HP.out, h1, h2]; simp), (by repeat' (first | with_reducible exact Below.refl _ _ | with_reducible refine Below.setCell ?_ (by first | (simp; done) | (simp; omega) | omega) _ | with_reducible refine below_drewN ?_ _ | with_reducible refine Below.drew ?_ | with_reducible refine Below.alloc ?_ (by first | (simp; done) | (simp; omega) | omega) _))⟩
          cases h3 : wiB h.mode 1 5
          · go_wp2_with (first | (go_at_call 49; refine (within_any _ _ _ _).mono ?_; rintro e' w' ⟨rfl, rfl⟩) | (go_at_call 51; refine (fromShort_max _).mono ?_; rintro e' w' ⟨rfl, rfl⟩) | (go_at_call 50; refine (withinS_any _ _ _ _).mono ?_; rintro e' w' ⟨rfl, rfl⟩) | (go_at_call 36; refine (versionFits_any _ _).mono ?_; rintro e' w' ⟨rfl, rfl⟩) | (go_at_call 37; refine (modeFits_any _ _).mono ?_; rintro e' w' ⟨rfl, rfl⟩))
            go_ret
            exact ⟨ret_bool' (by rw [HP.out, h1, h2, h3]; simp), (by repeat' (first | with_reducible exact Below.refl _ _ | with_reducible refine Below.setCell ?_ (by first | (simp; done) | (simp; omega) | omega) _ | with_reducible refine below_drewN ?_ _ | with_reducible refine Below.drew ?_ | with_reducible refine Below.alloc ?_ (by first | (simp; done) | (simp; omega) | omega) _))⟩
          · go_wp2_with (first | (go_at_call 49; refine (within_any _ _ _ _).mono ?_; rintro e' w' ⟨rfl, rfl⟩) | (go_at_call 51; refine (fromShort_max _).mono ?_; rintro e' w' ⟨rfl, rfl⟩) | (go_at_call 50; refine (withinS_any _ _ _ _).mono ?_; rintro e' w' ⟨rfl, rfl⟩) | (go_at_call 36; refine (versionFits_any _ _).mono ?_; rintro e' w' ⟨rfl, rfl⟩) | (go_at_call 37; refine (modeFits_any _ _).mono ?_; rintro e' w' ⟨rfl, rfl⟩))
            go_ret
            exact ⟨ret_bool' (by rw [HP.out, h1, h2, h3]; simp), (by repeat' (first | with_reducible exact Below.refl _ _ | with_reducible refine Below.setCell ?_ (by first | (simp; done) | (simp; omega) | omega) _ | with_reducible refine below_drewN ?_ _ | with_reducible refine Below.drew ?_ | with_reducible refine Below.alloc ?_ (by first | (simp; done) | (simp; omega) | omega) _))⟩
theorem Ck.c17 {p : Nat} {v : World} {a0 a1 a2 a3 a4 a5 a6 a7 a8 a9 a10 a11 a12 a13 a14 a15 a16 : Value} (h : Ck p v #[a0, a1, a2, a3, a4, a5, a6, a7, a8, a9, a10, a11, a12, a13, a14, a15, a16]) :
    v.cell? ⟨p, 0, none⟩ = some a0 ∧ v.cell? ⟨p, 1, none⟩ = some a1 ∧ v.cell? ⟨p, 2, none⟩ = some a2 ∧ v.cell? ⟨p, 3, none⟩ = some a3 ∧ v.cell? ⟨p, 4, none⟩ = some a4 ∧ v.cell? ⟨p, 5, none⟩ = some a5 ∧ v.cell? ⟨p, 6, none⟩ = some a6 ∧ v.cell? ⟨p, 7, none⟩ = some a7 ∧ v.cell? ⟨p, 8, none⟩ = some a8 ∧ v.cell? ⟨p, 9, none⟩ = some a9 ∧ v.cell? ⟨p, 10, none⟩ = some a10 ∧ v.cell? ⟨p, 11, none⟩ = some a11 ∧ v.cell? ⟨p, 12, none⟩ = some a12 ∧ v.cell? ⟨p, 13, none⟩ = some a13 ∧ v.cell? ⟨p, 14, none⟩ = some a14 ∧ v.cell? ⟨p, 15, none⟩ = some a15 ∧ v.cell? ⟨p, 16, none⟩ = some a16 :=
  ⟨h.at_ 0, h.at_ 1, h.at_ 2, h.at_ 3, h.at_ 4, h.at_ 5, h.at_ 6, h.at_ 7, h.at_ 8, h.at_ 9, h.at_ 10, h.at_ 11, h.at_ 12, h.at_ 13, h.at_ 14, h.at_ 15, h.at_ 16⟩
/-- how many bytes the fields have -/
def sumX : List Xt → Int
  | [] => 0
  | x :: r => 4 + x.dat.length + sumX r
theorem sumX_app (a b : List Xt) : sumX (a ++ b) = sumX a + sumX b := by
  induction a with
  | nil => simp [sumX]
  | cons x r ih => rw [List.cons_append, sumX, sumX, ih]; omega
theorem sumX_take (xs : List Xt) (k : Nat) (h : k < xs.length) : sumX (xs.take (k + 1)) = sumX (xs.take k) + (4 + xs[k].dat.length) := by
  rw [List.take_succ_eq_append_getElem h, sumX_app]; simp [sumX]
theorem sumX_bd {xs : List Xt} (h : ∀ x ∈ xs, x.dat.length ≤ 65536) : 0 ≤ sumX xs ∧ sumX xs ≤ 65540 * xs.length := by
  induction xs with
  | nil => simp [sumX]
  | cons x r ih =>
    have h1 := ih (fun y hy => h y (List.mem_cons_of_mem _ hy))
    have h2 := h x (by simp)
    rw [sumX, List.length_cons]
    omega
/-- how many bytes a packet would have -/
def szI (xs : List Xt) (key : Int) (nak : Bool) (mn : Nat) : Int := 48 + dsz key mn + sumX xs + (if nak then 4 else 0)
set_option maxRecDepth 4000 in
set_option maxHeartbeats 4000000 in
theorem size_any (N : Nat) (h : Hd) (ev : Value) (xs : List Xt) (key : Int) (nak : Bool) (ma : Option Addr) (mn mc : Nat) (w : World) (he : Es N w ev xs) (hN : N ≤ w.heap.size) (hl : xs.length ≤ 65536) (hx : ∀ x ∈ xs, x.dat.length ≤ 65536) (hmn : (mn : Int) ≤ 65536) :
    Calls Try.prog 32 #[pkV h ev key nak (.slice ma mn mc)] w fun e' w' => e' = .returned (.int .i64 (szI xs key nak mn)) ∧ Below w.heap.size w w' := by
  have H : Hid (Es N w ev xs) := he
  obtain ⟨ea, ec, rfl, h1, -⟩ := he
  obtain ⟨en, hen⟩ : ∃ L, L = xs.length := ⟨_, rfl⟩
  rw [← hen] at H ⊢
  have HL : Hid (en = xs.length) := hen
  have l1 : (en : Int) ≤ 65536 := by omega
  have HXL : Hid (∀ x ∈ xs, x.dat.length ≤ 65536) := hx
  have HT : Hid (∀ k, k ≤ xs.length → 0 ≤ sumX (xs.take k) ∧ sumX (xs.take k) ≤ 4295229440) := fun k hk => by
    have := sumX_bd (xs := xs.take k) (fun x hx' => hx x (List.mem_of_mem_take hx'))
    have hlk : (xs.take k).length ≤ 65536 := by rw [List.length_take]; omega
    omega
  clear h1 hx hl hen
  obtain ⟨S, hS⟩ : ∃ S, S = dsz key mn := ⟨_, rfl⟩
  have HS : Hid (∀ (w : World), Calls Try.prog 55 #[.int .i64 key, .slice ma mn mc] w fun e' w' => e' = .returned (.int .i64 S) ∧ w' = w) := by
    intro w; rw [hS]; exact digestSize_any key ma mn mc w (by omega)
  have HSS : Hid (S = dsz key mn) := hS
  have hsb := dsz_le key mn
  rw [← hS] at hsb
  obtain ⟨s0, s1⟩ := hsb
  have s2 : S ≤ 65540 := by omega
  clear hS s1
  unfold pkV
  go_enter Try.func32, Try.ntmps32
  go_wp2_with (go_at_call 55; refine (HS.out _).mono ?_; rintro e' w' ⟨rfl, hw⟩; rw [hw]; clear hw)
  obtain ⟨W0, hW0⟩ : ∃ W, W = w.alloc (.cells #[.int .i64 h.leap, .int .i64 h.ver, .int .i64 h.mode, .int .i64 h.str, .int .i64 h.poll, .int .i64 h.prec, .int .i64 h.del, .int .i64 h.dis, .int .u32 h.rid, .int .u64 h.t0, .int .u64 h.t1, .int .u64 h.t2, .int .u64 h.t3, .slice ea en ec, .int .i64 key, .bool nak, .slice ma mn mc] 29) := ⟨_, rfl⟩
  have K0 : Hid (Ck w.heap.size W0 #[.int .i64 h.leap, .int .i64 h.ver, .int .i64 h.mode, .int .i64 h.str, .int .i64 h.poll, .int .i64 h.prec, .int .i64 h.del, .int .i64 h.dis, .int .u32 h.rid, .int .u64 h.t0, .int .u64 h.t1, .int .u64 h.t2, .int .u64 h.t3, .slice ea en ec, .int .i64 key, .bool nak, .slice ma mn mc] ∧ Below w.heap.size w W0) := by rw [hW0]; exact ⟨Ck.new _ _ _, (by repeat' (first | with_reducible exact Below.refl _ _ | with_reducible refine Below.setCell ?_ (by first | (simp; done) | (simp; omega) | omega) _ | with_reducible refine below_drewN ?_ _ | with_reducible refine Below.drew ?_ | with_reducible refine Below.alloc ?_ (by first | (simp; done) | (simp; omega) | omega) _))⟩
  rw [← hW0]
  clear hW0
  go_loopw [3, 15] (fun t i wr => ∃ (k : Nat) (T : Int), t = .int .i64 T ∧ i = .int .i64 (k : Int) ∧ (k : Int) ≤ en ∧ Hid (T = 48 + S + sumX (xs.take k)) ∧ Hid (Ck w.heap.size wr #[.int .i64 h.leap, .int .i64 h.ver, .int .i64 h.mode, .int .i64 h.str, .int .i64 h.poll, .int .i64 h.prec, .int .i64 h.del, .int .i64 h.dis, .int .u32 h.rid, .int .u64 h.t0, .int .u64 h.t1, .int .u64 h.t2, .int .u64 h.t3, .slice ea en ec, .int .i64 key, .bool nak, .slice ma mn mc] ∧ Below w.heap.size w wr)) (fun _ i _ => (en - intOf i).toNat)
  case atStart => exact ⟨0, 48 + S, rfl, rfl, by omega, by simp [sumX, Hid], K0⟩
  case round =>
    obtain ⟨k, T, rfl, rfl, hk, hT, hK⟩ := hrel
    have hTb := HT.out k (by have := HL.out; omega)
    have t0 : 0 ≤ T := by rw [hT.out]; omega
    have t1 : T ≤ 4295400000 := by rw [hT.out]; omega
    clear hTb
    by_cases hlt : (k : Int) < en
    · have hkx : k < xs.length := by have := HL.out; omega
      obtain ⟨ad, g1, g2, g3, g4, -⟩ := (H.out.below hK.out.2 hN).at k hkx
      have hix : ∀ w, Sem.run Try.prog (Instr.indexAt 26 (.slice ea en ec) (.int .i64 (k : Int))) w = .ok (.pointer (some (ad.add (k * 2)))) w := xidx_run en ec k g1.out hlt
      obtain ⟨A, hA0⟩ : ∃ A, A = ad.add (k * 2) := ⟨_, rfl⟩
      rw [← hA0] at hix g2 g3
      obtain ⟨ty, hty⟩ : ∃ t, t = xs[k].ty := ⟨_, rfl⟩
      obtain ⟨dv, hdv⟩ : ∃ d, d = xs[k].dv := ⟨_, rfl⟩
      rw [← hty] at g2
      rw [← hdv] at g3 g4
      obtain ⟨da, dc, hd, -⟩ := g4
      subst hd
      obtain ⟨dn, hdn⟩ : ∃ n, n = xs[k].dat.length := ⟨_, rfl⟩
      rw [← hdn] at g3
      have HDN : Hid (dn = xs[k].dat.length) := hdn
      have d1 : (dn : Int) ≤ 65536 := by have := HXL.out _ (List.getElem_mem hkx); omega
      have g3' : wr.cell? { block := A.block, off := A.off + 1 } = some (.slice da dn dc) := by simpa [Addr.add] using g3
      have hsz : w.heap.size < wr.heap.size := hK.out.1.lt
      clear hA0 hty hdv hdn g1 g3
      go_wp2_with fail
      refine ⟨⟨k + 1, _, rfl, by go_num, by omega, ?_, ?_, ?_⟩, by simp [intOf]; omega⟩
      · show _ = _
        rw [sumX_take xs k hkx, ← HDN.out, hT.out]
        omega
      · exact hK.out.1.below ((Below.refl wr.heap.size wr).alloc (Nat.le_refl _) _) hsz
      · exact hK.out.2.alloc (Nat.le_of_lt hsz) _
    · have hkE : xs.take k = xs := List.take_of_length_le (by have := HL.out; omega)
      have HT2 : Hid (T = 48 + S + sumX xs) := by have := hT.out; rw [hkE] at this; exact this
      obtain ⟨c0, c1, c2, c3, c4, c5, c6, c7, c8, c9, c10, c11, c12, c13, c14, c15, c16⟩ := hK.out.1.c17
      clear hkE hT
      cases nak
      all_goals
        go_wp2_with fail
        go_ret
        refine ⟨ret_i64 ?_, hK.out.2⟩
        unfold szI
        rw [← HSS.out, HT2.out]
        simp
end Go.Proofs.Ytdobghhjlfffpaa
