/- What times of the reference's whole numbers returns: the digits of the product. -/
import Derived.Test.YtdmaaigchfgmdaaBigC
import Derived.WalkKit
import Derived.WalkSpells
import Derived.WalkLawsBesides
import Derived.Deep.QuietTactic
import Derived.BigQuiet
namespace Bg
theorem val_set (O : List Nat) (p d : Nat) (hp : p < O.length) : val (O.set p d) + 65536 ^ p * O.getD p 0 = val O + 65536 ^ p * d := by
  induction O generalizing p with
  | nil => simp at hp
  | cons x r ih =>
    rcases p with _ | p
    · simp [val]; omega
    · have := ih p (by simpa using hp)
      simp only [List.set_cons_succ, val, List.getD_cons_succ, Nat.pow_succ]
      have e : ∀ z, 65536 ^ p * 65536 * z = 65536 * (65536 ^ p * z) := fun z => by rw [Nat.mul_comm (65536 ^ p) 65536, Nat.mul_assoc]
      rw [e, e]
      omega
theorem dok_set {O : List Nat} (h : dok O) (p : Nat) {d : Nat} (hd : d < 65536) : dok (O.set p d) := by
  intro x hx
  rcases List.mem_or_eq_of_mem_set hx with h1 | h1
  · exact h x h1
  · omega
/-- a digit of a row of products -/
theorem times_step (A B O : List Nat) (i k p c d q : Nat) (hp : p = i + k) (hl : p < O.length) (hd : d + 65536 * q = O.getD p 0 + c + A.getD i 0 * B.getD k 0) (h : val O + 65536 ^ p * c = val (A.take i) * val B + 65536 ^ i * (A.getD i 0 * val (B.take k))) :
    val (O.set p d) + 65536 ^ (p + 1) * q = val (A.take i) * val B + 65536 ^ i * (A.getD i 0 * val (B.take (k + 1))) := by
  have hs := val_set O p d hl
  have e : 65536 ^ p * (d + 65536 * q) = 65536 ^ p * (O.getD p 0 + c + A.getD i 0 * B.getD k 0) := by rw [hd]
  rw [Nat.mul_add, Nat.mul_add, Nat.mul_add, ← Nat.mul_assoc] at e
  rw [tk, Nat.mul_add, Nat.mul_add]
  have f : 65536 ^ i * (A.getD i 0 * (65536 ^ k * B.getD k 0)) = 65536 ^ p * (A.getD i 0 * B.getD k 0) := by
    rw [hp, Nat.pow_add, Nat.mul_left_comm (A.getD i 0), Nat.mul_assoc]
  rw [f, Nat.pow_succ]
  omega
/-- where the row ends nothing is carried -/
theorem times_over (A B O : List Nat) (i k p c : Nat) (hB : dok B) (hA : dok A) (hi : i < A.length) (hp : p = i + k) (hk : B.length < k) (h : val O + 65536 ^ p * c = val (A.take i) * val B + 65536 ^ i * (A.getD i 0 * val (B.take k))) : c = 0 := by
  rw [val_take_all B k (by omega), ← Nat.mul_assoc, ← Nat.add_mul, ← tk] at h
  have h1 := val_lt (A.take (i + 1)) (dok_take hA _)
  rw [List.length_take, Nat.min_eq_left (by omega)] at h1
  have h2 := val_lt B hB
  have h3 : val (A.take (i + 1)) * val B < 65536 ^ (i + 1) * 65536 ^ B.length := Nat.mul_lt_mul'' h1 h2
  rw [← Nat.pow_add] at h3
  have h4 : 65536 ^ (i + 1 + B.length) ≤ 65536 ^ p := Nat.pow_le_pow_right (by decide) (by omega)
  rcases c with _ | c
  · rfl
  · have := Nat.mul_le_mul_left (65536 ^ p) (show 1 ≤ c + 1 by omega)
    omega
theorem times_row (A B O : List Nat) (i k : Nat) (hk : B.length ≤ k) (h : val O + 65536 ^ (i + k) * 0 = val (A.take i) * val B + 65536 ^ i * (A.getD i 0 * val (B.take k))) : val O = val (A.take (i + 1)) * val B := by
  rw [val_take_all B k hk] at h
  rw [tk, Nat.add_mul, Nat.mul_assoc]
  omega
theorem val_zeros (n : Nat) : val (List.replicate n 0) = 0 := by
  induction n with
  | zero => rfl
  | succ n ih => rw [List.replicate_succ, val, ih]
theorem dok_zeros (n : Nat) : dok (List.replicate n 0) := fun d hd => by
  have := (List.mem_replicate.1 hd).2
  omega
end Bg
namespace Go.Proofs.Ytdmaaigchfgmdaa
open Go.RowKit
theorem vals_zeros (n : Nat) : (madeCells #[Value.int .i64 0] n).toList = vals (List.replicate n 0) := by
  rw [toList_madeCells_one]
  simp [vals]
theorem vals_set (O : List Nat) (p : Nat) (d : Nat) : (vals O).set p (.int .i64 (d : Int)) = vals (O.set p d) := by
  simp [vals, List.map_set]
/-- the digit at a place of a row that the call has made -/
theorem own_at {w : World} {base g n cap : Nat} {O : List Nat} (h : w.ownsRow base 3 1 (.slice (some ⟨g, 0, none⟩) n cap) n (vals O)) (hl : O.length = n) (hd : Bg.dok O) (p : Nat) (hp : p < n) :
    ∃ z : Int, w.cell? ⟨g, p, none⟩ = some (.int .i64 z) ∧ w.frozen? ⟨g, p, none⟩ = false ∧ Hid (z = ((O.getD p 0 : Nat) : Int)) ∧ 0 ≤ z ∧ z ≤ 65535 := by
  have h1 := h.cellAt p (by omega)
  unfold vals at h1
  rw [List.getElem?_map, List.getElem?_eq_getElem (by omega)] at h1
  have h2 := Bg.dok_getD hd p
  refine ⟨((O.getD p 0 : Nat) : Int), ?_, h.frozenAt p, rfl, Int.natCast_nonneg _, by omega⟩
  rw [h1, Bg.getD_at _ _ (by omega)]
  rfl
/-- behind a store into such a row -/
theorem own_store {w w0 : World} {n cap : Nat} {O : List Nat} (h : w.ownsRow w0.heap.size 3 1 (.slice (some ⟨w0.heap.size, 0, none⟩) n cap) n (vals O)) (hb : Below w0.heap.size w0 w) (p : Nat) (d : Nat) :
    (w.setCell ⟨w0.heap.size, p, none⟩ (.int .i64 (d : Int))).ownsRow w0.heap.size 3 1 (.slice (some ⟨w0.heap.size, 0, none⟩) n cap) n (vals (O.set p d)) ∧ Below w0.heap.size w0 (w.setCell ⟨w0.heap.size, p, none⟩ (.int .i64 (d : Int))) := by
  refine ⟨?_, hb.setCell (Nat.le_refl _) _⟩
  rw [← vals_set]
  exact (h.stored p _).1
set_option maxHeartbeats 4000000 in
theorem times_any (ao bo : Option Addr) (A B : List Nat) (ca cb : Nat) (w : World) (hA : (A.length : Int) ≤ 100000) (hB : (B.length : Int) ≤ 100000) (ra : Rd w ao A) (rb : Rd w bo B) (da : Bg.dok A) (db : Bg.dok B) :
    Calls Try.prog 70 #[.slice ao A.length ca, .slice bo B.length cb] w fun e w' => ∃ (o : Option Addr) (ds : List Nat) (c : Nat), e = .returned (.slice o ds.length c) ∧ ds.length ≤ c ∧ Rd w' o ds ∧ Bg.can ds ∧ Bg.val ds = Bg.val A * Bg.val B ∧ New w.heap.size o c ∧ Below w.heap.size w w' := by
  have ra' : Hid (Rd w ao A) := ra
  have rb' : Hid (Rd w bo B) := rb
  have da' : Hid (Bg.dok A) := da
  have db' : Hid (Bg.dok B) := db
  obtain ⟨i0, hi, hz0, hz1, hz2⟩ := info_parts info_int
  obtain ⟨n, hn⟩ : ∃ n : Nat, n = A.length + B.length + 1 := ⟨_, rfl⟩
  have hn1 : (A.length : Int) + B.length + 1 ≤ n := by omega
  have hn2 : (n : Int) ≤ (A.length : Int) + B.length + 1 := by omega
  have hn' : Hid (n = A.length + B.length + 1) := hn
  clear ra rb da db hn
  go_enter Try.func70, Try.ntmps70
  go_wp2_with (at_make; refine wpList_make_full _ rfl _ _ 50 rfl w.heap.size 3 i0 (.int .i64 0) 1 Try.underlying50 hi hz0 hz1 .i64 .i64 _ _ n rfl rfl (by omega) (by omega) (by rw [hz2]; omega) (by unfold maxLen; omega) (Nat.le_refl _) ?_)
  intro w1 hown hgrow
  have H0 : Hid (w1.ownsRow w.heap.size 3 1 (.slice (some ⟨w.heap.size, 0, none⟩) n n) n (vals (List.replicate n 0)) ∧ Below w.heap.size w w1) := ⟨by rw [← vals_zeros]; exact hown, (Below.refl _ _).grown hgrow (Nat.le_refl _) (by simp)⟩
  clear hown hgrow
  go_wp2
  go_loopw [6] (fun v wr => ∃ (i : Nat) (O : List Nat), v = .int .i64 (i : Int) ∧ (i : Int) ≤ A.length ∧ Hid (wr.ownsRow w.heap.size 3 1 (.slice (some ⟨w.heap.size, 0, none⟩) n n) n (vals O) ∧ O.length = n ∧ Bg.dok O ∧ Bg.val O = Bg.val (A.take i) * Bg.val B ∧ Below w.heap.size w wr)) (fun v _ => A.length - (intOf v).toNat)
  case atStart => exact ⟨0, List.replicate n 0, rfl, by omega, H0.out.1, by simp, Bg.dok_zeros n, by rw [Bg.val_zeros]; simp [Bg.val], H0.out.2⟩
  case round =>
    obtain ⟨i, O, rfl, hi1, hH⟩ := hrel
    by_cases h1 : (i : Int) < A.length
    · clear H0
      go_wp2
      go_loopw [7, 8] (fun c kk wv => ∃ (cn : Int) (k : Nat) (O2 : List Nat), c = .int .i64 cn ∧ kk = .int .i64 (k : Int) ∧ 0 ≤ cn ∧ cn ≤ 65535 ∧ (k : Int) ≤ (B.length : Int) + 1 ∧ Hid (wv.ownsRow w.heap.size 3 1 (.slice (some ⟨w.heap.size, 0, none⟩) n n) n (vals O2) ∧ O2.length = n ∧ Bg.dok O2 ∧ Bg.val O2 + 65536 ^ (i + k) * cn.toNat = Bg.val (A.take i) * Bg.val B + 65536 ^ i * (A.getD i 0 * Bg.val (B.take k)) ∧ Below w.heap.size w wv)) (fun _ kk _ => B.length + 2 - (intOf kk).toNat)
      case atStart => exact ⟨0, 0, O, rfl, rfl, by omega, by omega, by omega, hH.out.1, hH.out.2.1, hH.out.2.2.1, by rw [hH.out.2.2.2.1]; simp [Bg.val], hH.out.2.2.2.2⟩
      case round =>
        obtain ⟨cn, k, O2, rfl, rfl, hc0, hc1, hk, hH2⟩ := hrel
        clear hH
        by_cases h2 : (k : Int) < B.length
        · obtain ⟨b, x, g1, g2, g3, hx, x0, x1⟩ := (ra'.out.below hH2.out.2.2.2.2 (Nat.le_refl _)).at da'.out i (by omega)
          have hix : ∀ w, Sem.run Try.prog (Instr.indexAt 50 (.slice ao A.length ca) (.int .i64 (i : Int))) w = .ok (.pointer (some ⟨b, i, none⟩)) w := idx_run A.length ca i i g1.out rfl (by omega)
          obtain ⟨c, y, f1, f2, f3, hy, y0, y1⟩ := (rb'.out.below hH2.out.2.2.2.2 (Nat.le_refl _)).at db'.out k (by omega)
          have hiy : ∀ w, Sem.run Try.prog (Instr.indexAt 50 (.slice bo B.length cb) (.int .i64 (k : Int))) w = .ok (.pointer (some ⟨c, k, none⟩)) w := idx_run B.length cb k k f1.out rfl (by omega)
          obtain ⟨z, z1, z2, hzz, z3, z4⟩ := own_at hH2.out.1 hH2.out.2.1 hH2.out.2.2.1 (i + k) (by omega)
          have hiz : ∀ v, Sem.run Try.prog (Instr.indexAt 50 (.slice (some ⟨w.heap.size, 0, none⟩) n n) (.int .i64 ((i : Int) + (k : Int)))) v = .ok (.pointer (some ⟨w.heap.size, i + k, none⟩)) v := idx_run n n (i + k) _ rfl (by omega) (by omega)
          obtain ⟨p, hp⟩ : ∃ p : Int, p = x * y := ⟨_, rfl⟩
          have ep : x * y = p := hp.symm
          have p0 : 0 ≤ p := by rw [hp]; exact Int.mul_nonneg x0 y0
          have p1 : p ≤ 4294836225 := by rw [hp]; have := Int.mul_le_mul x1 y1 y0 (by omega : (0 : Int) ≤ 65535); omega
          have hp' : Hid (p = ((A.getD i 0 * B.getD k 0 : Nat) : Int)) := by show _ = _; rw [hp, hx.out, hy.out, Int.natCast_mul]
          clear hp
          obtain ⟨dg, hdg⟩ : ∃ dg : Int, dg = (z + cn + p) % 65536 := ⟨_, rfl⟩
          obtain ⟨cq, hcq⟩ : ∃ cq : Int, cq = (z + cn + p) / 65536 := ⟨_, rfl⟩
          have ed : (z + cn + p) % 65536 = dg := hdg.symm
          have eq : (z + cn + p) / 65536 = cq := hcq.symm
          have dg0 : 0 ≤ dg := by omega
          have dg1 : dg ≤ 65535 := by omega
          have cq0 : 0 ≤ cq := by omega
          have cq1 : cq ≤ 65535 := by omega
          have STEP : Hid (Bg.val (O2.set (i + k) dg.toNat) + 65536 ^ (i + (k + 1)) * cq.toNat = Bg.val (A.take i) * Bg.val B + 65536 ^ i * (A.getD i 0 * Bg.val (B.take (k + 1)))) := by
            refine Bg.times_step A B O2 i k (i + k) cn.toNat dg.toNat cq.toNat rfl (by rw [hH2.out.2.1]; omega) ?_ hH2.out.2.2.2.1
            have hz := hzz.out
            have hpp := hp'.out; omega
          have hdN : dg = ((dg.toNat : Nat) : Int) := by omega
          obtain ⟨dn, hdn⟩ : ∃ dn : Nat, dn = dg.toNat := ⟨_, rfl⟩
          have hdd : Hid (dg = (dn : Int) ∧ dn = dg.toNat) := ⟨by omega, hdn⟩
          have OS : Hid _ := own_store (O := O2) hH2.out.1 hH2.out.2.2.2.2 (i + k) dn
          clear hdg hcq hdN hdn
          go_wp2
          go_quiet (fail)
          go_wp2
          go_roundw
          case rel =>
            have h1 := OS.out.1
            have h2 := OS.out.2
            rw [← hdd.out.1] at h1 h2
            refine ⟨cq, k + 1, O2.set (i + k) dn, congrArg (Value.int .i64) eq, by go_num, cq0, cq1, by omega, ?_, by rw [List.length_set]; exact hH2.out.2.1, Bg.dok_set hH2.out.2.2.1 _ (by have := hdd.out; omega), by have := STEP.out; rw [← hdd.out.2] at this; exact this, ?_⟩
            · exact h1
            · exact below_drewN h2 _
          case measure => simp [intOf]; omega
        · by_cases h3 : 0 < cn
          · have hkB : (k : Int) ≤ B.length := by
              refine Int.not_lt.1 fun hlt => ?_
              have := Bg.times_over A B O2 i k (i + k) cn.toNat db'.out da'.out (by omega) rfl (by omega) hH2.out.2.2.2.1
              omega
            obtain ⟨z, z1, z2, hzz, z3, z4⟩ := own_at hH2.out.1 hH2.out.2.1 hH2.out.2.2.1 (i + k) (by omega)
            have hiz : ∀ v, Sem.run Try.prog (Instr.indexAt 50 (.slice (some ⟨w.heap.size, 0, none⟩) n n) (.int .i64 ((i : Int) + (k : Int)))) v = .ok (.pointer (some ⟨w.heap.size, i + k, none⟩)) v := idx_run n n (i + k) _ rfl (by omega) (by omega)
            obtain ⟨dg, hdg⟩ : ∃ dg : Int, dg = (z + cn) % 65536 := ⟨_, rfl⟩
            obtain ⟨cq, hcq⟩ : ∃ cq : Int, cq = (z + cn) / 65536 := ⟨_, rfl⟩
            have ed : (z + cn) % 65536 = dg := hdg.symm
            have eq : (z + cn) / 65536 = cq := hcq.symm
            have dg0 : 0 ≤ dg := by omega
            have dg1 : dg ≤ 65535 := by omega
            have cq0 : 0 ≤ cq := by omega
            have cq1 : cq ≤ 65535 := by omega
            have STEP : Hid (Bg.val (O2.set (i + k) dg.toNat) + 65536 ^ (i + (k + 1)) * cq.toNat = Bg.val (A.take i) * Bg.val B + 65536 ^ i * (A.getD i 0 * Bg.val (B.take (k + 1)))) := by
              refine Bg.times_step A B O2 i k (i + k) cn.toNat dg.toNat cq.toNat rfl (by rw [hH2.out.2.1]; omega) ?_ hH2.out.2.2.2.1
              have hz := hzz.out
              rw [Bg.getD_out B k (by omega), Nat.mul_zero]; omega
            have hdN : dg = ((dg.toNat : Nat) : Int) := by omega
            obtain ⟨dn, hdn⟩ : ∃ dn : Nat, dn = dg.toNat := ⟨_, rfl⟩
            have hdd : Hid (dg = (dn : Int) ∧ dn = dg.toNat) := ⟨by omega, hdn⟩
            have OS : Hid _ := own_store (O := O2) hH2.out.1 hH2.out.2.2.2.2 (i + k) dn
            clear hdg hcq hdN hdn
            go_wp2
            go_roundw
            case rel =>
              have h1 := OS.out.1
              have h2 := OS.out.2
              rw [← hdd.out.1] at h1 h2
              refine ⟨cq, k + 1, O2.set (i + k) dn, congrArg (Value.int .i64) eq, by go_num, cq0, cq1, by omega, ?_, by rw [List.length_set]; exact hH2.out.2.1, Bg.dok_set hH2.out.2.2.1 _ (by have := hdd.out; omega), by have := STEP.out; rw [← hdd.out.2] at this; exact this, ?_⟩
              · exact h1
              · exact h2
            case measure => simp [intOf]; omega
          · go_wp2
            go_roundw
            case rel => exact ⟨i + 1, O2, by go_num, by omega, hH2.out.1, hH2.out.2.1, hH2.out.2.2.1, Bg.times_row A B O2 i k (by omega) (by have := hH2.out.2.2.2.1; rw [show cn.toNat = 0 from by omega] at this; exact this), hH2.out.2.2.2.2⟩
            case measure => simp [intOf]; omega
    · obtain ⟨o, cc, ho, o1, o2, o3⟩ := own_rd (by rw [hH.out.2.1]; exact hH.out.1 : wr.ownsRow w.heap.size 3 1 (.slice (some ⟨w.heap.size, 0, none⟩) n n) O.length (vals O))
      have hlO : Hid (O.length = n) := hH.out.2.1
      have hho : Hid (Value.slice (some ⟨w.heap.size, 0, none⟩) n n = .slice o O.length cc) := ho
      have RD : Hid (Rd wr o O ∧ O.length ≤ cc) := ⟨o2, o1⟩
      have NN : Hid (New w.heap.size o cc) := o3
      have HB : Hid (Below w.heap.size w wr ∧ Bg.val O = Bg.val (A.take i) * Bg.val B) := ⟨hH.out.2.2.2.2, hH.out.2.2.2.1⟩
      clear H0 ho o1 o2 o3
      go_wp2_with fail
      rw [hho.out]
      refine (trim_any o O cc _ (by have := hlO.out; omega) (by have := RD.out.2; omega) RD.out.1 hH.out.2.2.1).mono ?_
      rintro e w2 ⟨m, rfl, t1, t2, t3, rfl⟩
      have TT : Hid (m ≤ O.length ∧ Bg.can (O.take m) ∧ Bg.val (O.take m) = Bg.val O) := ⟨t1, t2, t3⟩
      clear t1 t2 t3 hH
      go_wp2
      go_ret
      obtain ⟨t1, t2, t3⟩ := TT.out
      have hl : (O.take m).length = m := by rw [List.length_take]; omega
      refine ⟨o, O.take m, cc, ret_slice hl.symm, by rw [hl]; have := RD.out.2; omega, RD.out.1.take m, t2, ?_, NN.out, HB.out.1⟩
      rw [t3, HB.out.2, Bg.val_take_all A i (by omega)]
end Go.Proofs.Ytdmaaigchfgmdaa
