/- What the reference's DecodeControl returns, where there is room behind the bytes. -/
import Derived.Test.YtoljhmnghhhggaaWNl
namespace Go.Proofs.Ytoljhmnghhhggaa
open Go.RowKit
set_option maxRecDepth 40000 in
set_option maxHeartbeats 8000000 in
theorem rdec_A (ao : Option Addr) (L cap : Nat) (bs : List Int) (w : World) (hl : bs.length ≤ 10000000) (h : Sv w.heap.size w (.slice ao L cap) bs) (hc12 : ¬ cap = 12) :
    Calls Try.prog 31 #[.slice ao L cap] w fun e' w' => ∃ (ver : Int) (r e m : Bool) (op seq sta ass off : Int) (dv : Value) (data : List Int) (key : Int) (mv : Value) (mac : List Int) (E : Int), e' = .returned (.tuple #[ctV ver r e m op seq sta ass off dv key mv, .int .i64 E]) ∧ Below w.heap.size w w' ∧ Own w' w.heap.size dv data ∧ Own w' w.heap.size mv mac ∧ DE bs E ∧ (E = 0 → DV bs ver r e m op seq sta ass off data key mac) ∧ (E ≠ 0 → ctV ver r e m op seq sta ass off dv key mv = zC) := by
  have H : Hid (Sv w.heap.size w (.slice ao L cap) bs) := h
  have HL : Hid (bs.length ≤ 10000000) := hl
  obtain ⟨ao', cap', hv, hc, hcn, hrs, hok⟩ := h
  injection hv with p1 p2 p3
  subst p1 p3
  have hL : L = bs.length := p2
  clear p2
  have HLL : Hid (L = bs.length) := hL
  have hLi : (L : Int) ≤ 10000000 := by omega
  have hcL : (L : Int) ≤ cap := by omega
  have HB : Hid (okb bs ∧ Rs w.heap.size w ao bs) := ⟨hok, hrs⟩
  clear hc hcn hrs hok hL hl
  by_cases l512 : 512 < L
  · have hl5 : (512 : Int) < L := by omega
    have HE : Hid (DE bs 31) := by
      have := HLL.out
      exact ⟨fun _ => rfl, fun x => absurd x (by omega), fun _ x => absurd x (by omega), fun _ x => absurd x (by omega)⟩
    clear l512
    go_enter Try.func31, Try.ntmps31
    go_wp2_with fail
    refine bodyPost_ret (v := .tuple #[zC, .int .i64 31]) (by simp [results, Try.results31, go_sem, zC]) rfl ⟨0, false, false, false, 0, 0, 0, 0, 0, .slice none 0 0, [], 0, .slice none 0 0, [], 31, rfl, ?_, Own.nil _ _, Own.nil _ _, HE.out, fun h => absurd h (by decide), fun _ => rfl⟩
    exact (by repeat' (first | with_reducible exact Below.refl _ _ | with_reducible refine Below.setCell ?_ (by first | (simp; done) | (simp; omega) | omega) _ | with_reducible refine below_drewN ?_ _ | with_reducible refine Below.drew ?_ | with_reducible refine Below.alloc ?_ (by first | (simp; done) | (simp; omega) | omega) _))
  have hl5 : (L : Int) ≤ 512 := by omega
  by_cases l12 : L < 12
  · have hl12 : (L : Int) < 12 := by omega
    have HE : Hid (DE bs 30) := by
      have := HLL.out
      exact ⟨fun x => absurd x (by omega), fun _ => rfl, fun x => absurd x (by omega), fun x => absurd x (by omega)⟩
    clear l512 l12
    go_enter Try.func31, Try.ntmps31
    go_wp2_with fail
    refine bodyPost_ret (v := .tuple #[zC, .int .i64 30]) (by simp [results, Try.results31, go_sem, zC]) rfl ⟨0, false, false, false, 0, 0, 0, 0, 0, .slice none 0 0, [], 0, .slice none 0 0, [], 30, rfl, ?_, Own.nil _ _, Own.nil _ _, HE.out, fun h => absurd h (by decide), fun _ => rfl⟩
    exact (by repeat' (first | with_reducible exact Below.refl _ _ | with_reducible refine Below.setCell ?_ (by first | (simp; done) | (simp; omega) | omega) _ | with_reducible refine below_drewN ?_ _ | with_reducible refine Below.drew ?_ | with_reducible refine Below.alloc ?_ (by first | (simp; done) | (simp; omega) | omega) _))
  have hl12 : (12 : Int) ≤ L := by omega
  have HLE : Hid (12 ≤ bs.length ∧ bs.length ≤ 512) := by have := HLL.out; exact ⟨by omega, by omega⟩
  clear l512 l12
  obtain ⟨ad, g0, b0⟩ := HB.out.2.at 0 (by have := HLE.out; omega)
  obtain ⟨ad', g1, b1⟩ := HB.out.2.at 1 (by have := HLE.out; omega)
  have ha : ad' = ad := by have := g0.out.symm.trans g1.out; injection this with this; exact this.symm
  subst ha
  have hix0 : ∀ w, Sem.run Try.prog (Instr.indexAt 27 (.slice ao L cap) (.int .i64 0)) w = .ok (.pointer (some (ad'.add 0))) w := idx_run L cap 0 g1.out (by omega)
  have hix1 : ∀ w, Sem.run Try.prog (Instr.indexAt 27 (.slice ao L cap) (.int .i64 1)) w = .ok (.pointer (some (ad'.add 1))) w := idx_run L cap 1 g1.out (by omega)
  obtain ⟨a0, ha0⟩ : ∃ a, a = ad'.add 0 := ⟨_, rfl⟩
  obtain ⟨a1, ha1⟩ : ∃ a, a = ad'.add 1 := ⟨_, rfl⟩
  have hb0 : w.heap.size ≠ a0.block := by rw [ha0]; exact World.new_ne w _ b0
  have hb1 : w.heap.size ≠ a1.block := by rw [ha1]; exact World.new_ne w _ b1
  have hlt0 : a0.block < w.heap.size := by rw [ha0]; exact World.block_lt_of_cell? w _ b0
  have hlt1 : a1.block < w.heap.size := by rw [ha1]; exact World.block_lt_of_cell? w _ b1
  obtain ⟨x0, hx0⟩ : ∃ x, x = bs.getD 0 0 := ⟨_, rfl⟩
  obtain ⟨x1, hx1⟩ : ∃ x, x = bs.getD 1 0 := ⟨_, rfl⟩
  rw [← ha0] at b0 hix0
  rw [← ha1] at b1 hix1
  obtain ⟨x00, x01⟩ := okb_at HB.out.1 0
  obtain ⟨x10, x11⟩ := okb_at HB.out.1 1
  rw [← hx0] at b0 x00 x01
  rw [← hx1] at b1 x10 x11
  have HX : Hid (x0 = fv bs 0 1 ∧ x1 = fv bs 1 1) := ⟨by rw [hx0, fv1 bs 0 (by have := HLE.out; omega)], by rw [hx1, fv1 bs 1 (by have := HLE.out; omega)]⟩
  clear ha0 ha1 hx0 hx1 g0 g1
  obtain ⟨W0, hW0⟩ : ∃ W, W = (w.alloc (.cells #[.int .i64 0, .bool false, .bool false, .bool false, .int .i64 0, .int .i64 0, .int .i64 0, .int .i64 0, .int .i64 0, .slice none 0 0, .int .i64 0, .slice none 0 0] 48)).alloc (.cells #[.int .i64 0, .bool false, .bool false, .bool false, .int .i64 0, .int .i64 0, .int .i64 0, .int .i64 0, .int .i64 0, .slice none 0 0, .int .i64 0, .slice none 0 0] 48) := ⟨_, rfl⟩
  have R0 : Hid (RB w W0) := by
    rw [hW0]
    refine ⟨(Bk.new w _ _).alloc _, ?_, (by repeat' (first | with_reducible exact Below.refl _ _ | with_reducible refine Below.setCell ?_ (by first | (simp; done) | (simp; omega) | omega) _ | with_reducible refine below_drewN ?_ _ | with_reducible refine Below.drew ?_ | with_reducible refine Below.alloc ?_ (by first | (simp; done) | (simp; omega) | omega) _))⟩
    have := Bk.new (w.alloc (.cells #[.int .i64 0, .bool false, .bool false, .bool false, .int .i64 0, .int .i64 0, .int .i64 0, .int .i64 0, .int .i64 0, .slice none 0 0, .int .i64 0, .slice none 0 0] 48)) #[.int .i64 0, .bool false, .bool false, .bool false, .int .i64 0, .int .i64 0, .int .i64 0, .int .i64 0, .int .i64 0, .slice none 0 0, .int .i64 0, .slice none 0 0] 48
    simpa using this
  have sz0 : W0.heap.size = w.heap.size + 2 := by rw [hW0]; simp
  have c0 : W0.cell? a0 = some (.int .u8 x0) := by rw [R0.out.bel.cell hlt0]; exact b0
  have c1 : W0.cell? a1 = some (.int .u8 x1) := by rw [R0.out.bel.cell hlt1]; exact b1
  obtain ⟨VR, hVR⟩ : ∃ A, A = x0 / 8 := ⟨_, rfl⟩
  obtain ⟨Q6, hQ6⟩ : ∃ A, A = x1 / 64 := ⟨_, rfl⟩
  obtain ⟨Q3, hQ3⟩ : ∃ A, A = x1 / 32 := ⟨_, rfl⟩
  obtain ⟨OP, hOP⟩ : ∃ A, A = x1 % 32 := ⟨_, rfl⟩
  obtain ⟨A7, hA7⟩ : ∃ A, A = x0 % 8 := ⟨_, rfl⟩
  have e1 : IntKind.u8.wrap (x0.tdiv 8) = VR := by rw [Int.tdiv_eq_ediv_of_nonneg x00, hVR, IntKind.wrap_u8]; omega
  have e2 : IntKind.u8.wrap (x1.tdiv 64) = Q6 := by rw [Int.tdiv_eq_ediv_of_nonneg x10, hQ6, IntKind.wrap_u8]; omega
  have e3 : IntKind.u8.wrap (x1.tdiv 32) = Q3 := by rw [Int.tdiv_eq_ediv_of_nonneg x10, hQ3, IntKind.wrap_u8]; omega
  have e4 : x1.tmod 32 = OP := by rw [Int.tmod_eq_emod_of_nonneg x10, hOP]
  have e5 : x0.tmod 8 = A7 := by rw [Int.tmod_eq_emod_of_nonneg x00, hA7]
  have v0 : 0 ≤ VR := by omega
  have v1 : VR < 32 := by omega
  have o0 : 0 ≤ OP := by omega
  have o1 : OP < 32 := by omega
  obtain ⟨rB, hrB⟩ : ∃ B, decide (128 ≤ x1) = B := ⟨_, rfl⟩
  obtain ⟨eB, heB⟩ : ∃ B, (Q6.tmod 2 == 1) = B := ⟨_, rfl⟩
  obtain ⟨mB, hmB⟩ : ∃ B, (Q3.tmod 2 == 1) = B := ⟨_, rfl⟩
  have HBt : Hid (VR = x0 / 8 ∧ A7 = x0 % 8 ∧ OP = x1 % 32 ∧ rB = decide (x1 / 128 % 2 = 1) ∧ eB = decide (x1 / 64 % 2 = 1) ∧ mB = decide (x1 / 32 % 2 = 1)) := by
    refine ⟨hVR, hA7, hOP, ?_, ?_, ?_⟩
    · rw [← hrB, decide_eq_decide]; omega
    · rw [← heB, Int.tmod_eq_emod_of_nonneg (by omega), hQ6, Bool.eq_iff_iff, beq_iff_eq, decide_eq_true_iff]
    · rw [← hmB, Int.tmod_eq_emod_of_nonneg (by omega), hQ3, Bool.eq_iff_iff, beq_iff_eq, decide_eq_true_iff]
  have ew : IntKind.i64.wrap VR = VR := by rw [IntKind.wrap_i64]; omega
  have ew2 : IntKind.i64.wrap OP = OP := by rw [IntKind.wrap_i64]; omega
  clear hVR hQ6 hQ3 hOP hA7
  go_enter Try.func31, Try.ntmps31
  go_wp2_with fail
  rw [← hW0]
  clear hW0
  have n0 := World.new_ne W0 a0 c0
  have n1 := World.new_ne W0 a1 c1
  go_region_held3 (fun w' => w'.cell? a0 = some (.int .u8 x0) ∧ w'.cell? a1 = some (.int .u8 x1)) (first | exact ⟨c0, c1⟩ | go_keep) (fail)
  obtain ⟨CV, hCV⟩ : ∃ C, C = wiB VR 1 4 := ⟨_, rfl⟩
  have HWi : Hid (∀ w', Calls Try.prog 38 #[.int .i64 VR, .int .i64 1, .int .i64 4] w' fun e' w2 => e' = .returned (.bool CV) ∧ w2 = w') := fun w' => by rw [hCV]; exact rwithin_any VR 1 4 w'
  have HCV : Hid (CV = wiB VR 1 4) := hCV
  clear hCV
  go_wp2_with fail
  refine (HWi.out _).mono ?_
  rintro e' W1 ⟨rfl, hW1⟩
  have R1 : Hid (RC w W1 #[.int .i64 VR, .bool rB, .bool eB, .bool mB, .int .i64 OP, .int .i64 0, .int .i64 0, .int .i64 0, .int .i64 0, .slice none 0 0, .int .i64 0, .slice none 0 0]) := by
    rw [hW1]
    refine ⟨⟨R0.out.b0.alloc _, R0.out.b1.alloc _, (R0.out.bel.alloc (by omega) _).drew⟩, ?_⟩
    have := Bk.new W0 #[.int .i64 VR, .bool rB, .bool eB, .bool mB, .int .i64 OP, .int .i64 0, .int .i64 0, .int .i64 0, .int .i64 0, .slice none 0 0, .int .i64 0, .slice none 0 0] 48
    rw [sz0] at this
    exact this
  have d0 : W1.cell? a0 = some (.int .u8 x0) := by rw [R1.out.rb.bel.cell hlt0]; exact b0
  clear hW1 c0 c1 n0 n1 R0
  have H32 : Hid (¬ cG bs → DE bs 32) := fun hn => by
    have := HLE.out
    exact ⟨fun x => absurd x (by omega), fun x => absurd x (by omega), fun _ _ _ => rfl, fun _ _ x => absurd x.1 hn⟩
  cases CV
  · have HN : Hid (DE bs 32) := H32.out (fun hc => by
      have e := HCV.out
      rw [HBt.out.1, HX.out.1] at e
      rw [wiB_t hc.1] at e
      cases e)
    obtain ⟨z0, z1, z2, z3, z4, z5, z6, z7, z8, z9, z10, z11⟩ := R1.out.rb.b1.c12
    obtain ⟨t0, t1, t2, t3, t4, t5, t6, t7, t8, t9, t10, t11⟩ := R1.out.rb.b0.c12
    have tf := R1.out.rb.b0.frozen
    go_wp2_with fail
    refine bodyPost_ret (v := .tuple #[zC, .int .i64 32]) (by simp [results, Try.results31, go_sem, zC, t0, t1, t2, t3, t4, t5, t6, t7, t8, t9, t10, t11]) rfl ⟨0, false, false, false, 0, 0, 0, 0, 0, .slice none 0 0, [], 0, .slice none 0 0, [], 32, rfl, ?_, Own.nil _ _, Own.nil _ _, HN.out, fun h => absurd h (by decide), fun _ => rfl⟩
    exact (by repeat' (first | with_reducible exact Below.refl _ _ | with_reducible exact R1.out.rb.bel | with_reducible refine Below.setCell ?_ (by first | (simp; done) | (simp; omega) | omega) _ | with_reducible refine below_drewN ?_ _ | with_reducible refine Below.drew ?_ | with_reducible refine Below.alloc ?_ (by first | (simp; done) | (simp; omega) | omega) _))
  by_cases hA6 : A7 = 6
  rotate_left
  · have bA : (A7 != 6) = true := by rw [bne_iff_ne]; exact hA6
    have HN : Hid (DE bs 32) := H32.out (fun hc => hA6 (by rw [HBt.out.2.1, HX.out.1]; exact hc.2.1))
    obtain ⟨z0, z1, z2, z3, z4, z5, z6, z7, z8, z9, z10, z11⟩ := R1.out.rb.b1.c12
    obtain ⟨t0, t1, t2, t3, t4, t5, t6, t7, t8, t9, t10, t11⟩ := R1.out.rb.b0.c12
    have tf := R1.out.rb.b0.frozen
    go_wp2_with fail
    refine bodyPost_ret (v := .tuple #[zC, .int .i64 32]) (by simp [results, Try.results31, go_sem, zC, t0, t1, t2, t3, t4, t5, t6, t7, t8, t9, t10, t11]) rfl ⟨0, false, false, false, 0, 0, 0, 0, 0, .slice none 0 0, [], 0, .slice none 0 0, [], 32, rfl, ?_, Own.nil _ _, Own.nil _ _, HN.out, fun h => absurd h (by decide), fun _ => rfl⟩
    exact (by repeat' (first | with_reducible exact Below.refl _ _ | with_reducible exact R1.out.rb.bel | with_reducible refine Below.setCell ?_ (by first | (simp; done) | (simp; omega) | omega) _ | with_reducible refine below_drewN ?_ _ | with_reducible refine Below.drew ?_ | with_reducible refine Below.alloc ?_ (by first | (simp; done) | (simp; omega) | omega) _))
  have bA : (A7 != 6) = false := by rw [bne_eq_false_iff_eq]; exact hA6
  have HG1 : Hid ((1 ≤ fv bs 0 1 / 8 ∧ fv bs 0 1 / 8 ≤ 4) ∧ fv bs 0 1 % 8 = 6) := by
    have e := HCV.out
    rw [HBt.out.1, HX.out.1] at e
    exact ⟨wiB_iff.1 e.symm, by rw [← HX.out.1, ← HBt.out.2.1]; exact hA6⟩
  clear hA6
  obtain ⟨y0, hy0⟩ : ∃ y, y = fv bs 2 2 := ⟨_, rfl⟩
  obtain ⟨y00, y01⟩ := fv2_bd HB.out.1 2
  rw [← hy0] at y00 y01
  have HY0 : Hid (y0 = fv bs 2 2) := hy0
  clear hy0
  have hcp2 : ¬ cap = 2 := by omega
  obtain ⟨y1, hy1⟩ : ∃ y, y = fv bs 4 2 := ⟨_, rfl⟩
  obtain ⟨y10, y11⟩ := fv2_bd HB.out.1 4
  rw [← hy1] at y10 y11
  have HY1 : Hid (y1 = fv bs 4 2) := hy1
  clear hy1
  have hcp4 : ¬ cap = 4 := by omega
  obtain ⟨y2, hy2⟩ : ∃ y, y = fv bs 6 2 := ⟨_, rfl⟩
  obtain ⟨y20, y21⟩ := fv2_bd HB.out.1 6
  rw [← hy2] at y20 y21
  have HY2 : Hid (y2 = fv bs 6 2) := hy2
  clear hy2
  have hcp6 : ¬ cap = 6 := by omega
  obtain ⟨y3, hy3⟩ : ∃ y, y = fv bs 8 2 := ⟨_, rfl⟩
  obtain ⟨y30, y31⟩ := fv2_bd HB.out.1 8
  rw [← hy3] at y30 y31
  have HY3 : Hid (y3 = fv bs 8 2) := hy3
  clear hy3
  have hcp8 : ¬ cap = 8 := by omega
  obtain ⟨y4, hy4⟩ : ∃ y, y = fv bs 10 2 := ⟨_, rfl⟩
  obtain ⟨y40, y41⟩ := fv2_bd HB.out.1 10
  rw [← hy4] at y40 y41
  have HY4 : Hid (y4 = fv bs 10 2) := hy4
  clear hy4
  have hcp10 : ¬ cap = 10 := by omega
  have SV : Hid (∀ v, RB w v → Sv w.heap.size v (.slice ao L cap) bs) := fun v h => H.out.below h.bel (Nat.le_refl _)
  have HLk : Hid (12 ≤ bs.length) := HLE.out.1
  go_wp2_with fail
  refine (getf (SV.out _ R1.out.rb) 2 (by have := HLk.out; omega) y0 HY0.out).mono ?_
  rintro e' W2 ⟨rfl, hW⟩
  rw [hW]
  clear hW d0
  have u5 := R1.out.c.cell 5
  have uf5 := R1.out.c.frozen 5
  simp only [List.getElem?_toArray, List.getElem?_cons_zero, List.getElem?_cons_succ] at u5
  go_wp2_with fail
  refine (getf (SV.out _ (R1.out.set 5 _).rb) 4 (by have := HLk.out; omega) y1 HY1.out).mono ?_
  rintro e' W3 ⟨rfl, hW⟩
  have R2 : Hid (RC w W3 #[.int .i64 VR, .bool rB, .bool eB, .bool mB, .int .i64 OP, .int .i64 y0, .int .i64 0, .int .i64 0, .int .i64 0, .slice none 0 0, .int .i64 0, .slice none 0 0]) := by rw [hW]; exact R1.out.set 5 _
  clear hW R1 u5 uf5
  have u6 := R2.out.c.cell 6
  have uf6 := R2.out.c.frozen 6
  simp only [List.getElem?_toArray, List.getElem?_cons_zero, List.getElem?_cons_succ] at u6
  go_wp2_with fail
  refine (getf (SV.out _ (R2.out.set 6 _).rb) 6 (by have := HLk.out; omega) y2 HY2.out).mono ?_
  rintro e' W4 ⟨rfl, hW⟩
  have R3 : Hid (RC w W4 #[.int .i64 VR, .bool rB, .bool eB, .bool mB, .int .i64 OP, .int .i64 y0, .int .i64 y1, .int .i64 0, .int .i64 0, .slice none 0 0, .int .i64 0, .slice none 0 0]) := by rw [hW]; exact R2.out.set 6 _
  clear hW R2 u6 uf6
  have u7 := R3.out.c.cell 7
  have uf7 := R3.out.c.frozen 7
  simp only [List.getElem?_toArray, List.getElem?_cons_zero, List.getElem?_cons_succ] at u7
  go_wp2_with fail
  refine (getf (SV.out _ (R3.out.set 7 _).rb) 8 (by have := HLk.out; omega) y3 HY3.out).mono ?_
  rintro e' W5 ⟨rfl, hW⟩
  have R4 : Hid (RC w W5 #[.int .i64 VR, .bool rB, .bool eB, .bool mB, .int .i64 OP, .int .i64 y0, .int .i64 y1, .int .i64 y2, .int .i64 0, .slice none 0 0, .int .i64 0, .slice none 0 0]) := by rw [hW]; exact R3.out.set 7 _
  clear hW R3 u7 uf7
  have u8 := R4.out.c.cell 8
  have uf8 := R4.out.c.frozen 8
  simp only [List.getElem?_toArray, List.getElem?_cons_zero, List.getElem?_cons_succ] at u8
  go_wp2_with fail
  refine (getf (SV.out _ (R4.out.set 8 _).rb) 10 (by have := HLk.out; omega) y4 HY4.out).mono ?_
  rintro e' W6 ⟨rfl, hW⟩
  have R5 : Hid (RC w W6 #[.int .i64 VR, .bool rB, .bool eB, .bool mB, .int .i64 OP, .int .i64 y0, .int .i64 y1, .int .i64 y2, .int .i64 y3, .slice none 0 0, .int .i64 0, .slice none 0 0]) := by rw [hW]; exact R4.out.set 8 _
  clear hW R4 u8 uf8
  obtain ⟨L2, hL2⟩ : ∃ L2, L2 = L - 12 := ⟨_, rfl⟩
  obtain ⟨cap2, hcap2⟩ : ∃ c, c = cap - 12 := ⟨_, rfl⟩
  obtain ⟨ao2, hao2⟩ : ∃ a, a = Option.map (fun x => ({ block := x.block, off := x.off + 12 } : Addr)) ao := ⟨_, rfl⟩
  have S2 : Hid (∀ v, RB w v → Sv w.heap.size v (.slice ao2 L2 cap2) (bs.drop 12)) := fun v h => by
    rw [hao2, hL2, hcap2]; exact (SV.out v h).dropA 12
  have HL2 : Hid ((bs.drop 12).length = L2 ∧ bs.length = L2 + 12) := by
    have h1 := HLL.out
    have h2 := HLE.out
    exact ⟨by rw [List.length_drop, ← h1, hL2], by omega⟩
  obtain ⟨LI, hLI⟩ : ∃ LI : Int, (L2 : Int) = LI := ⟨_, rfl⟩
  have HLI : Hid ((L2 : Int) = LI) := hLI
  have hl2 : LI ≤ 500 := by omega
  have hl3 : 0 ≤ LI := by omega
  have hlc : LI ≤ (cap2 : Int) := by omega
  obtain ⟨F, hF0⟩ : ∃ F : Int, F = fil y4 := ⟨_, rfl⟩
  have hYF1 : y4 ≤ F := by rw [hF0]; unfold fil; omega
  have hYF2 : F ≤ y4 + 3 := by rw [hF0]; unfold fil; omega
  have HF : Hid (F = fil (fv bs 10 2)) := by show _ = _; rw [hF0, ← HY4.out]
  have HPd : Hid (∀ w', Calls Try.prog 63 #[.int .i64 y4] w' fun e' w2 => e' = .returned (.int .i64 F) ∧ w2 = w') := fun w' => by rw [hF0]; exact rpadded_any y4 w' (by omega) (by omega)
  clear hF0
  have F0 : 0 ≤ F := by omega
  have F1 : F ≤ 65540 := by omega
  go_wp2_with fail
  rw [← hao2, ← hL2, ← hcap2]
  clear hao2 hL2 hcap2
  refine (HPd.out _).mono ?_
  rintro e' W7 ⟨rfl, hW⟩
  rw [hW]
  clear hW
  by_cases hF : LI < F
  · have HN : Hid (DE bs 32) := H32.out (fun hc => by
      have h1 := hc.2.2.1
      rw [← HF.out] at h1
      have := HL2.out.2
      omega)
    obtain ⟨z0, z1, z2, z3, z4, z5, z6, z7, z8, z9, z10, z11⟩ := R5.out.rb.b1.c12
    obtain ⟨t0, t1, t2, t3, t4, t5, t6, t7, t8, t9, t10, t11⟩ := R5.out.rb.b0.c12
    have tf := R5.out.rb.b0.frozen
    go_wp2_with fail
    refine bodyPost_ret (v := .tuple #[zC, .int .i64 32]) (by simp [results, Try.results31, go_sem, zC, t0, t1, t2, t3, t4, t5, t6, t7, t8, t9, t10, t11]) rfl ⟨0, false, false, false, 0, 0, 0, 0, 0, .slice none 0 0, [], 0, .slice none 0 0, [], 32, rfl, ?_, Own.nil _ _, Own.nil _ _, HN.out, fun h => absurd h (by decide), fun _ => rfl⟩
    exact (by repeat' (first | with_reducible exact Below.refl _ _ | with_reducible exact R5.out.rb.bel | with_reducible refine Below.setCell ?_ (by first | (simp; done) | (simp; omega) | omega) _ | with_reducible refine below_drewN ?_ _ | with_reducible refine Below.drew ?_ | with_reducible refine Below.alloc ?_ (by first | (simp; done) | (simp; omega) | omega) _))
  have hF' : F ≤ LI := by omega
  clear hF
  go_wp2_with (go_at_call 63; refine (HPd.out _).mono ?_; rintro e' w' ⟨rfl, hw⟩; rw [hw]; clear hw)
  have HLF : Hid (F ≤ ((bs.drop 12).length : Int)) := by show _ ≤ _; rw [HL2.out.1, hLI]; exact hF'
  have HokD : Hid (okb (bs.drop 12)) := okb_drop HB.out.1 12
  have hyc : y4 ≤ (cap2 : Int) := by omega
  have hyL : y4 ≤ LI := by omega
  have hFc : F ≤ (cap2 : Int) := by omega
  go_loop [7] (fun i => ∃ k : Int, i = .int .i64 k ∧ y4 ≤ k ∧ k ≤ F ∧ Hid (∀ j : Nat, y4 ≤ j → (j : Int) < k → (bs.drop 12).getD j 0 = 0)) (fun i => (F - intOf i).toNat)
  case atStart => exact ⟨y4, rfl, by omega, by omega, fun j h1 h2 => absurd h2 (by omega)⟩
  case round =>
    obtain ⟨k, rfl, hk0, hk1, hZ⟩ := hrel
    by_cases hkF : k < F
    · obtain ⟨kn, hkn⟩ := Int.eq_ofNat_of_zero_le (show 0 ≤ k by omega)
      obtain ⟨ad2, q1, q2⟩ : ∃ ad : Addr, Hid (ao2 = some ad) ∧ W6.cell? (ad.add kn) = some (.int .u8 ((bs.drop 12).getD kn 0)) := by
        obtain ⟨ao', cap', hv, _, _, hr, _⟩ := S2.out W6 R5.out.rb
        injection hv with p1 p2 p3
        subst p1
        exact hr.at kn (by have := HLF.out; omega)
      have hix : ∀ w, Sem.run Try.prog (Instr.indexAt 27 (.slice ao2 L2 cap2) (.int .i64 k)) w = .ok (.pointer (some (ad2.add kn))) w := idx_int L2 cap2 kn k hkn.symm q1.out (by omega)
      obtain ⟨A2, hA2⟩ : ∃ A, A = ad2.add kn := ⟨_, rfl⟩
      rw [← hA2] at hix q2
      obtain ⟨x2, hx2⟩ : ∃ x, x = (bs.drop 12).getD kn 0 := ⟨_, rfl⟩
      rw [← hx2] at q2
      have HKN : Hid (k = (kn : Int) ∧ x2 = (bs.drop 12).getD kn 0) := ⟨hkn, hx2⟩
      clear hA2 hx2 hkn q1
      by_cases hz2 : x2 = 0
      · subst hz2
        go_wp2_with (go_at_call 63; refine (HPd.out _).mono ?_; rintro e' w' ⟨rfl, hw⟩; rw [hw]; clear hw)
        refine ⟨⟨k + 1, rfl, by omega, by omega, fun j h1 h2 => ?_⟩, by simp [intOf]; omega⟩
        by_cases hj : (j : Int) < k
        · exact hZ.out j h1 hj
        · have : j = kn := by have := HKN.out.1; omega
          rw [this]; exact HKN.out.2.symm
      · have bz : (x2 != 0) = true := by rw [bne_iff_ne]; exact hz2
        have HN : Hid (DE bs 32) := H32.out (fun hc => by
          have h1 := hc.2.2.2
          rw [← HF.out, ← HY4.out] at h1
          exact pad_not HokD.out y4 F y40 kn (by have := HKN.out.1; omega) (by have := HKN.out.1; omega) HLF.out (by rw [← HKN.out.2]; exact hz2) h1)
        clear hz2
        obtain ⟨z0, z1, z2, z3, z4, z5, z6, z7, z8, z9, z10, z11⟩ := R5.out.rb.b1.c12
        obtain ⟨t0, t1, t2, t3, t4, t5, t6, t7, t8, t9, t10, t11⟩ := R5.out.rb.b0.c12
        have tf := R5.out.rb.b0.frozen
        go_wp2_with (go_at_call 63; refine (HPd.out _).mono ?_; rintro e' w' ⟨rfl, hw⟩; rw [hw]; clear hw)
        refine bodyPost_ret (v := .tuple #[zC, .int .i64 32]) (by simp [results, Try.results31, go_sem, zC, t0, t1, t2, t3, t4, t5, t6, t7, t8, t9, t10, t11]) rfl ⟨0, false, false, false, 0, 0, 0, 0, 0, .slice none 0 0, [], 0, .slice none 0 0, [], 32, rfl, ?_, Own.nil _ _, Own.nil _ _, HN.out, fun h => absurd h (by decide), fun _ => rfl⟩
        exact (by repeat' (first | with_reducible exact Below.refl _ _ | with_reducible exact R5.out.rb.bel | with_reducible refine Below.setCell ?_ (by first | (simp; done) | (simp; omega) | omega) _ | with_reducible refine below_drewN ?_ _ | with_reducible refine Below.drew ?_ | with_reducible refine Below.alloc ?_ (by first | (simp; done) | (simp; omega) | omega) _))
    · have hkE : k = F := by omega
      subst hkE
      have HG : Hid (cG bs) := by
        refine ⟨HG1.out.1, HG1.out.2, ?_, ?_⟩
        · rw [← HF.out]; have := HLF.out; have := HL2.out; omega
        · rw [← HF.out, ← HY4.out]; exact pad_zero HokD.out y4 k y40 hYF1 HLF.out hZ.out
      clear hZ hkF hk0 hk1
      go_wp2_with (go_at_call 63; refine (HPd.out _).mono ?_; rintro e' w' ⟨rfl, hw⟩; rw [hw]; clear hw)
      refine (rclone_any w.heap.size _ ((bs.drop 12).take y4.toNat) _ (by have := HL.out; rw [List.length_take, List.length_drop]; omega) ((S2.out _ R5.out.rb).take y4.toNat (by have := HLF.out; omega)) (Nat.le_of_lt R5.out.rb.b0.lt)).mono ?_
      rintro e' W8 ⟨v8, rfl, hb8, ho8⟩
      have R8 : Hid (RC w W8 #[.int .i64 VR, .bool rB, .bool eB, .bool mB, .int .i64 OP, .int .i64 y0, .int .i64 y1, .int .i64 y2, .int .i64 y3, .slice none 0 0, .int .i64 0, .slice none 0 0]) := R5.out.below hb8
      have O8 : Hid (Own W8 (w.heap.size + 3) v8 ((bs.drop 12).take y4.toNat)) := ho8.mono R5.out.c.lt
      obtain ⟨da, dc, hv8, -⟩ := ho8.rs
      subst hv8
      obtain ⟨Dn, hDn⟩ : ∃ D, D = ((bs.drop 12).take y4.toNat).length := ⟨_, rfl⟩
      rw [← hDn] at O8 ⊢
      clear hb8 ho8 hDn
      have u9 := R8.out.c.cell 9
      have uf9 := R8.out.c.frozen 9
      simp only [List.getElem?_toArray, List.getElem?_cons_zero, List.getElem?_cons_succ] at u9
      by_cases hcf : cap2 = k.toNat
      · subst hcf
        go_wp2_with (go_at_call 63; refine (HPd.out _).mono ?_; rintro e' w' ⟨rfl, hw⟩; rw [hw]; clear hw)
        refine (tail_any w.heap.size _ ((bs.drop 12).drop k.toNat) _ (by have := HL.out; rw [List.length_drop, List.length_drop]; omega) ((S2.out _ (R8.out.set 9 _).rb).dropB) (by simp; exact Nat.le_of_lt R8.out.rb.b0.lt)).mono ?_
        rintro e' W9 ⟨kk, mv, mac, okv, rfl, hb9, ho9, htp⟩
        have R9 : Hid (RC w W9 #[.int .i64 VR, .bool rB, .bool eB, .bool mB, .int .i64 OP, .int .i64 y0, .int .i64 y1, .int .i64 y2, .int .i64 y3, .slice da Dn dc, .int .i64 0, .slice none 0 0]) := (R8.out.set 9 (.slice da Dn dc)).below hb9
        have O9 : Hid (Own W9 (w.heap.size + 3) (.slice da Dn dc) ((bs.drop 12).take y4.toNat)) := (O8.out.low (j := 9) (x := .slice da Dn dc) (g := w.heap.size + 2) (by omega)).below hb9 (Nat.le_refl _)
        have P9 : Hid (Own W9 (w.heap.size + 3) mv mac) := ho9.mono (by simp; exact R8.out.c.lt)
        obtain ⟨ma, mc, hmv, -⟩ := ho9.rs
        subst hmv
        obtain ⟨Mn, hMn⟩ : ∃ M, M = mac.length := ⟨_, rfl⟩
        rw [← hMn] at P9 ⊢
        clear hb9 ho9 hMn u9 uf9
        rcases htp with ⟨rfl, hg, hkk, hmac⟩ | ⟨rfl, hng⟩
        · have HE : Hid (DE bs 0) := ⟨fun x => absurd x (by have := HLE.out; omega), fun x => absurd x (by have := HLE.out; omega), fun _ _ x => absurd ⟨HG.out, by unfold rst; rw [← HF.out]; exact hg⟩ x, fun _ _ _ => rfl⟩
          have HV : Hid (DV bs VR rB eB mB OP y0 y1 y2 y3 ((bs.drop 12).take y4.toNat) kk mac) := by
            refine ⟨by rw [HBt.out.1, HX.out.1], by rw [HBt.out.2.2.2.1, HX.out.2], by rw [HBt.out.2.2.2.2.1, HX.out.2], by rw [HBt.out.2.2.2.2.2, HX.out.2], by rw [HBt.out.2.2.1, HX.out.2], HY0.out, HY1.out, HY2.out, HY3.out, by rw [← HY4.out], ?_, ?_⟩
            · unfold rst; rw [← HF.out]; exact hkk
            · unfold rst; rw [← HF.out]; exact hmac
          clear hg hkk hmac
          obtain ⟨z0, z1, z2, z3, z4, z5, z6, z7, z8, z9, z10, z11⟩ := R9.out.c.c12
          have zf := R9.out.c.frozen
          obtain ⟨t0, t1, t2, t3, t4, t5, t6, t7, t8, t9, t10, t11⟩ := R9.out.rb.b0.c12
          have tf := R9.out.rb.b0.frozen
          go_wp2_with fail
          refine bodyPost_ret (v := .tuple #[ctV VR rB eB mB OP y0 y1 y2 y3 (.slice da Dn dc) kk (.slice ma Mn mc), .int .i64 0]) (by simp [results, Try.results31, go_sem, ctV, t0, t1, t2, t3, t4, t5, t6, t7, t8, t9, t10, t11]) rfl ⟨_, _, _, _, _, _, _, _, _, _, (bs.drop 12).take y4.toNat, _, _, mac, 0, rfl, ?_, ?_, ?_, HE.out, fun _ => HV.out, fun h => absurd rfl h⟩
          · exact (by repeat' (first | with_reducible exact Below.refl _ _ | with_reducible exact R9.out.rb.bel | with_reducible refine Below.setCell ?_ (by first | (simp; done) | (simp; omega) | omega) _ | with_reducible refine below_drewN ?_ _ | with_reducible refine Below.drew ?_ | with_reducible refine Below.alloc ?_ (by first | (simp; done) | (simp; omega) | omega) _))
          · refine Own.mono (B := w.heap.size + 3) ?_ (by omega)
            iterate 14 (refine Own.low ?_ (by omega))
            exact O9.out
          · refine Own.mono (B := w.heap.size + 3) ?_ (by omega)
            iterate 14 (refine Own.low ?_ (by omega))
            exact P9.out
        · have HN : Hid (DE bs 32) := ⟨fun x => absurd x (by have := HLE.out; omega), fun x => absurd x (by have := HLE.out; omega), fun _ _ _ => rfl, fun _ _ x => absurd (by have := x.2; unfold rst at this; rw [← HF.out] at this; exact this) hng⟩
          clear hng
          obtain ⟨z0, z1, z2, z3, z4, z5, z6, z7, z8, z9, z10, z11⟩ := R9.out.rb.b1.c12
          obtain ⟨t0, t1, t2, t3, t4, t5, t6, t7, t8, t9, t10, t11⟩ := R9.out.rb.b0.c12
          have tf := R9.out.rb.b0.frozen
          go_wp2_with fail
          refine bodyPost_ret (v := .tuple #[zC, .int .i64 32]) (by simp [results, Try.results31, go_sem, zC, t0, t1, t2, t3, t4, t5, t6, t7, t8, t9, t10, t11]) rfl ⟨0, false, false, false, 0, 0, 0, 0, 0, .slice none 0 0, [], 0, .slice none 0 0, [], 32, rfl, ?_, Own.nil _ _, Own.nil _ _, HN.out, fun h => absurd h (by decide), fun _ => rfl⟩
          exact (by repeat' (first | with_reducible exact Below.refl _ _ | with_reducible exact R9.out.rb.bel | with_reducible refine Below.setCell ?_ (by first | (simp; done) | (simp; omega) | omega) _ | with_reducible refine below_drewN ?_ _ | with_reducible refine Below.drew ?_ | with_reducible refine Below.alloc ?_ (by first | (simp; done) | (simp; omega) | omega) _))
      · skip
        go_wp2_with (go_at_call 63; refine (HPd.out _).mono ?_; rintro e' w' ⟨rfl, hw⟩; rw [hw]; clear hw)
        refine (tail_any w.heap.size _ ((bs.drop 12).drop k.toNat) _ (by have := HL.out; rw [List.length_drop, List.length_drop]; omega) ((S2.out _ (R8.out.set 9 _).rb).dropA k.toNat) (by simp; exact Nat.le_of_lt R8.out.rb.b0.lt)).mono ?_
        rintro e' W9 ⟨kk, mv, mac, okv, rfl, hb9, ho9, htp⟩
        have R9 : Hid (RC w W9 #[.int .i64 VR, .bool rB, .bool eB, .bool mB, .int .i64 OP, .int .i64 y0, .int .i64 y1, .int .i64 y2, .int .i64 y3, .slice da Dn dc, .int .i64 0, .slice none 0 0]) := (R8.out.set 9 (.slice da Dn dc)).below hb9
        have O9 : Hid (Own W9 (w.heap.size + 3) (.slice da Dn dc) ((bs.drop 12).take y4.toNat)) := (O8.out.low (j := 9) (x := .slice da Dn dc) (g := w.heap.size + 2) (by omega)).below hb9 (Nat.le_refl _)
        have P9 : Hid (Own W9 (w.heap.size + 3) mv mac) := ho9.mono (by simp; exact R8.out.c.lt)
        obtain ⟨ma, mc, hmv, -⟩ := ho9.rs
        subst hmv
        obtain ⟨Mn, hMn⟩ : ∃ M, M = mac.length := ⟨_, rfl⟩
        rw [← hMn] at P9 ⊢
        clear hb9 ho9 hMn u9 uf9
        rcases htp with ⟨rfl, hg, hkk, hmac⟩ | ⟨rfl, hng⟩
        · have HE : Hid (DE bs 0) := ⟨fun x => absurd x (by have := HLE.out; omega), fun x => absurd x (by have := HLE.out; omega), fun _ _ x => absurd ⟨HG.out, by unfold rst; rw [← HF.out]; exact hg⟩ x, fun _ _ _ => rfl⟩
          have HV : Hid (DV bs VR rB eB mB OP y0 y1 y2 y3 ((bs.drop 12).take y4.toNat) kk mac) := by
            refine ⟨by rw [HBt.out.1, HX.out.1], by rw [HBt.out.2.2.2.1, HX.out.2], by rw [HBt.out.2.2.2.2.1, HX.out.2], by rw [HBt.out.2.2.2.2.2, HX.out.2], by rw [HBt.out.2.2.1, HX.out.2], HY0.out, HY1.out, HY2.out, HY3.out, by rw [← HY4.out], ?_, ?_⟩
            · unfold rst; rw [← HF.out]; exact hkk
            · unfold rst; rw [← HF.out]; exact hmac
          clear hg hkk hmac
          obtain ⟨z0, z1, z2, z3, z4, z5, z6, z7, z8, z9, z10, z11⟩ := R9.out.c.c12
          have zf := R9.out.c.frozen
          obtain ⟨t0, t1, t2, t3, t4, t5, t6, t7, t8, t9, t10, t11⟩ := R9.out.rb.b0.c12
          have tf := R9.out.rb.b0.frozen
          go_wp2_with fail
          refine bodyPost_ret (v := .tuple #[ctV VR rB eB mB OP y0 y1 y2 y3 (.slice da Dn dc) kk (.slice ma Mn mc), .int .i64 0]) (by simp [results, Try.results31, go_sem, ctV, t0, t1, t2, t3, t4, t5, t6, t7, t8, t9, t10, t11]) rfl ⟨_, _, _, _, _, _, _, _, _, _, (bs.drop 12).take y4.toNat, _, _, mac, 0, rfl, ?_, ?_, ?_, HE.out, fun _ => HV.out, fun h => absurd rfl h⟩
          · exact (by repeat' (first | with_reducible exact Below.refl _ _ | with_reducible exact R9.out.rb.bel | with_reducible refine Below.setCell ?_ (by first | (simp; done) | (simp; omega) | omega) _ | with_reducible refine below_drewN ?_ _ | with_reducible refine Below.drew ?_ | with_reducible refine Below.alloc ?_ (by first | (simp; done) | (simp; omega) | omega) _))
          · refine Own.mono (B := w.heap.size + 3) ?_ (by omega)
            iterate 14 (refine Own.low ?_ (by omega))
            exact O9.out
          · refine Own.mono (B := w.heap.size + 3) ?_ (by omega)
            iterate 14 (refine Own.low ?_ (by omega))
            exact P9.out
        · have HN : Hid (DE bs 32) := ⟨fun x => absurd x (by have := HLE.out; omega), fun x => absurd x (by have := HLE.out; omega), fun _ _ _ => rfl, fun _ _ x => absurd (by have := x.2; unfold rst at this; rw [← HF.out] at this; exact this) hng⟩
          clear hng
          obtain ⟨z0, z1, z2, z3, z4, z5, z6, z7, z8, z9, z10, z11⟩ := R9.out.rb.b1.c12
          obtain ⟨t0, t1, t2, t3, t4, t5, t6, t7, t8, t9, t10, t11⟩ := R9.out.rb.b0.c12
          have tf := R9.out.rb.b0.frozen
          go_wp2_with fail
          refine bodyPost_ret (v := .tuple #[zC, .int .i64 32]) (by simp [results, Try.results31, go_sem, zC, t0, t1, t2, t3, t4, t5, t6, t7, t8, t9, t10, t11]) rfl ⟨0, false, false, false, 0, 0, 0, 0, 0, .slice none 0 0, [], 0, .slice none 0 0, [], 32, rfl, ?_, Own.nil _ _, Own.nil _ _, HN.out, fun h => absurd h (by decide), fun _ => rfl⟩
          exact (by repeat' (first | with_reducible exact Below.refl _ _ | with_reducible exact R9.out.rb.bel | with_reducible refine Below.setCell ?_ (by first | (simp; done) | (simp; omega) | omega) _ | with_reducible refine below_drewN ?_ _ | with_reducible refine Below.drew ?_ | with_reducible refine Below.alloc ?_ (by first | (simp; done) | (simp; omega) | omega) _))
end Go.Proofs.Ytoljhmnghhhggaa
