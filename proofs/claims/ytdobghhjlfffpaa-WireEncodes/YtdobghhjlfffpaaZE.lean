/- What the reference's Message of packets of time returns. -/
import Derived.Test.YtdobghhjlfffpaaXH
import Derived.Test.YtdobghhjlfffpaaXI
import Derived.Test.YtdobghhjlfffpaaXK
import Derived.Test.YtdobghhjlfffpaaXL
import Derived.Test.YtdobghhjlfffpaaWU
import Derived.Test.YtdobghhjlfffpaaWQ
import Derived.Test.YtdobghhjlfffpaaXM
namespace Go.Proofs.Ytdobghhjlfffpaa
open Go.RowKit
set_option linter.unusedVariables false
theorem Own.lit4 (w : World) (B : Nat) (hB : B ≤ w.heap.size) (a b c d : Int) : Own (w.alloc (.cells #[.int .u8 a, .int .u8 b, .int .u8 c, .int .u8 d] 5)) B (.slice (some ⟨w.heap.size, 0, none⟩) 4 4) [a, b, c, d] := by
  refine ⟨by simp [U], .inr ⟨w.heap.size, 4, _, rfl, hB, heap_alloc_new w _, Nat.le_refl _, by unfold maxLen; decide, by simp, by simp [U]⟩⟩
theorem be_one1 (n : Int) : be 1 n = [n % 256] := by
  unfold be
  simp [by8]
theorem rtoShort3 (d : Int) (w : World) (d1 : d ≤ 9223372036854775807) :
    Calls Try.prog 28 #[.int .i64 d] w fun e w' => e = .returned (.int .u32 (sh d)) ∧ w' = w := by
  by_cases h : d ≤ 0
  · go_enter Try.func28, Try.ntmps28
    go_wp2
    go_ret
    exact ⟨ret_u32 (by unfold sh; rw [if_pos h]), rfl⟩
  · have h' : 0 < d := by omega
    by_cases hm : d % 65536 = 0
    · have hb : (d / 65536 * 65536 != d) = false := by rw [bne_eq_false_iff_eq]; omega
      have HM : Hid (d % 65536 = 0) := hm
      clear hm
      go_enter Try.func28, Try.ntmps28
      go_wp2
      all_goals
        have hm := HM.out
        go_ret
        exact ⟨ret_u32 (by unfold sh; rw [if_neg (by omega)]; (try simp only [IntKind.wrap_u32]); (try split at *) <;> omega), rfl⟩
    · have hb : (d / 65536 * 65536 != d) = true := by rw [bne_iff_ne]; omega
      have HM : Hid (¬ d % 65536 = 0) := hm
      clear hm
      go_enter Try.func28, Try.ntmps28
      go_wp2
      all_goals
        have hm := HM.out
        go_ret
        exact ⟨ret_u32 (by unfold sh; rw [if_neg (by omega)]; (try simp only [IntKind.wrap_u32]); (try split at *) <;> omega), rfl⟩
theorem hdB_eq (h : Hd) (X0 X2 X3 SD SS : Int) (e0 : X0 = 64 * h.leap + 8 * h.ver + h.mode) (e2 : X2 = h.poll % 256) (e3 : X3 = h.prec % 256) (eD : SD = sh h.del) (eS : SS = sh h.dis) (x0 : 0 ≤ X0) (x1 : X0 < 256) (s0 : 0 ≤ h.str) (s1 : h.str ≤ 255) :
    [X0, h.str, X2, X3] ++ be 4 SD ++ be 4 SS ++ be 4 h.rid ++ be 8 h.t0 ++ be 8 h.t1 ++ be 8 h.t2 ++ be 8 h.t3 = hdB h := by
  unfold hdB cat
  simp only [List.take_succ_cons, List.take_zero, List.map_cons, List.map_nil, List.flatten_cons, List.flatten_nil, be_one1, ← e0, ← eD, ← eS]
  have h0 : X0 % 256 = X0 := by omega
  have h1 : h.str % 256 = h.str := by omega
  have h2 : h.poll % 18446744073709551616 % 256 = X2 := by omega
  have h3 : h.prec % 18446744073709551616 % 256 = X3 := by omega
  rw [h0, h1, h2, h3]
  simp [List.append_assoc]
set_option maxRecDepth 8000 in
set_option maxHeartbeats 8000000 in
theorem rmessage_ok (h : Hd) (ev : Value) (xs : List Xt) (key : Int) (nak : Bool) (ma : Option Addr) (mn mc : Nat) (w : World) (he : Es w.heap.size w ev xs) (hl : xs.length ≤ 65536) (hx : ∀ x ∈ xs, x.dat.length ≤ 65536) (hmn : (mn : Int) ≤ 65536) (r0 : 0 ≤ h.rid) (r1 : h.rid < 4294967296) (hC : ckE h xs key nak mn = 0) :
    Calls Try.prog 11 #[pkV h ev key nak (.slice ma mn mc)] w fun e' w' => ∃ v, e' = .returned (.tuple #[v, .int .i64 0]) ∧ Below w.heap.size w w' ∧ Own w' w.heap.size v (msB h xs) := by
  obtain ⟨hf, hl4, hxo, hkd, hsz⟩ := ck_ok hC
  obtain ⟨⟨p0, p1⟩, ⟨pr0, pr1⟩, ⟨dl0, dl1⟩, ⟨ds0, ds1⟩, ⟨le0, le1⟩, ⟨ve0, ve1⟩, ⟨mo0, mo1⟩, ⟨st0, st1⟩⟩ := hf_ok hf
  have H : Hid (Es w.heap.size w ev xs) := he
  obtain ⟨ea, ec, rfl, h1, -⟩ := he
  obtain ⟨en, hen⟩ : ∃ L, L = xs.length := ⟨_, rfl⟩
  rw [← hen] at H ⊢
  have HL : Hid (en = xs.length) := hen
  have HXO : Hid (xsB xs = true) := hxo
  have HSM : Hid (48 + sumX xs ≤ 512) := by
    show _ ≤ _
    unfold szI dsz at hsz
    split at hsz <;> split at hsz <;> omega
  have HCk : Hid (∀ v, Below w.heap.size w v → Calls Try.prog 27 #[pkV h (.slice ea en ec) key nak (.slice ma mn mc)] v fun e' w' => e' = .returned (.int .i64 0) ∧ Below v.heap.size v w') := fun v hb => by
    have := rcheck_any w.heap.size h _ xs key nak ma mn mc v (H.out.below hb (Nat.le_refl _)) hb.size hl hx hmn
    rw [hC] at this
    exact this
  have hen4 : (en : Int) ≤ 4 := by omega
  obtain ⟨EN, hEN⟩ : ∃ x : Int, (en : Int) = x := ⟨_, rfl⟩
  have HEN : Hid ((en : Int) = EN) := hEN
  have n4 : EN ≤ 4 := by omega
  have n0 : 0 ≤ EN := by omega
  obtain ⟨SD, hSD⟩ : ∃ x, x = sh h.del := ⟨_, rfl⟩
  obtain ⟨SS, hSS⟩ : ∃ x, x = sh h.dis := ⟨_, rfl⟩
  have sd0 : 0 ≤ SD := by rw [hSD]; exact (sh_bd _).1
  have sd1 : SD ≤ 4294967295 := by rw [hSD]; exact (sh_bd _).2
  have ss0 : 0 ≤ SS := by rw [hSS]; exact (sh_bd _).1
  have ss1 : SS ≤ 4294967295 := by rw [hSS]; exact (sh_bd _).2
  have HT0 : Hid (∀ v, Calls Try.prog 28 #[.int .i64 h.del] v fun e w' => e = .returned (.int .u32 SD) ∧ w' = v) := fun v => by rw [hSD]; exact rtoShort3 _ v (by omega)
  have HT1 : Hid (∀ v, Calls Try.prog 28 #[.int .i64 h.dis] v fun e w' => e = .returned (.int .u32 SS) ∧ w' = v) := fun v => by rw [hSS]; exact rtoShort3 _ v (by omega)
  obtain ⟨X0, hX0⟩ : ∃ X : Int, X = 64 * h.leap + 8 * h.ver + h.mode := ⟨_, rfl⟩
  obtain ⟨X2, hX2⟩ : ∃ X : Int, X = h.poll % 256 := ⟨_, rfl⟩
  obtain ⟨X3, hX3⟩ : ∃ X : Int, X = h.prec % 256 := ⟨_, rfl⟩
  have y1 : IntKind.i64.wrap (h.leap * 64) = h.leap * 64 := by rw [IntKind.wrap_i64]; omega
  have y2 : IntKind.i64.wrap (h.ver * 8) = h.ver * 8 := by rw [IntKind.wrap_i64]; omega
  have y3 : IntKind.i64.wrap (h.leap * 64 + h.ver * 8) = h.leap * 64 + h.ver * 8 := by rw [IntKind.wrap_i64]; omega
  have y4 : IntKind.i64.wrap (h.leap * 64 + h.ver * 8 + h.mode) = X0 := by rw [IntKind.wrap_i64]; omega
  have y5 : IntKind.u8.wrap X0 = X0 := by rw [IntKind.wrap_u8]; omega
  have y6 : IntKind.u8.wrap h.str = h.str := by rw [IntKind.wrap_u8]; omega
  have y7 : IntKind.u8.wrap h.poll = X2 := by rw [IntKind.wrap_u8, hX2]
  have y8 : IntKind.u8.wrap h.prec = X3 := by rw [IntKind.wrap_u8, hX3]
  have y9 : IntKind.u64.wrap SD = SD := by rw [IntKind.wrap_u64]; omega
  have ya : IntKind.u64.wrap SS = SS := by rw [IntKind.wrap_u64]; omega
  have yb : IntKind.u64.wrap h.rid = h.rid := by rw [IntKind.wrap_u64]; omega
  have HHB : Hid ([X0, h.str, X2, X3] ++ be 4 SD ++ be 4 SS ++ be 4 h.rid ++ be 8 h.t0 ++ be 8 h.t1 ++ be 8 h.t2 ++ be 8 h.t3 = hdB h) := hdB_eq h X0 X2 X3 SD SS hX0 hX2 hX3 hSD hSS (by omega) (by omega) st0 st1
  clear hf hl4 hxo hkd hsz hC hx hmn hl hen hX0 hX2 hX3 hSD hSS h1
  unfold pkV
  go_enter Try.func11, Try.ntmps11
  go_wp2_with (refine step_pk (by rfl) _ (by rfl) _ (by rfl) _ (by rfl) (Pb.new w _) ?_)
  refine (HCk.out _ (by repeat' (first | with_reducible exact Below.refl _ _ | with_reducible refine Below.setCell ?_ (by first | (simp; done) | (simp; omega) | omega) _ | with_reducible refine below_drewN ?_ _ | with_reducible refine Below.drew ?_ | with_reducible refine Below.alloc ?_ (by first | (simp; done) | (simp; omega) | omega) _))).mono ?_
  rintro e' w1 ⟨rfl, hb⟩
  have K1 : Hid (Pb w.heap.size w1 #[.int .i64 h.leap, .int .i64 h.ver, .int .i64 h.mode, .int .i64 h.str, .int .i64 h.poll, .int .i64 h.prec, .int .i64 h.del, .int .i64 h.dis, .int .u32 h.rid, .int .u64 h.t0, .int .u64 h.t1, .int .u64 h.t2, .int .u64 h.t3, .slice ea en ec, .int .i64 key, .bool nak, .slice ma mn mc]) := (Pb.new w _).below hb (by simp)
  have B1 : Hid (Below w.heap.size w w1) := Below.trans (by repeat' (first | with_reducible exact Below.refl _ _ | with_reducible refine Below.setCell ?_ (by first | (simp; done) | (simp; omega) | omega) _ | with_reducible refine below_drewN ?_ _ | with_reducible refine Below.drew ?_ | with_reducible refine Below.alloc ?_ (by first | (simp; done) | (simp; omega) | omega) _)) (hb.mono (by simp))
  have sz1 : w.heap.size < w1.heap.size := K1.out.lt
  clear hb HCk
  obtain ⟨c0, c1, c2, c3, c4, c5, c6, c7, c8, c9, c10, c11, c12, c13, c14, c15, c16⟩ := K1.out.ck.c17
  go_wp2_with fail
  refine (HT0.out _).mono ?_
  rintro e' w9 ⟨rfl, hw9⟩
  rw [hw9]
  clear hw9
  go_wp2_with fail
  refine (put_any (w.heap.size + 1) _ ([X0, h.str, X2, X3]) SD 4 _ (by decide) (by simp) (Own.lit4 w1 (w.heap.size + 1) sz1 X0 h.str X2 X3) (by simp; omega)).mono ?_
  rintro e' w2 ⟨u2, rfl, hb, ho⟩
  have K2 : Hid (Pb w.heap.size w2 #[.int .i64 h.leap, .int .i64 h.ver, .int .i64 h.mode, .int .i64 h.str, .int .i64 h.poll, .int .i64 h.prec, .int .i64 h.del, .int .i64 h.dis, .int .u32 h.rid, .int .u64 h.t0, .int .u64 h.t1, .int .u64 h.t2, .int .u64 h.t3, .slice ea en ec, .int .i64 key, .bool nak, .slice ma mn mc]) := (K1.out.below ((Below.refl w1.heap.size w1).alloc (Nat.le_refl _) _) sz1).below hb (by omega)
  have B2 : Hid (Below w.heap.size w w2) := (B1.out.alloc (Nat.le_of_lt sz1) _).trans (hb.mono (by omega))
  have Z2 : Hid (w.heap.size + 1 ≤ w2.heap.size) := (by have := hb.size; simp at this; exact Nat.le_trans sz1 (Nat.le_of_succ_le this))
  have O2 : Hid (Own w2 (w.heap.size + 1) u2 ([X0, h.str, X2, X3] ++ be 4 SD)) := ho
  clear hb ho c0 c1 c2 c3 c4 c5 c6 c7 c8 c9 c10 c11 c12 c13 c14 c15 c16
  obtain ⟨c0, c1, c2, c3, c4, c5, c6, c7, c8, c9, c10, c11, c12, c13, c14, c15, c16⟩ := K2.out.ck.c17
  go_wp2_with fail
  refine (HT1.out _).mono ?_
  rintro e' w9 ⟨rfl, hw9⟩
  rw [hw9]
  clear hw9
  go_wp2_with fail
  refine (put_any (w.heap.size + 1) _ ([X0, h.str, X2, X3] ++ be 4 SD) SS 4 _ (by decide) (by simp [be_len]) O2.out Z2.out).mono ?_
  rintro e' w3 ⟨u3, rfl, hb, ho⟩
  have K3 : Hid (Pb w.heap.size w3 #[.int .i64 h.leap, .int .i64 h.ver, .int .i64 h.mode, .int .i64 h.str, .int .i64 h.poll, .int .i64 h.prec, .int .i64 h.del, .int .i64 h.dis, .int .u32 h.rid, .int .u64 h.t0, .int .u64 h.t1, .int .u64 h.t2, .int .u64 h.t3, .slice ea en ec, .int .i64 key, .bool nak, .slice ma mn mc]) := K2.out.below hb (by omega)
  have B3 : Hid (Below w.heap.size w w3) := B2.out.trans (hb.mono (by omega))
  have Z3 : Hid (w.heap.size + 1 ≤ w3.heap.size) := Nat.le_trans Z2.out hb.size
  have O3 : Hid (Own w3 (w.heap.size + 1) u3 ([X0, h.str, X2, X3] ++ be 4 SD ++ be 4 SS)) := ho
  clear hb ho c0 c1 c2 c3 c4 c5 c6 c7 c8 c9 c10 c11 c12 c13 c14 c15 c16
  obtain ⟨c0, c1, c2, c3, c4, c5, c6, c7, c8, c9, c10, c11, c12, c13, c14, c15, c16⟩ := K3.out.ck.c17
  go_wp2_with fail
  refine (put_any (w.heap.size + 1) _ ([X0, h.str, X2, X3] ++ be 4 SD ++ be 4 SS) h.rid 4 _ (by decide) (by simp [be_len]) O3.out Z3.out).mono ?_
  rintro e' w4 ⟨u4, rfl, hb, ho⟩
  have K4 : Hid (Pb w.heap.size w4 #[.int .i64 h.leap, .int .i64 h.ver, .int .i64 h.mode, .int .i64 h.str, .int .i64 h.poll, .int .i64 h.prec, .int .i64 h.del, .int .i64 h.dis, .int .u32 h.rid, .int .u64 h.t0, .int .u64 h.t1, .int .u64 h.t2, .int .u64 h.t3, .slice ea en ec, .int .i64 key, .bool nak, .slice ma mn mc]) := K3.out.below hb (by omega)
  have B4 : Hid (Below w.heap.size w w4) := B3.out.trans (hb.mono (by omega))
  have Z4 : Hid (w.heap.size + 1 ≤ w4.heap.size) := Nat.le_trans Z3.out hb.size
  have O4 : Hid (Own w4 (w.heap.size + 1) u4 ([X0, h.str, X2, X3] ++ be 4 SD ++ be 4 SS ++ be 4 h.rid)) := ho
  clear hb ho c0 c1 c2 c3 c4 c5 c6 c7 c8 c9 c10 c11 c12 c13 c14 c15 c16
  obtain ⟨c0, c1, c2, c3, c4, c5, c6, c7, c8, c9, c10, c11, c12, c13, c14, c15, c16⟩ := K4.out.ck.c17
  go_wp2_with fail
  refine (put_any (w.heap.size + 1) _ ([X0, h.str, X2, X3] ++ be 4 SD ++ be 4 SS ++ be 4 h.rid) h.t0 8 _ (by decide) (by simp [be_len]) O4.out Z4.out).mono ?_
  rintro e' w5 ⟨u5, rfl, hb, ho⟩
  have K5 : Hid (Pb w.heap.size w5 #[.int .i64 h.leap, .int .i64 h.ver, .int .i64 h.mode, .int .i64 h.str, .int .i64 h.poll, .int .i64 h.prec, .int .i64 h.del, .int .i64 h.dis, .int .u32 h.rid, .int .u64 h.t0, .int .u64 h.t1, .int .u64 h.t2, .int .u64 h.t3, .slice ea en ec, .int .i64 key, .bool nak, .slice ma mn mc]) := K4.out.below hb (by omega)
  have B5 : Hid (Below w.heap.size w w5) := B4.out.trans (hb.mono (by omega))
  have Z5 : Hid (w.heap.size + 1 ≤ w5.heap.size) := Nat.le_trans Z4.out hb.size
  have O5 : Hid (Own w5 (w.heap.size + 1) u5 ([X0, h.str, X2, X3] ++ be 4 SD ++ be 4 SS ++ be 4 h.rid ++ be 8 h.t0)) := ho
  clear hb ho c0 c1 c2 c3 c4 c5 c6 c7 c8 c9 c10 c11 c12 c13 c14 c15 c16
  obtain ⟨c0, c1, c2, c3, c4, c5, c6, c7, c8, c9, c10, c11, c12, c13, c14, c15, c16⟩ := K5.out.ck.c17
  go_wp2_with fail
  refine (put_any (w.heap.size + 1) _ ([X0, h.str, X2, X3] ++ be 4 SD ++ be 4 SS ++ be 4 h.rid ++ be 8 h.t0) h.t1 8 _ (by decide) (by simp [be_len]) O5.out Z5.out).mono ?_
  rintro e' w6 ⟨u6, rfl, hb, ho⟩
  have K6 : Hid (Pb w.heap.size w6 #[.int .i64 h.leap, .int .i64 h.ver, .int .i64 h.mode, .int .i64 h.str, .int .i64 h.poll, .int .i64 h.prec, .int .i64 h.del, .int .i64 h.dis, .int .u32 h.rid, .int .u64 h.t0, .int .u64 h.t1, .int .u64 h.t2, .int .u64 h.t3, .slice ea en ec, .int .i64 key, .bool nak, .slice ma mn mc]) := K5.out.below hb (by omega)
  have B6 : Hid (Below w.heap.size w w6) := B5.out.trans (hb.mono (by omega))
  have Z6 : Hid (w.heap.size + 1 ≤ w6.heap.size) := Nat.le_trans Z5.out hb.size
  have O6 : Hid (Own w6 (w.heap.size + 1) u6 ([X0, h.str, X2, X3] ++ be 4 SD ++ be 4 SS ++ be 4 h.rid ++ be 8 h.t0 ++ be 8 h.t1)) := ho
  clear hb ho c0 c1 c2 c3 c4 c5 c6 c7 c8 c9 c10 c11 c12 c13 c14 c15 c16
  obtain ⟨c0, c1, c2, c3, c4, c5, c6, c7, c8, c9, c10, c11, c12, c13, c14, c15, c16⟩ := K6.out.ck.c17
  go_wp2_with fail
  refine (put_any (w.heap.size + 1) _ ([X0, h.str, X2, X3] ++ be 4 SD ++ be 4 SS ++ be 4 h.rid ++ be 8 h.t0 ++ be 8 h.t1) h.t2 8 _ (by decide) (by simp [be_len]) O6.out Z6.out).mono ?_
  rintro e' w7 ⟨u7, rfl, hb, ho⟩
  have K7 : Hid (Pb w.heap.size w7 #[.int .i64 h.leap, .int .i64 h.ver, .int .i64 h.mode, .int .i64 h.str, .int .i64 h.poll, .int .i64 h.prec, .int .i64 h.del, .int .i64 h.dis, .int .u32 h.rid, .int .u64 h.t0, .int .u64 h.t1, .int .u64 h.t2, .int .u64 h.t3, .slice ea en ec, .int .i64 key, .bool nak, .slice ma mn mc]) := K6.out.below hb (by omega)
  have B7 : Hid (Below w.heap.size w w7) := B6.out.trans (hb.mono (by omega))
  have Z7 : Hid (w.heap.size + 1 ≤ w7.heap.size) := Nat.le_trans Z6.out hb.size
  have O7 : Hid (Own w7 (w.heap.size + 1) u7 ([X0, h.str, X2, X3] ++ be 4 SD ++ be 4 SS ++ be 4 h.rid ++ be 8 h.t0 ++ be 8 h.t1 ++ be 8 h.t2)) := ho
  clear hb ho c0 c1 c2 c3 c4 c5 c6 c7 c8 c9 c10 c11 c12 c13 c14 c15 c16
  obtain ⟨c0, c1, c2, c3, c4, c5, c6, c7, c8, c9, c10, c11, c12, c13, c14, c15, c16⟩ := K7.out.ck.c17
  go_wp2_with fail
  refine (put_any (w.heap.size + 1) _ ([X0, h.str, X2, X3] ++ be 4 SD ++ be 4 SS ++ be 4 h.rid ++ be 8 h.t0 ++ be 8 h.t1 ++ be 8 h.t2) h.t3 8 _ (by decide) (by simp [be_len]) O7.out Z7.out).mono ?_
  rintro e' w8 ⟨u8, rfl, hb, ho⟩
  have K8 : Hid (Pb w.heap.size w8 #[.int .i64 h.leap, .int .i64 h.ver, .int .i64 h.mode, .int .i64 h.str, .int .i64 h.poll, .int .i64 h.prec, .int .i64 h.del, .int .i64 h.dis, .int .u32 h.rid, .int .u64 h.t0, .int .u64 h.t1, .int .u64 h.t2, .int .u64 h.t3, .slice ea en ec, .int .i64 key, .bool nak, .slice ma mn mc]) := K7.out.below hb (by omega)
  have B8 : Hid (Below w.heap.size w w8) := B7.out.trans (hb.mono (by omega))
  have Z8 : Hid (w.heap.size + 1 ≤ w8.heap.size) := Nat.le_trans Z7.out hb.size
  have O8 : Hid (Own w8 (w.heap.size + 1) u8 ([X0, h.str, X2, X3] ++ be 4 SD ++ be 4 SS ++ be 4 h.rid ++ be 8 h.t0 ++ be 8 h.t1 ++ be 8 h.t2 ++ be 8 h.t3)) := ho
  clear hb ho c0 c1 c2 c3 c4 c5 c6 c7 c8 c9 c10 c11 c12 c13 c14 c15 c16
  obtain ⟨c0, c1, c2, c3, c4, c5, c6, c7, c8, c9, c10, c11, c12, c13, c14, c15, c16⟩ := K8.out.ck.c17
  have M8 : Hid (Own w8 (w.heap.size + 1) u8 (hdB h ++ xsL (xs.take 0)) ∧ Below w.heap.size w w8 ∧ Pb w.heap.size w8 #[.int .i64 h.leap, .int .i64 h.ver, .int .i64 h.mode, .int .i64 h.str, .int .i64 h.poll, .int .i64 h.prec, .int .i64 h.del, .int .i64 h.dis, .int .u32 h.rid, .int .u64 h.t0, .int .u64 h.t1, .int .u64 h.t2, .int .u64 h.t3, .slice ea en ec, .int .i64 key, .bool nak, .slice ma mn mc] ∧ w.heap.size + 1 ≤ w8.heap.size) := ⟨by rw [← HHB.out]; simpa [xsL] using O8.out, B8.out, K8.out, Z8.out⟩
  clear c0 c1 c2 c3 c4 c5 c6 c7 c8 c9 c10 c11 c12 c13 c14 c15 c16
  clear K1 B1 sz1 K2 B2 Z2 O2 K3 B3 Z3 O3 K4 B4 Z4 O4 K5 B5 Z5 O5 K6 B6 Z6 O6 K7 B7 Z7 O7 K8 B8 Z8 O8 HT0 HT1
  go_wp2_with fail
  go_loopw [5, 6] (fun bv i wr => ∃ (k : Nat) (KI : Int) (v : Value), bv = v ∧ i = .int .i64 KI ∧ 0 ≤ KI ∧ KI ≤ EN ∧ Hid (KI = (k : Int) ∧ Own wr (w.heap.size + 1) v (hdB h ++ xsL (xs.take k)) ∧ Below w.heap.size w wr ∧ Pb w.heap.size wr #[.int .i64 h.leap, .int .i64 h.ver, .int .i64 h.mode, .int .i64 h.str, .int .i64 h.poll, .int .i64 h.prec, .int .i64 h.del, .int .i64 h.dis, .int .u32 h.rid, .int .u64 h.t0, .int .u64 h.t1, .int .u64 h.t2, .int .u64 h.t3, .slice ea en ec, .int .i64 key, .bool nak, .slice ma mn mc] ∧ w.heap.size + 1 ≤ wr.heap.size)) (fun _ i _ => (EN - intOf i).toNat)
  case atStart => exact ⟨0, 0, u8, rfl, rfl, by omega, n0, rfl, M8.out⟩
  case round =>
    clear M8
    obtain ⟨k, KI, v, rfl, rfl, k0, k1, hM⟩ := hrel
    have c13 : wr.cell? ⟨w.heap.size, 13, none⟩ = some (.slice ea en ec) := by obtain ⟨_, _, _, _, _, _, _, _, _, _, _, _, _, q, _⟩ := hM.out.2.2.2.1.ck.c17; exact q
    by_cases hlt : KI < EN
    · have hkx : k < xs.length := by have := HL.out; have := HEN.out; have := hM.out.1; omega
      obtain ⟨ad, g1, g2, g3, g4, -⟩ := (H.out.below hM.out.2.2.1 (Nat.le_refl _)).at k hkx
      have hix : ∀ w, Sem.run Try.prog (Instr.indexAt 26 (.slice ea en ec) (.int .i64 KI)) w = .ok (.pointer (some (ad.add (k * 2)))) w := by rw [hM.out.1]; exact xidx_run en ec k g1.out (by have := HEN.out; have := hM.out.1; omega)
      obtain ⟨A, hA0⟩ : ∃ A, A = ad.add (k * 2) := ⟨_, rfl⟩
      rw [← hA0] at hix g2 g3
      obtain ⟨⟨y0, y1⟩, y2, y3⟩ := xs_ok HXO.out k hkx
      obtain ⟨ty, hty⟩ : ∃ t, t = xs[k].ty := ⟨_, rfl⟩
      obtain ⟨dv, hdv⟩ : ∃ d, d = xs[k].dv := ⟨_, rfl⟩
      obtain ⟨dat, hdat⟩ : ∃ d, d = xs[k].dat := ⟨_, rfl⟩
      rw [← hty] at g2 y0 y1
      rw [← hdv] at g3 g4
      rw [← hdat] at g4 y2 y3
      have SDW : Hid (Sv w.heap.size w dv dat ∧ A.block < w.heap.size) := by
        obtain ⟨ad2, q1, _, _, g5, g6⟩ := H.out.at k hkx
        rw [← hdv, ← hdat] at g5
        refine ⟨g5, ?_⟩
        have e2 := Option.some.inj (g1.out.symm.trans q1.out)
        rw [hA0, add_block, e2]
        exact g6
      obtain ⟨da, dc, hd, -⟩ := g4
      subst hd
      have hsum := sumX_take_le xs (k + 1)
      have hsum0 := sumX_take_le xs k
      have hlen := xsL_len (xs.take k)
      have hlk : ((hdB h ++ xsL (xs.take k)).length : Int) ≤ 512 := by rw [List.length_append, hdB_len]; have := HSM.out; omega
      have hdl : (dat.length : Int) ≤ 464 := by rw [sumX_take xs k hkx, ← hdat] at hsum; have := HSM.out; omega
      have HE : Hid (hdB h ++ xsL (xs.take (k + 1)) = hdB h ++ xsL (xs.take k) ++ be 2 ty ++ be 2 (4 + dat.length) ++ dat) := by
        show _ = _
        rw [xsL_take xs k hkx]
        unfold xtL
        rw [← hty, ← hdat]
        simp [List.append_assoc]
      obtain ⟨LB, hLB⟩ : ∃ l, l = hdB h ++ xsL (xs.take k) := ⟨_, rfl⟩
      rw [← hLB] at hM hlk HE
      have HLK : Hid (LB.length ≤ 512 ∧ dat.length ≤ 464) := ⟨by omega, by omega⟩
      obtain ⟨dn, hdn⟩ : ∃ n, n = dat.length := ⟨_, rfl⟩
      rw [← hdn] at g3 SDW HE hdl
      have HDN : Hid (dn = dat.length) := hdn
      obtain ⟨DN, hDN⟩ : ∃ x : Int, (dn : Int) = x := ⟨_, rfl⟩
      obtain ⟨D4, hD4⟩ : ∃ x : Int, x = 4 + DN := ⟨_, rfl⟩
      rw [hDN, ← hD4] at HE
      have d4 : IntKind.i64.wrap (DN + 4) = D4 := by rw [IntKind.wrap_i64]; omega
      have d5 : IntKind.u64.wrap D4 = D4 := by rw [IntKind.wrap_u64]; omega
      have d6 : IntKind.u64.wrap ty = ty := by rw [IntKind.wrap_u64]; omega
      have d7 : DN + 4 = D4 := by omega
      have g3' : wr.cell? { block := A.block, off := A.off + 1 } = some (.slice da dn dc) := by simpa [Addr.add] using g3
      have HG : Hid (wr.cell? A = some (.int .i64 ty) ∧ wr.cell? { block := A.block, off := A.off + 1 } = some (.slice da dn dc)) := ⟨g2, g3'⟩
      clear hA0 hdv hdat hty hsum hsum0 hlen hLB hdn g1 g3 hD4 y2 y3
      go_wp2_with fail
      refine (put_any (w.heap.size + 1) _ LB ty 2 _ (by decide) (by have := HLK.out; omega) hM.out.2.1 hM.out.2.2.2.2).mono ?_
      rintro e' wa ⟨ua, rfl, hb, ho⟩
      have Ma : Hid (Own wa (w.heap.size + 1) ua (LB ++ be 2 ty) ∧ Below w.heap.size w wa ∧ Pb w.heap.size wa #[.int .i64 h.leap, .int .i64 h.ver, .int .i64 h.mode, .int .i64 h.str, .int .i64 h.poll, .int .i64 h.prec, .int .i64 h.del, .int .i64 h.dis, .int .u32 h.rid, .int .u64 h.t0, .int .u64 h.t1, .int .u64 h.t2, .int .u64 h.t3, .slice ea en ec, .int .i64 key, .bool nak, .slice ma mn mc] ∧ w.heap.size + 1 ≤ wa.heap.size ∧ Below w.heap.size wr wa) := ⟨ho, hM.out.2.2.1.trans (hb.mono (by omega)), hM.out.2.2.2.1.below hb (by omega), Nat.le_trans hM.out.2.2.2.2 hb.size, hb.mono (by omega)⟩
      have c13a : wa.cell? ⟨w.heap.size, 13, none⟩ = some (.slice ea en ec) := by obtain ⟨_, _, _, _, _, _, _, _, _, _, _, _, _, q, _⟩ := Ma.out.2.2.1.ck.c17; exact q
      have g3a : wa.cell? { block := A.block, off := A.off + 1 } = some (.slice da dn dc) := (Ma.out.2.2.2.2.cell (p := { block := A.block, off := A.off + 1 }) SDW.out.2).trans HG.out.2
      clear hb ho c13 g2 g3'
      go_wp2_with fail
      refine (put_any (w.heap.size + 1) _ (LB ++ be 2 ty) D4 2 _ (by decide) (by have := HLK.out; simp [be_len]; omega) Ma.out.1 Ma.out.2.2.2.1).mono ?_
      rintro e' wb ⟨ub, rfl, hb, ho⟩
      have Mb : Hid (Own wb (w.heap.size + 1) ub (LB ++ be 2 ty ++ be 2 D4) ∧ Below w.heap.size w wb ∧ Pb w.heap.size wb #[.int .i64 h.leap, .int .i64 h.ver, .int .i64 h.mode, .int .i64 h.str, .int .i64 h.poll, .int .i64 h.prec, .int .i64 h.del, .int .i64 h.dis, .int .u32 h.rid, .int .u64 h.t0, .int .u64 h.t1, .int .u64 h.t2, .int .u64 h.t3, .slice ea en ec, .int .i64 key, .bool nak, .slice ma mn mc] ∧ w.heap.size + 1 ≤ wb.heap.size ∧ Below w.heap.size wr wb) := ⟨ho, Ma.out.2.1.trans (hb.mono (by omega)), Ma.out.2.2.1.below hb (by omega), Nat.le_trans Ma.out.2.2.2.1 hb.size, Ma.out.2.2.2.2.trans (hb.mono (by omega))⟩
      have c13b : wb.cell? ⟨w.heap.size, 13, none⟩ = some (.slice ea en ec) := by obtain ⟨_, _, _, _, _, _, _, _, _, _, _, _, _, q, _⟩ := Mb.out.2.2.1.ck.c17; exact q
      have g3b : wb.cell? { block := A.block, off := A.off + 1 } = some (.slice da dn dc) := (Mb.out.2.2.2.2.cell (p := { block := A.block, off := A.off + 1 }) SDW.out.2).trans HG.out.2
      clear hb ho c13a g3a Ma
      go_wp2_with (at_builtin; refine wpList_app8 (by rfl) _ _ 27 (by rfl) Try.underlying27 (w.heap.size + 1) w.heap.size _ _ (LB ++ be 2 ty ++ be 2 D4) dat (by rfl) (by rfl) Mb.out.1 (SDW.out.1.below Mb.out.2.1 (Nat.le_refl _)) (by have := HLK.out; simp [be_len]; omega) Mb.out.2.2.2.1 ?_)
      intro uc wc ho hg hat
      have Mc : Hid (Own wc (w.heap.size + 1) uc (hdB h ++ xsL (xs.take (k + 1))) ∧ Below w.heap.size w wc ∧ Pb w.heap.size wc #[.int .i64 h.leap, .int .i64 h.ver, .int .i64 h.mode, .int .i64 h.str, .int .i64 h.poll, .int .i64 h.prec, .int .i64 h.del, .int .i64 h.dis, .int .u32 h.rid, .int .u64 h.t0, .int .u64 h.t1, .int .u64 h.t2, .int .u64 h.t3, .slice ea en ec, .int .i64 key, .bool nak, .slice ma mn mc] ∧ w.heap.size + 1 ≤ wc.heap.size) := by
        have hbc : Below (w.heap.size + 1) wb wc := (Below.refl _ _).grown hg Mb.out.2.2.2.1 (fun q e => (Mb.out.1.lt q e).1)
        exact ⟨by rw [HE.out]; simpa [List.append_assoc] using ho, Mb.out.2.1.trans (hbc.mono (by omega)), Mb.out.2.2.1.below hbc (by omega), Nat.le_trans Mb.out.2.2.2.1 hg.size⟩
      clear ho hg hat c13b g3b
      go_wp2_with fail
      exact ⟨⟨k + 1, KI + 1, uc, rfl, rfl, by omega, by omega, by have := hM.out.1; omega, Mc.out⟩, by simp [intOf]; omega⟩
    · have hz : xs.take k = xs := by rw [List.take_of_length_le]; have := hM.out.1; have := HEN.out; have := HL.out; omega
      have e1 := hM.out.2.1
      rw [hz] at e1
      have HE1 : Hid _ := e1
      have HE2 : Hid (Below w.heap.size w wr) := hM.out.2.2.1
      clear hz e1
      go_wp2_with fail
      go_ret2
      exact ⟨_, rfl, HE2.out, Own.mono (B := w.heap.size + 1) HE1.out (Nat.le_succ _)⟩
set_option maxHeartbeats 2000000 in
theorem rmessage_err (h : Hd) (ev : Value) (xs : List Xt) (key : Int) (nak : Bool) (ma : Option Addr) (mn mc : Nat) (w : World) (he : Es w.heap.size w ev xs) (hl : xs.length ≤ 65536) (hx : ∀ x ∈ xs, x.dat.length ≤ 65536) (hmn : (mn : Int) ≤ 65536) (hC : ckE h xs key nak mn ≠ 0) :
    Calls Try.prog 11 #[pkV h ev key nak (.slice ma mn mc)] w fun e' w' => e' = .returned (.tuple #[.slice none 0 0, .int .i64 (ckE h xs key nak mn)]) ∧ Below w.heap.size w w' := by
  have H : Hid (Es w.heap.size w ev xs) := he
  obtain ⟨E, hE⟩ : ∃ E, E = ckE h xs key nak mn := ⟨_, rfl⟩
  obtain ⟨ea, ec, rfl, -⟩ := he
  obtain ⟨en, hen⟩ : ∃ L, L = xs.length := ⟨_, rfl⟩
  have HCk : Hid (∀ v, Below w.heap.size w v → Calls Try.prog 27 #[pkV h (.slice ea en ec) key nak (.slice ma mn mc)] v fun e' w' => e' = .returned (.int .i64 E) ∧ Below v.heap.size v w') := fun v hb => by
    have := rcheck_any w.heap.size h _ xs key nak ma mn mc v (H.out.below hb (Nat.le_refl _)) hb.size hl hx hmn
    rw [← hE, ← hen] at this
    exact this
  rw [← hE] at hC ⊢
  rw [← hen]
  have hb0 : (E != 0) = true := by rw [bne_iff_ne]; exact hC
  clear H hE hen hl hx hmn hC
  unfold pkV
  go_enter Try.func11, Try.ntmps11
  go_wp2_with (refine step_pk (by rfl) _ (by rfl) _ (by rfl) _ (by rfl) (Pb.new w _) ?_)
  refine (HCk.out _ (by repeat' (first | with_reducible exact Below.refl _ _ | with_reducible refine Below.setCell ?_ (by first | (simp; done) | (simp; omega) | omega) _ | with_reducible refine below_drewN ?_ _ | with_reducible refine Below.drew ?_ | with_reducible refine Below.alloc ?_ (by first | (simp; done) | (simp; omega) | omega) _))).mono ?_
  rintro e' w1 ⟨rfl, hb⟩
  have B1 : Hid (Below w.heap.size w w1) := Below.trans (by repeat' (first | with_reducible exact Below.refl _ _ | with_reducible refine Below.setCell ?_ (by first | (simp; done) | (simp; omega) | omega) _ | with_reducible refine below_drewN ?_ _ | with_reducible refine Below.drew ?_ | with_reducible refine Below.alloc ?_ (by first | (simp; done) | (simp; omega) | omega) _)) (hb.mono (by simp))
  clear hb HCk
  go_wp2_with fail
  go_ret2
  exact ⟨rfl, B1.out⟩
end Go.Proofs.Ytdobghhjlfffpaa
