/- What Check of package wire returns. -/
import Derived.Test.YtdobghhjlfffpaaXC
import Derived.Test.YtdobghhjlfffpaaXL
namespace Go.Proofs.Ytdobghhjlfffpaa
open Go.RowKit
/-- may key, digest and Nak be? -/
def kdB (key : Int) (nak : Bool) (mn : Nat) : Bool := dfB key mn && !(key != 0 && nak)
/-- what Check answers -/
def ckE (h : Hd) (xs : List Xt) (key : Int) (nak : Bool) (mn : Nat) : Int :=
  if hfB h = true then (if 4 < xs.length then 54 else if (xsB xs && kdB key nak mn) = true then (if 512 < szI xs key nak mn then 31 else 0) else 32) else 32
set_option maxRecDepth 4000 in
set_option maxHeartbeats 8000000 in
theorem check_any (N : Nat) (h : Hd) (ev : Value) (xs : List Xt) (key : Int) (nak : Bool) (ma : Option Addr) (mn mc : Nat) (w : World) (he : Es N w ev xs) (hN : N ≤ w.heap.size) (hl : xs.length ≤ 65536) (hx : ∀ x ∈ xs, x.dat.length ≤ 65536) (hmn : (mn : Int) ≤ 65536) :
    Calls Try.prog 12 #[pkV h ev key nak (.slice ma mn mc)] w fun e' w' => e' = .returned (.int .i64 (ckE h xs key nak mn)) ∧ Below w.heap.size w w' := by
  have H : Hid (Es N w ev xs) := he
  obtain ⟨ea, ec, rfl, h1, -⟩ := he
  obtain ⟨en, hen⟩ : ∃ L, L = xs.length := ⟨_, rfl⟩
  obtain ⟨FH, hFH⟩ : ∃ F, F = hfB h := ⟨_, rfl⟩
  have HFH : Hid (∀ w, Calls Try.prog 29 #[.agg #[.int .i64 h.leap, .int .i64 h.ver, .int .i64 h.mode, .int .i64 h.str, .int .i64 h.poll, .int .i64 h.prec, .int .i64 h.del, .int .i64 h.dis, .int .u32 h.rid, .int .u64 h.t0, .int .u64 h.t1, .int .u64 h.t2, .int .u64 h.t3, .slice ea en ec, .int .i64 key, .bool nak, .slice ma mn mc]] w fun e' w' => e' = .returned (.bool FH) ∧ Below w.heap.size w w') := fun w => by rw [hFH]; exact headerFits_any h ea en ec key nak ma mn mc w
  obtain ⟨FX, hFX⟩ : ∃ F, F = xsB xs := ⟨_, rfl⟩
  have HFX : Hid (∀ v, Below w.heap.size w v → Calls Try.prog 30 #[.slice ea en ec] v fun e' w' => e' = .returned (.bool FX) ∧ Below v.heap.size v w') := fun v hb => by
    rw [hFX, hen]; exact extsFit_any N _ xs v (H.out.below hb hN) (Nat.le_trans hN hb.size) (by omega)
  obtain ⟨FD, hFD⟩ : ∃ F, F = dfB key mn := ⟨_, rfl⟩
  have HFD : Hid (∀ w, Calls Try.prog 31 #[.int .i64 key, .slice ma mn mc] w fun e' w' => e' = .returned (.bool FD) ∧ w' = w) := fun w => by rw [hFD]; exact digestFits_any key ma mn mc w
  obtain ⟨SZ, hSZ⟩ : ∃ F, F = szI xs key nak mn := ⟨_, rfl⟩
  have HSZ : Hid (∀ v, Below w.heap.size w v → Calls Try.prog 32 #[.agg #[.int .i64 h.leap, .int .i64 h.ver, .int .i64 h.mode, .int .i64 h.str, .int .i64 h.poll, .int .i64 h.prec, .int .i64 h.del, .int .i64 h.dis, .int .u32 h.rid, .int .u64 h.t0, .int .u64 h.t1, .int .u64 h.t2, .int .u64 h.t3, .slice ea en ec, .int .i64 key, .bool nak, .slice ma mn mc]] v fun e' w' => e' = .returned (.int .i64 SZ) ∧ Below v.heap.size v w') := fun v hb => by
    rw [hSZ, hen]; exact size_any N h _ xs key nak ma mn mc v (H.out.below hb hN) (Nat.le_trans hN hb.size) hl hx hmn
  rw [← hen] at H ⊢
  have HL : Hid (en = xs.length) := hen
  have HH : Hid (FH = hfB h ∧ FX = xsB xs ∧ FD = dfB key mn ∧ SZ = szI xs key nak mn) := ⟨hFH, hFX, hFD, hSZ⟩
  have l1 : (en : Int) ≤ 65536 := by omega
  clear h1 hx hl hen hFH hFX hFD hSZ hmn
  unfold pkV
  go_enter Try.func12, Try.ntmps12
  go_wp2_with (refine step_pk (by rfl) _ (by rfl) _ (by rfl) _ (by rfl) (Pb.new w _) ?_)
  refine (HFH.out _).mono ?_
  rintro e' w1 ⟨rfl, hb⟩
  have P1 : Hid (Pb w.heap.size w1 #[.int .i64 h.leap, .int .i64 h.ver, .int .i64 h.mode, .int .i64 h.str, .int .i64 h.poll, .int .i64 h.prec, .int .i64 h.del, .int .i64 h.dis, .int .u32 h.rid, .int .u64 h.t0, .int .u64 h.t1, .int .u64 h.t2, .int .u64 h.t3, .slice ea en ec, .int .i64 key, .bool nak, .slice ma mn mc]) := (Pb.new w _).below hb (by simp)
  have K1 : Hid (Ck w.heap.size w1 #[.int .i64 h.leap, .int .i64 h.ver, .int .i64 h.mode, .int .i64 h.str, .int .i64 h.poll, .int .i64 h.prec, .int .i64 h.del, .int .i64 h.dis, .int .u32 h.rid, .int .u64 h.t0, .int .u64 h.t1, .int .u64 h.t2, .int .u64 h.t3, .slice ea en ec, .int .i64 key, .bool nak, .slice ma mn mc]) := P1.out.ck
  have B1 : Hid (Below w.heap.size w w1) := Below.trans (by repeat' (first | with_reducible exact Below.refl _ _ | with_reducible refine Below.setCell ?_ (by first | (simp; done) | (simp; omega) | omega) _ | with_reducible refine below_drewN ?_ _ | with_reducible refine Below.drew ?_ | with_reducible refine Below.alloc ?_ (by first | (simp; done) | (simp; omega) | omega) _)) (hb.mono (by simp))
  clear hb
  obtain ⟨c0, c1, c2, c3, c4, c5, c6, c7, c8, c9, c10, c11, c12, c13, c14, c15, c16⟩ := K1.out.c17
  cases FH
  · go_wp2_with fail
    go_ret
    exact ⟨ret_i64 (by unfold ckE; rw [← HH.out.1]; simp), B1.out⟩
  obtain ⟨EN, hEN⟩ : ∃ x : Int, (en : Int) = x := ⟨_, rfl⟩
  have HEN : Hid ((en : Int) = EN) := hEN
  by_cases h4 : 4 < EN
  · go_wp2_with fail
    go_ret
    exact ⟨ret_i64 (by unfold ckE; rw [← HH.out.1, if_pos rfl, if_pos (by have := HL.out; have := HEN.out; omega)]), B1.out⟩
  have HN4 : Hid (¬ 4 < xs.length) := by have := HL.out; show ¬ _; omega
  have h4' : EN ≤ 4 := by omega
  clear h4
  go_wp2_with fail
  refine (HFX.out _ B1.out).mono ?_
  rintro e' w2 ⟨rfl, hb⟩
  have P2 : Hid (Pb w.heap.size w2 #[.int .i64 h.leap, .int .i64 h.ver, .int .i64 h.mode, .int .i64 h.str, .int .i64 h.poll, .int .i64 h.prec, .int .i64 h.del, .int .i64 h.dis, .int .u32 h.rid, .int .u64 h.t0, .int .u64 h.t1, .int .u64 h.t2, .int .u64 h.t3, .slice ea en ec, .int .i64 key, .bool nak, .slice ma mn mc]) := P1.out.below hb K1.out.lt
  have K2 : Hid (Ck w.heap.size w2 #[.int .i64 h.leap, .int .i64 h.ver, .int .i64 h.mode, .int .i64 h.str, .int .i64 h.poll, .int .i64 h.prec, .int .i64 h.del, .int .i64 h.dis, .int .u32 h.rid, .int .u64 h.t0, .int .u64 h.t1, .int .u64 h.t2, .int .u64 h.t3, .slice ea en ec, .int .i64 key, .bool nak, .slice ma mn mc]) := P2.out.ck
  have B2 : Hid (Below w.heap.size w w2) := B1.out.trans (hb.mono (Nat.le_of_lt K1.out.lt))
  clear hb c0 c1 c2 c3 c4 c5 c6 c7 c8 c9 c10 c11 c12 c13 c14 c15 c16 K1 B1
  obtain ⟨c0, c1, c2, c3, c4, c5, c6, c7, c8, c9, c10, c11, c12, c13, c14, c15, c16⟩ := K2.out.c17
  cases FX
  · go_wp2_with fail
    go_ret
    exact ⟨ret_i64 (by unfold ckE; rw [← HH.out.1, if_pos rfl, if_neg HN4.out, ← HH.out.2.1]; simp), B2.out⟩
  cases FD
  · go_wp2_with (go_at_call 31; refine (HFD.out _).mono ?_; rintro e' w' ⟨rfl, hw⟩; rw [hw]; clear hw)
    go_ret
    exact ⟨ret_i64 (by unfold ckE kdB; rw [← HH.out.1, if_pos rfl, if_neg HN4.out, ← HH.out.2.1, ← HH.out.2.2.1]; simp), B2.out⟩
  obtain ⟨KZ, hKZ⟩ : ∃ b, (key != 0) = b := ⟨_, rfl⟩
  have HKZ : Hid ((key != 0) = KZ) := hKZ
  by_cases hkn : KZ = true ∧ nak = true
  · obtain ⟨rfl, rfl⟩ := hkn
    go_wp2_with (go_at_call 31; refine (HFD.out _).mono ?_; rintro e' w' ⟨rfl, hw⟩; rw [hw]; clear hw)
    go_ret
    exact ⟨ret_i64 (by unfold ckE kdB; rw [← HH.out.1, if_pos rfl, if_neg HN4.out, ← HH.out.2.1, ← HH.out.2.2.1, HKZ.out]; simp), B2.out⟩
  · have HKD : Hid (kdB key nak mn = true) := by
      show _ = _
      unfold kdB
      rw [← HH.out.2.2.1, HKZ.out]
      cases KZ <;> cases nak <;> simp_all
    have HC : Hid (ckE h xs key nak mn = if 512 < SZ then 31 else 0) := by
      show _ = _
      unfold ckE
      rw [← HH.out.1, if_pos rfl, if_neg HN4.out, ← HH.out.2.1, HKD.out, if_pos (by decide), ← HH.out.2.2.2]
    have hkn' : KZ = false ∨ (KZ = true ∧ nak = false) := by cases KZ <;> cases nak <;> simp_all
    clear hkn
    by_cases hs : 512 < SZ
    all_goals
      rcases hkn' with rfl | ⟨rfl, rfl⟩
      all_goals
        go_wp2_with (first | (go_at_call 31; refine (HFD.out _).mono ?_; rintro e' w' ⟨rfl, hw⟩; rw [hw]; clear hw) | (refine step_pk (by rfl) _ (by rfl) _ (by rfl) _ (by rfl) P2.out ?_))
        refine (HSZ.out _ B2.out).mono ?_
        rintro e' w3 ⟨rfl, hb⟩
        have B3 : Hid (Below w.heap.size w w3) := B2.out.trans (hb.mono (Nat.le_of_lt K2.out.lt))
        clear hb c0 c1 c2 c3 c4 c5 c6 c7 c8 c9 c10 c11 c12 c13 c14 c15 c16
        go_wp2_with fail
        go_ret
        exact ⟨ret_i64 (by rw [HC.out]; first | rw [if_pos (by omega)] | rw [if_neg (by omega)]), B3.out⟩
end Go.Proofs.Ytdobghhjlfffpaa
