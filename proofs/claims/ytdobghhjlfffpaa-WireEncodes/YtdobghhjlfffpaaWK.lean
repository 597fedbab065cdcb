/- What DecodeControl of package wire returns: the walk. -/
import Derived.Test.YtdobghhjlfffpaaWJ
namespace Go.Proofs.Ytdobghhjlfffpaa
open Go.RowKit
theorem Bk.c12 {p : Nat} {v : World} {T : TypeId} {a0 a1 a2 a3 a4 a5 a6 a7 a8 a9 a10 a11 : Value} (h : Bk p v #[a0, a1, a2, a3, a4, a5, a6, a7, a8, a9, a10, a11] T) :
    v.cell? ⟨p, 0, none⟩ = some a0 ∧ v.cell? ⟨p, 1, none⟩ = some a1 ∧ v.cell? ⟨p, 2, none⟩ = some a2 ∧ v.cell? ⟨p, 3, none⟩ = some a3 ∧ v.cell? ⟨p, 4, none⟩ = some a4 ∧ v.cell? ⟨p, 5, none⟩ = some a5 ∧ v.cell? ⟨p, 6, none⟩ = some a6 ∧ v.cell? ⟨p, 7, none⟩ = some a7 ∧ v.cell? ⟨p, 8, none⟩ = some a8 ∧ v.cell? ⟨p, 9, none⟩ = some a9 ∧ v.cell? ⟨p, 10, none⟩ = some a10 ∧ v.cell? ⟨p, 11, none⟩ = some a11 :=
  (⟨h.lt, h.cell⟩ : Ck p v _).c12
theorem Bk.below {p B : Nat} {v v' : World} {cs : Array Value} {T : TypeId} (h : Bk p v cs T) (hb : Below B v v') (hB : p < B) : Bk p v' cs T := by
  unfold Bk at h ⊢; rw [hb.block _ hB]; exact h
def zC : Value := .agg #[.int .i64 0, .bool false, .bool false, .bool false, .int .i64 0, .int .i64 0, .int .i64 0, .int .i64 0, .int .i64 0, .slice none 0 0, .int .i64 0, .slice none 0 0]
set_option maxRecDepth 4000 in
set_option maxHeartbeats 4000000 in
theorem decodeControl_any (v : Value) (bs : List Int) (w : World) (hl : bs.length ≤ 10000000) (h : Sv w.heap.size w v bs) :
    Calls Try.prog 21 #[v] w fun e' w' => ∃ (ver : Int) (r e m : Bool) (op seq sta ass off : Int) (dv : Value) (data : List Int) (key : Int) (mv : Value) (mac : List Int) (E : Int), e' = .returned (.tuple #[ctV ver r e m op seq sta ass off dv key mv, .int .i64 E]) ∧ Below w.heap.size w w' ∧ Own w' w.heap.size dv data ∧ Own w' w.heap.size mv mac ∧ DE bs E ∧ (E = 0 → DV bs ver r e m op seq sta ass off data key mac) ∧ (E ≠ 0 → ctV ver r e m op seq sta ass off dv key mv = zC) := by
  have H : Hid (Sv w.heap.size w v bs) := h
  have HL : Hid (bs.length ≤ 10000000) := hl
  clear h hl
  go_enter Try.func21, Try.ntmps21
  go_wp2_with fail
  refine (read_any v bs _ ((H.out.below (by repeat' (first | with_reducible exact Below.refl _ _ | with_reducible refine Below.setCell ?_ (by first | (simp; done) | (simp; omega) | omega) _ | with_reducible refine below_drewN ?_ _ | with_reducible refine Below.drew ?_ | with_reducible refine Below.alloc ?_ (by first | (simp; done) | (simp; omega) | omega) _)) (Nat.le_refl _)).mono (by simp))).mono ?_
  rintro e' w1 ⟨v', rfl, hb1, hs1⟩
  have B0 : Hid (Bk w.heap.size w1 #[.int .i64 0, .bool false, .bool false, .bool false, .int .i64 0, .int .i64 0, .int .i64 0, .int .i64 0, .int .i64 0, .slice none 0 0, .int .i64 0, .slice none 0 0] 45) := (Bk.new w _ _).below hb1 (by simp)
  have B1 : Hid (Below w.heap.size w w1) := Below.trans (by repeat' (first | with_reducible exact Below.refl _ _ | with_reducible refine Below.setCell ?_ (by first | (simp; done) | (simp; omega) | omega) _ | with_reducible refine below_drewN ?_ _ | with_reducible refine Below.drew ?_ | with_reducible refine Below.alloc ?_ (by first | (simp; done) | (simp; omega) | omega) _)) (hb1.mono (by simp))
  have sz1 : w.heap.size < w1.heap.size := B0.out.lt
  have S1 : Hid (Sv (w.heap.size + 1) w1 v' bs) := hs1.mono (by simp)
  obtain ⟨ao, cap, rfl, hc, hn, hrs, hok⟩ := hs1
  clear hb1 hrs hc hn hok
  obtain ⟨E0, hE0⟩ : ∃ E, E = rk (decide ((bs.length : Int) ≤ 512)) 0 31 := ⟨_, rfl⟩
  rw [← hE0]
  have HE0 : Hid (E0 = rk (decide ((bs.length : Int) ≤ 512)) 0 31) := hE0
  clear hE0
  obtain ⟨BL, hBL⟩ : ∃ L, L = bs.length := ⟨_, rfl⟩
  rw [← hBL]
  have R2 : Hid (RdX (w.heap.size + 1) w1.heap.size (w1.alloc (.cells #[.slice ao BL cap, .int .i64 E0] 61)) bs E0) := by
    obtain ⟨ao', cap', hv, hc, hn, hrs, hok⟩ := S1.out
    injection hv with q1 q2 q3
    subst q1 q3
    rw [hBL]
    exact ⟨ao, cap, by simp, by simp, fun o => by simp, by simp, by omega, hrs.below ((Below.refl w1.heap.size w1).alloc (Nat.le_refl _) _) (by omega), hok, hc, hn⟩
  have B2 : Hid (Bk w.heap.size (w1.alloc (.cells #[.slice ao BL cap, .int .i64 E0] 61)) #[.int .i64 0, .bool false, .bool false, .bool false, .int .i64 0, .int .i64 0, .int .i64 0, .int .i64 0, .int .i64 0, .slice none 0 0, .int .i64 0, .slice none 0 0] 45) := B0.out.alloc _
  have L2 : Hid (Below w.heap.size w (w1.alloc (.cells #[.slice ao BL cap, .int .i64 E0] 61))) := B1.out.alloc (by omega) _
  clear hBL B0 B1 S1
  obtain ⟨q, hq⟩ : ∃ q, q = w1.heap.size := ⟨_, rfl⟩
  rw [← hq] at R2 sz1
  go_wp2_with fail
  rw [← hq]
  obtain ⟨w2, hw2⟩ : ∃ w2, w2 = w1.alloc (.cells #[.slice ao BL cap, .int .i64 E0] 61) := ⟨_, rfl⟩
  rw [← hw2] at R2 B2 L2 ⊢
  clear hw2 hq
  refine (control_any (w.heap.size + 1) q bs E0 w2 HL.out R2.out).mono ?_
  rintro e' w3 ⟨ver, r, e, m, op, seq, sta, ass, off, dv, data, bs', er', rfl, hg3, ho3, hr3, hbl, hcp⟩
  have HCP : Hid (CP bs E0 ver r e m op seq sta ass off data bs' er') := hcp
  have sz2 : w.heap.size < w2.heap.size := B2.out.lt
  have B3 : Hid (Bk w.heap.size w3 #[.int .i64 0, .bool false, .bool false, .bool false, .int .i64 0, .int .i64 0, .int .i64 0, .int .i64 0, .int .i64 0, .slice none 0 0, .int .i64 0, .slice none 0 0] 45) := B2.out.mod hg3 (by omega)
  have L3 : Hid (Below w.heap.size w w3) := below_mod L2.out hg3 (by omega) (by omega)
  have O3 : Hid (Own w3 (q + 1) dv data) := ho3.mono R2.out.hq
  have R3 : Hid (RdX (w.heap.size + 1) q w3 bs' er') := hr3
  have sz3 : q < w3.heap.size := hr3.hq
  have HB' : Hid (bs'.length ≤ 10000000) := hbl
  obtain ⟨da, dc, hdv, -⟩ := ho3.rs
  subst hdv
  obtain ⟨Dn, hDn⟩ : ∃ L, L = data.length := ⟨_, rfl⟩
  rw [← hDn] at O3 ⊢
  clear hg3 ho3 hr3 hcp R2 B2 L2 hDn sz2 hbl
  unfold ctV
  obtain ⟨p, hp⟩ : ∃ p, p = w3.heap.size := ⟨_, rfl⟩
  have C4 : Hid (Bk p (w3.alloc (.cells #[.int .i64 ver, .bool r, .bool e, .bool m, .int .i64 op, .int .i64 seq, .int .i64 sta, .int .i64 ass, .int .i64 off, .slice da Dn dc, .int .i64 0, .slice none 0 0] 45)) #[.int .i64 ver, .bool r, .bool e, .bool m, .int .i64 op, .int .i64 seq, .int .i64 sta, .int .i64 ass, .int .i64 off, .slice da Dn dc, .int .i64 0, .slice none 0 0] 45) := by subst hp; exact Bk.new _ _ _
  have B4 : Hid (Bk w.heap.size (w3.alloc (.cells #[.int .i64 ver, .bool r, .bool e, .bool m, .int .i64 op, .int .i64 seq, .int .i64 sta, .int .i64 ass, .int .i64 off, .slice da Dn dc, .int .i64 0, .slice none 0 0] 45)) #[.int .i64 0, .bool false, .bool false, .bool false, .int .i64 0, .int .i64 0, .int .i64 0, .int .i64 0, .int .i64 0, .slice none 0 0, .int .i64 0, .slice none 0 0] 45) := B3.out.alloc _
  have L4 : Hid (Below w.heap.size w (w3.alloc (.cells #[.int .i64 ver, .bool r, .bool e, .bool m, .int .i64 op, .int .i64 seq, .int .i64 sta, .int .i64 ass, .int .i64 off, .slice da Dn dc, .int .i64 0, .slice none 0 0] 45))) := L3.out.alloc (by omega) _
  have O4 : Hid (Own (w3.alloc (.cells #[.int .i64 ver, .bool r, .bool e, .bool m, .int .i64 op, .int .i64 seq, .int .i64 sta, .int .i64 ass, .int .i64 off, .slice da Dn dc, .int .i64 0, .slice none 0 0] 45)) (q + 1) (.slice da Dn dc) data ∧ (Value.slice da Dn dc).ownBlock ≠ some p) := by
    refine ⟨O3.out.below ((Below.refl w3.heap.size w3).alloc (Nat.le_refl _) _) (Nat.le_refl _), fun e => ?_⟩
    have := (O3.out.lt p e).2
    omega
  have R4 : Hid (RdX (w.heap.size + 1) q (w3.alloc (.cells #[.int .i64 ver, .bool r, .bool e, .bool m, .int .i64 op, .int .i64 seq, .int .i64 sta, .int .i64 ass, .int .i64 off, .slice da Dn dc, .int .i64 0, .slice none 0 0] 45)) bs' er') := R3.out.below ((Below.refl w3.heap.size w3).alloc (Nat.le_refl _) _) sz3
  rw [← hp] at sz3
  clear B3 L3 O3 R3
  go_wp2_with fail
  rw [← hp]
  obtain ⟨w4, hw4⟩ : ∃ w4, w4 = w3.alloc (.cells #[.int .i64 ver, .bool r, .bool e, .bool m, .int .i64 op, .int .i64 seq, .int .i64 sta, .int .i64 ass, .int .i64 off, .slice da Dn dc, .int .i64 0, .slice none 0 0] 45) := ⟨_, rfl⟩
  rw [← hw4] at C4 B4 L4 O4 R4 ⊢
  clear hw4 hp
  refine (ending_any (w.heap.size + 1) q bs' er' w4 HB'.out R4.out).mono ?_
  rintro e' w5 ⟨mv, rfl, hg5, ho5, bs'', hr5⟩
  have sz4 : p < w4.heap.size := C4.out.lt
  have C5 : Hid (Bk p w5 #[.int .i64 ver, .bool r, .bool e, .bool m, .int .i64 op, .int .i64 seq, .int .i64 sta, .int .i64 ass, .int .i64 off, .slice da Dn dc, .int .i64 0, .slice none 0 0] 45) := C4.out.mod hg5 (by omega)
  have B5 : Hid (Bk w.heap.size w5 #[.int .i64 0, .bool false, .bool false, .bool false, .int .i64 0, .int .i64 0, .int .i64 0, .int .i64 0, .int .i64 0, .slice none 0 0, .int .i64 0, .slice none 0 0] 45) := B4.out.mod hg5 (by omega)
  have L5 : Hid (Below w.heap.size w w5) := below_mod L4.out hg5 (by omega) (by omega)
  have O5 : Hid (Own w5 (q + 1) (.slice da Dn dc) data ∧ (Value.slice da Dn dc).ownBlock ≠ some p) := by
    refine ⟨World.ownsRow.kept O4.out.1 hg5 (.inr fun e => ?_), O4.out.2⟩
    have := (O4.out.1.lt q e).1
    omega
  have P5 : Hid (Own w5 (q + 1) mv (enM bs' er') ∧ mv.ownBlock ≠ some p) := ⟨ho5.mono (by omega), fun e => by have := (ho5.lt p e).1; omega⟩
  have R5 : Hid (RdX (w.heap.size + 1) q w5 bs'' (enE bs' er')) := hr5
  obtain ⟨ma, mc, hmv, -⟩ := ho5.rs
  subst hmv
  obtain ⟨mn, hmn⟩ : ∃ L, L = (enM bs' er').length := ⟨_, rfl⟩
  rw [← hmn] at P5 ⊢
  obtain ⟨key, hkey⟩ : ∃ k, k = enK bs' er' := ⟨_, rfl⟩
  rw [← hkey]
  have HKM : Hid (key = enK bs' er') := hkey
  obtain ⟨nak, hnak⟩ : ∃ n, n = decide (bs'.length = 4) := ⟨_, rfl⟩
  rw [← hnak]
  have HN : Hid (nak = decide (bs'.length = 4)) := hnak
  clear hg5 ho5 hr5 hmn hkey hnak C4 B4 L4 O4 R4
  have y10 := C5.out.cell 10
  have y11 := C5.out.cell 11
  have yf := C5.out.frozen
  simp only [List.getElem?_toArray, List.getElem?_cons_zero, List.getElem?_cons_succ] at y10 y11
  go_wp2_with fail
  have hne5 : Hid (q ≠ p) := by show _ ≠ _; omega
  refine (ask_any (w.heap.size + 1) q bs'' (enE bs' er') 32 (!nak) _ ((R5.out.far (by omega) hne5.out _).far (by omega) hne5.out _)).mono ?_
  rintro e' w7 ⟨rfl, hg7, ao7, cap7, h7⟩
  have C6 : Bk p ((w5.setCell ⟨p, 10, none⟩ (.int .i64 key)).setCell ⟨p, 11, none⟩ (.slice ma mn mc)) #[.int .i64 ver, .bool r, .bool e, .bool m, .int .i64 op, .int .i64 seq, .int .i64 sta, .int .i64 ass, .int .i64 off, .slice da Dn dc, .int .i64 key, .slice ma mn mc] 45 := (C5.out.set _).set _
  have C7 : Hid (Bk p w7 #[.int .i64 ver, .bool r, .bool e, .bool m, .int .i64 op, .int .i64 seq, .int .i64 sta, .int .i64 ass, .int .i64 off, .slice da Dn dc, .int .i64 key, .slice ma mn mc] 45) := C6.mod hg7 (by omega)
  have B7 : Hid (Bk w.heap.size w7 #[.int .i64 0, .bool false, .bool false, .bool false, .int .i64 0, .int .i64 0, .int .i64 0, .int .i64 0, .int .i64 0, .slice none 0 0, .int .i64 0, .slice none 0 0] 45) := ((B5.out.far (by omega) _).far (by omega) _).mod hg7 (by omega)
  have szz : w.heap.size ≤ ((w5.setCell ⟨p, 10, none⟩ (.int .i64 key)).setCell ⟨p, 11, none⟩ (.slice ma mn mc)).heap.size := by have := C6.lt; omega
  have L7 : Hid (Below w.heap.size w w7) := below_mod ((L5.out.setCell (p := ⟨p, 10, none⟩) (by show _ ≤ p; omega) _).setCell (p := ⟨p, 11, none⟩) (by show _ ≤ p; omega) _) hg7 szz (by omega)
  have keep : ∀ (x : Value) (xs : List Int), Own w5 (q + 1) x xs → x.ownBlock ≠ some p → Own w7 (w.heap.size + 1) x xs := fun x xs h1 h2 => by
    have k1 : Own (w5.setCell ⟨p, 10, none⟩ (.int .i64 key)) (q + 1) x xs := World.ownsRow.kept h1 (mod_set _ _ _ _) (.inr h2)
    have k2 : Own ((w5.setCell ⟨p, 10, none⟩ (.int .i64 key)).setCell ⟨p, 11, none⟩ (.slice ma mn mc)) (q + 1) x xs := World.ownsRow.kept k1 (mod_set _ _ _ _) (.inr h2)
    exact Own.mono (k2.mod hg7 (by omega)) (by omega)
  have O7 : Hid (Own w7 (w.heap.size + 1) (.slice da Dn dc) data) := keep _ _ O5.out.1 O5.out.2
  have P7 : Hid (Own w7 (w.heap.size + 1) (.slice ma mn mc) (enM bs' er')) := keep _ _ P5.out.1 P5.out.2
  have d1 := h7.c1
  obtain ⟨E, hE⟩ : ∃ E, E = rk (!nak) (enE bs' er') 32 := ⟨_, rfl⟩
  rw [← hE] at d1
  have HDP : Hid (DE bs E ∧ (E = 0 → DV bs ver r e m op seq sta ass off data key (enM bs' er'))) := by
    have := dec_pure (E := E) (HE0.out ▸ HCP.out) (by rw [hE, HN.out])
    rw [← HKM.out] at this
    exact this
  clear hg7 h7 C6 szz keep hE C5 B5 L5 O5 P5 R5 y10 y11 yf
  obtain ⟨z0, z1, z2, z3, z4, z5, z6, z7, z8, z9, z10, z11⟩ := B7.out.c12
  have zf := B7.out.frozen
  obtain ⟨c0, c1, c2, c3, c4, c5, c6, c7, c8, c9, c10, c11⟩ := C7.out.c12
  by_cases hz : E = 0
  · have hb : (E != 0) = false := by rw [bne_eq_false_iff_eq]; exact hz
    have HZ : Hid (E = 0) := hz
    clear hz
    go_wp2_with fail
    refine bodyPost_ret (v := .tuple #[ctV ver r e m op seq sta ass off (.slice da Dn dc) key (.slice ma mn mc), .int .i64 0]) (by simp [results, Try.results21, go_sem, ctV, z0, z1, z2, z3, z4, z5, z6, z7, z8, z9, z10, z11]) rfl ⟨_, _, _, _, _, _, _, _, _, _, data, _, _, enM bs' er', 0, rfl, ?_, ?_, ?_, HZ.out ▸ HDP.out.1, fun _ => HDP.out.2 HZ.out, fun h => absurd rfl h⟩
    · exact (by repeat' (first | with_reducible exact Below.refl _ _ | with_reducible exact L7.out | with_reducible refine Below.setCell ?_ (by first | (simp; done) | (simp; omega) | omega) _ | with_reducible refine below_drewN ?_ _ | with_reducible refine Below.drew ?_ | with_reducible refine Below.alloc ?_ (by first | (simp; done) | (simp; omega) | omega) _))
    · refine Own.mono (B := w.heap.size + 1) ?_ (Nat.le_succ _)
      iterate 12 (refine Own.low ?_ (Nat.lt_succ_self _))
      exact O7.out
    · refine Own.mono (B := w.heap.size + 1) ?_ (Nat.le_succ _)
      iterate 12 (refine Own.low ?_ (Nat.lt_succ_self _))
      exact P7.out
  · have hb : (E != 0) = true := by rw [bne_iff_ne]; exact hz
    have HZ : Hid (E ≠ 0) := hz
    clear hz
    clear c0 c1 c2 c3 c4 c5 c6 c7 c8 c9 c10 c11
    go_wp2_with fail
    go_region
    all_goals
      go_wp2_with fail
      refine bodyPost_ret (v := .tuple #[zC, .int .i64 E]) (by simp [results, Try.results21, go_sem, zC, z0, z1, z2, z3, z4, z5, z6, z7, z8, z9, z10, z11]) rfl ⟨0, false, false, false, 0, 0, 0, 0, 0, .slice none 0 0, [], 0, .slice none 0 0, [], E, rfl, ?_, Own.nil _ _, Own.nil _ _, HDP.out.1, fun h => absurd h HZ.out, fun _ => rfl⟩
      exact (by repeat' (first | with_reducible exact Below.refl _ _ | with_reducible exact L7.out | with_reducible refine Below.setCell ?_ (by first | (simp; done) | (simp; omega) | omega) _ | with_reducible refine below_drewN ?_ _ | with_reducible refine Below.drew ?_ | with_reducible refine Below.alloc ?_ (by first | (simp; done) | (simp; omega) | omega) _))
end Go.Proofs.Ytdobghhjlfffpaa
