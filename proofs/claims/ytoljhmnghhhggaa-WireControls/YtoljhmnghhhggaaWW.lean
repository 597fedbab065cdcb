/- The law WireControls: walked. -/
import Derived.Test.YtoljhmnghhhggaaWTl
import Derived.Test.YtoljhmnghhhggaaWV
namespace Go.Proofs.Ytoljhmnghhhggaa
open Go.RowKit
set_option maxRecDepth 8000 in
set_option maxHeartbeats 8000000 in
theorem controls_long (ver : Int) (r e m : Bool) (op seq sta ass off : Int) (da : Option Addr) (dn dc : Nat) (key : Int) (ma : Option Addr) (mn mc : Nat) (ba : Option Addr) (bn bc : Nat) (w : World) (hdn : (dn : Int) ≤ 9223372036854775807) (hmn : (mn : Int) ≤ 9223372036854775807) (hbn : (bn : Int) ≤ 9223372036854775807) (h : 1048576 < dn ∨ 1048576 < mn ∨ 1048576 < bn) :
    Calls Try.prog 8 #[ctV ver r e m op seq sta ass off (.slice da dn dc) key (.slice ma mn mc), .slice ba bn bc] w fun e w' => e = .returned (.bool true) ∧ Below w.heap.size w w' := by
  obtain ⟨DN, hDN⟩ : ∃ x : Int, (dn : Int) = x := ⟨_, rfl⟩
  obtain ⟨MN, hMN⟩ : ∃ x : Int, (mn : Int) = x := ⟨_, rfl⟩
  obtain ⟨BN, hBN⟩ : ∃ x : Int, (bn : Int) = x := ⟨_, rfl⟩
  unfold ctV
  by_cases h1 : 1048576 < DN
  · go_enter Try.func8, Try.ntmps8
    go_wp2_with fail
    go_ret
    exact ⟨rfl, (by repeat' (first | with_reducible exact Below.refl _ _ | with_reducible refine Below.setCell ?_ (by first | (simp; done) | (simp; omega) | omega) _ | with_reducible refine below_drewN ?_ _ | with_reducible refine Below.drew ?_ | with_reducible refine Below.alloc ?_ (by first | (simp; done) | (simp; omega) | omega) _))⟩
  by_cases h2 : 1048576 < MN
  · go_enter Try.func8, Try.ntmps8
    go_wp2_with fail
    go_ret
    exact ⟨rfl, (by repeat' (first | with_reducible exact Below.refl _ _ | with_reducible refine Below.setCell ?_ (by first | (simp; done) | (simp; omega) | omega) _ | with_reducible refine below_drewN ?_ _ | with_reducible refine Below.drew ?_ | with_reducible refine Below.alloc ?_ (by first | (simp; done) | (simp; omega) | omega) _))⟩
  have h3 : 1048576 < BN := by omega
  go_enter Try.func8, Try.ntmps8
  go_wp2_with fail
  go_ret
  exact ⟨rfl, (by repeat' (first | with_reducible exact Below.refl _ _ | with_reducible refine Below.setCell ?_ (by first | (simp; done) | (simp; omega) | omega) _ | with_reducible refine below_drewN ?_ _ | with_reducible refine Below.drew ?_ | with_reducible refine Below.alloc ?_ (by first | (simp; done) | (simp; omega) | omega) _))⟩
set_option maxRecDepth 8000 in
set_option maxHeartbeats 16000000 in
theorem controls_main (ver : Int) (r e m : Bool) (op seq sta ass off : Int) (dv : Value) (key : Int) (mv bv : Value) (data mac b : List Int) (w : World) (hd : Sv w.heap.size w dv data) (hm : Sv w.heap.size w mv mac) (hb : Sv w.heap.size w bv b) (ld : data.length ≤ 1048576) (lm : mac.length ≤ 1048576) (lb : b.length ≤ 1048576) :
    Calls Try.prog 8 #[ctV ver r e m op seq sta ass off dv key mv, bv] w fun e w' => e = .returned (.bool true) ∧ Below w.heap.size w w' := by
  have HD : Hid (Sv w.heap.size w dv data) := hd
  have HM : Hid (Sv w.heap.size w mv mac) := hm
  have HBv : Hid (Sv w.heap.size w bv b) := hb
  have hokd := hd.okb
  have hokm := hm.okb
  have HOK : Hid (okb b) := hb.okb
  obtain ⟨da, dc, rfl, -⟩ := hd
  obtain ⟨ma, mc, rfl, -⟩ := hm
  obtain ⟨ba, bc, rfl, -⟩ := hb
  obtain ⟨dn, hdn⟩ : ∃ x, x = data.length := ⟨_, rfl⟩
  obtain ⟨mn, hmn⟩ : ∃ x, x = mac.length := ⟨_, rfl⟩
  obtain ⟨bn, hbn⟩ : ∃ x, x = b.length := ⟨_, rfl⟩
  have HLN : Hid (data.length ≤ 1048576 ∧ mac.length ≤ 1048576 ∧ b.length ≤ 1048576) := ⟨ld, lm, lb⟩
  rw [← hdn] at HD ⊢
  rw [← hmn] at HM ⊢
  rw [← hbn] at HBv ⊢
  obtain ⟨E0, hE0⟩ : ∃ x, x = ccE ver op seq sta ass off key dn mn := ⟨_, rfl⟩
  have HPC : Hid (∀ (w : World), Calls Try.prog 30 #[.agg #[.int .i64 ver, .bool r, .bool e, .bool m, .int .i64 op, .int .i64 seq, .int .i64 sta, .int .i64 ass, .int .i64 off, .slice da dn dc, .int .i64 key, .slice ma mn mc]] w fun e' w' => e' = .returned (.int .i64 E0) ∧ Below w.heap.size w w') := fun w' => by
    rw [hE0]; exact checkControl_any ver r e m op seq sta ass off da dn dc key ma mn mc w' (by omega) (by omega)
  have HE1 : Hid (E0 ≠ 0 → ∀ (w : World), Calls Try.prog 26 #[.agg #[.int .i64 ver, .bool r, .bool e, .bool m, .int .i64 op, .int .i64 seq, .int .i64 sta, .int .i64 ass, .int .i64 off, .slice da dn dc, .int .i64 key, .slice ma mn mc]] w fun e' w' => e' = .returned (.tuple #[.slice none 0 0, .int .i64 E0]) ∧ Below w.heap.size w w') := fun hn w' => by
    rw [hE0] at hn ⊢; exact encodeControl_err ver r e m op seq sta ass off da dn dc key ma mn mc w' (by omega) (by omega) hn
  have HE2 : Hid (E0 ≠ 0 → ∀ (w : World), Calls Try.prog 27 #[.agg #[.int .i64 ver, .bool r, .bool e, .bool m, .int .i64 op, .int .i64 seq, .int .i64 sta, .int .i64 ass, .int .i64 off, .slice da dn dc, .int .i64 key, .slice ma mn mc]] w fun e' w' => e' = .returned (.tuple #[.slice none 0 0, .int .i64 E0]) ∧ Below w.heap.size w w') := fun hn w' => by
    rw [hE0] at hn ⊢; exact rencodeControl_err ver r e m op seq sta ass off da dn dc key ma mn mc w' (by omega) (by omega) hn
  have HE3 : Hid (E0 ≠ 0 → ∀ (w : World), Calls Try.prog 28 #[.agg #[.int .i64 ver, .bool r, .bool e, .bool m, .int .i64 op, .int .i64 seq, .int .i64 sta, .int .i64 ass, .int .i64 off, .slice da dn dc, .int .i64 key, .slice ma mn mc]] w fun e' w' => e' = .returned (.tuple #[.slice none 0 0, .int .i64 E0]) ∧ Below w.heap.size w w') := fun hn w' => by
    rw [hE0] at hn ⊢; exact controlMessage_err ver r e m op seq sta ass off da dn dc key ma mn mc w' (by omega) (by omega) hn
  have HE4 : Hid (E0 ≠ 0 → ∀ (w : World), Calls Try.prog 29 #[.agg #[.int .i64 ver, .bool r, .bool e, .bool m, .int .i64 op, .int .i64 seq, .int .i64 sta, .int .i64 ass, .int .i64 off, .slice da dn dc, .int .i64 key, .slice ma mn mc]] w fun e' w' => e' = .returned (.tuple #[.slice none 0 0, .int .i64 E0]) ∧ Below w.heap.size w w') := fun hn w' => by
    rw [hE0] at hn ⊢; exact rcontrolMessage_err ver r e m op seq sta ass off da dn dc key ma mn mc w' (by omega) (by omega) hn
  obtain ⟨xs, hxs⟩ : ∃ xs, xs = ecB ver r e m op seq sta ass off data key mac := ⟨_, rfl⟩
  obtain ⟨ms, hms⟩ : ∃ ms, ms = cmB ver r e m op seq sta ass off data := ⟨_, rfl⟩
  have HO1 : Hid (E0 = 0 → ∀ (w' : World), Below w.heap.size w w' → w.heap.size ≤ w'.heap.size → Calls Try.prog 26 #[.agg #[.int .i64 ver, .bool r, .bool e, .bool m, .int .i64 op, .int .i64 seq, .int .i64 sta, .int .i64 ass, .int .i64 off, .slice da dn dc, .int .i64 key, .slice ma mn mc]] w' fun e' w2 => ∃ v, e' = .returned (.tuple #[v, .int .i64 0]) ∧ Below w'.heap.size w' w2 ∧ Own w2 w'.heap.size v xs) := fun hn w' hb hs => by
    rw [hE0, hdn, hmn] at hn
    have := encodeControl_ok ver r e m op seq sta ass off (.slice da data.length dc) (.slice ma mac.length mc) data mac key w' (by rw [← hdn]; exact (HD.out.below hb (Nat.le_refl _)).mono hs) (by rw [← hmn]; exact (HM.out.below hb (Nat.le_refl _)).mono hs) hn
    rw [← hxs, ← hdn, ← hmn] at this
    exact this
  have HO2 : Hid (E0 = 0 → ∀ (w' : World), Below w.heap.size w w' → w.heap.size ≤ w'.heap.size → Calls Try.prog 27 #[.agg #[.int .i64 ver, .bool r, .bool e, .bool m, .int .i64 op, .int .i64 seq, .int .i64 sta, .int .i64 ass, .int .i64 off, .slice da dn dc, .int .i64 key, .slice ma mn mc]] w' fun e' w2 => ∃ v, e' = .returned (.tuple #[v, .int .i64 0]) ∧ Below w'.heap.size w' w2 ∧ Own w2 w'.heap.size v xs) := fun hn w' hb hs => by
    rw [hE0, hdn, hmn] at hn
    have := rencodeControl_ok ver r e m op seq sta ass off (.slice da data.length dc) (.slice ma mac.length mc) data mac key w' (by rw [← hdn]; exact (HD.out.below hb (Nat.le_refl _)).mono hs) (by rw [← hmn]; exact (HM.out.below hb (Nat.le_refl _)).mono hs) hn
    rw [← hxs, ← hdn, ← hmn] at this
    exact this
  have HO3 : Hid (E0 = 0 → ∀ (w' : World), Below w.heap.size w w' → w.heap.size ≤ w'.heap.size → Calls Try.prog 28 #[.agg #[.int .i64 ver, .bool r, .bool e, .bool m, .int .i64 op, .int .i64 seq, .int .i64 sta, .int .i64 ass, .int .i64 off, .slice da dn dc, .int .i64 key, .slice ma mn mc]] w' fun e' w2 => ∃ v, e' = .returned (.tuple #[v, .int .i64 0]) ∧ Below w'.heap.size w' w2 ∧ Own w2 w'.heap.size v ms) := fun hn w' hb hs => by
    rw [hE0, hdn] at hn
    have := controlMessage_ok ver r e m op seq sta ass off (.slice da data.length dc) data key ma mn mc w' (by omega) (by rw [← hdn]; exact (HD.out.below hb (Nat.le_refl _)).mono hs) hn
    rw [← hms, ← hdn] at this
    exact this
  have HO4 : Hid (E0 = 0 → ∀ (w' : World), Below w.heap.size w w' → w.heap.size ≤ w'.heap.size → Calls Try.prog 29 #[.agg #[.int .i64 ver, .bool r, .bool e, .bool m, .int .i64 op, .int .i64 seq, .int .i64 sta, .int .i64 ass, .int .i64 off, .slice da dn dc, .int .i64 key, .slice ma mn mc]] w' fun e' w2 => ∃ v, e' = .returned (.tuple #[v, .int .i64 0]) ∧ Below w'.heap.size w' w2 ∧ Own w2 w'.heap.size v ms) := fun hn w' hb hs => by
    rw [hE0, hdn] at hn
    have := rcontrolMessage_ok ver r e m op seq sta ass off (.slice da data.length dc) data key ma mn mc w' (by omega) (by rw [← hdn]; exact (HD.out.below hb (Nat.le_refl _)).mono hs) hn
    rw [← hms, ← hdn] at this
    exact this
  have HXO : Hid (okb xs ∧ okb ms) := by
    have h1 : okb xs := by rw [hxs]; exact ecB_ok hokd hokm
    refine ⟨h1, ?_⟩
    rw [hxs] at h1
    rw [hms]
    unfold ecB at h1
    exact fun x hx => h1 x (List.mem_append_left _ hx)
  have b1 : (dn : Int) ≤ 1048576 := by omega
  have b2 : (mn : Int) ≤ 1048576 := by omega
  have b3 : (bn : Int) ≤ 1048576 := by omega
  clear hdn hmn hbn ld lm lb hE0 hxs hms hokd hokm
  unfold ctV
  go_enter Try.func8, Try.ntmps8
  go_wp2_with fail
  rcases Classical.em (E0 = 0) with hz | hz
  rotate_left
  refine (HE1.out hz _).mono ?_
  rintro e' w1 ⟨rfl, hb⟩
  have K1 : Hid (Ck w.heap.size w1 #[.int .i64 ver, .bool r, .bool e, .bool m, .int .i64 op, .int .i64 seq, .int .i64 sta, .int .i64 ass, .int .i64 off, .slice da dn dc, .int .i64 key, .slice ma mn mc]) := (Ck.new w _ 48).below hb (by simp)
  have B1 : Hid (Below w.heap.size w w1) := Below.trans (by repeat' (first | with_reducible exact Below.refl _ _ | with_reducible refine Below.setCell ?_ (by first | (simp; done) | (simp; omega) | omega) _ | with_reducible refine below_drewN ?_ _ | with_reducible refine Below.drew ?_ | with_reducible refine Below.alloc ?_ (by first | (simp; done) | (simp; omega) | omega) _)) (hb.mono (by simp))
  clear hb
  obtain ⟨c0, c1, c2, c3, c4, c5, c6, c7, c8, c9, c10, c11⟩ := K1.out.c12
  go_wp2_with fail
  refine (HE2.out hz _).mono ?_
  rintro e' w2 ⟨rfl, hb⟩
  have K2 : Hid (Ck w.heap.size w2 #[.int .i64 ver, .bool r, .bool e, .bool m, .int .i64 op, .int .i64 seq, .int .i64 sta, .int .i64 ass, .int .i64 off, .slice da dn dc, .int .i64 key, .slice ma mn mc]) := K1.out.below hb K1.out.lt
  have B2 : Hid (Below w.heap.size w w2) := B1.out.trans (hb.mono (Nat.le_of_lt K1.out.lt))
  clear hb c0 c1 c2 c3 c4 c5 c6 c7 c8 c9 c10 c11
  obtain ⟨c0, c1, c2, c3, c4, c5, c6, c7, c8, c9, c10, c11⟩ := K2.out.c12
  go_wp2_with fail
  refine (HE3.out hz _).mono ?_
  rintro e' w3 ⟨rfl, hb⟩
  have K3 : Hid (Ck w.heap.size w3 #[.int .i64 ver, .bool r, .bool e, .bool m, .int .i64 op, .int .i64 seq, .int .i64 sta, .int .i64 ass, .int .i64 off, .slice da dn dc, .int .i64 key, .slice ma mn mc]) := K2.out.below hb K2.out.lt
  have B3 : Hid (Below w.heap.size w w3) := B2.out.trans (hb.mono (Nat.le_of_lt K2.out.lt))
  clear hb c0 c1 c2 c3 c4 c5 c6 c7 c8 c9 c10 c11
  obtain ⟨c0, c1, c2, c3, c4, c5, c6, c7, c8, c9, c10, c11⟩ := K3.out.c12
  go_wp2_with fail
  refine (HE4.out hz _).mono ?_
  rintro e' w4 ⟨rfl, hb⟩
  have K4 : Hid (Ck w.heap.size w4 #[.int .i64 ver, .bool r, .bool e, .bool m, .int .i64 op, .int .i64 seq, .int .i64 sta, .int .i64 ass, .int .i64 off, .slice da dn dc, .int .i64 key, .slice ma mn mc]) := K3.out.below hb K3.out.lt
  have B4 : Hid (Below w.heap.size w w4) := B3.out.trans (hb.mono (Nat.le_of_lt K3.out.lt))
  clear hb c0 c1 c2 c3 c4 c5 c6 c7 c8 c9 c10 c11
  obtain ⟨c0, c1, c2, c3, c4, c5, c6, c7, c8, c9, c10, c11⟩ := K4.out.c12
  go_wp2_with fail
  refine (lbytes_eq 0 0 _ _ [] _ (Sv.nil _ _) (Sv.nil _ _)).mono ?_
  rintro e' w9 ⟨rfl, hw⟩
  rw [hw]
  clear hw
  go_wp2_with fail
  refine (lbytes_eq 0 0 _ _ [] _ (Sv.nil _ _) (Sv.nil _ _)).mono ?_
  rintro e' w9 ⟨rfl, hw⟩
  rw [hw]
  clear hw
  go_wp2_with fail
  refine (HPC.out _).mono ?_
  rintro e' W5 ⟨rfl, hb⟩
  have B5 : Hid (Below w.heap.size w W5) := B4.out.trans (hb.mono (Nat.le_of_lt K4.out.lt))
  clear hb c0 c1 c2 c3 c4 c5 c6 c7 c8 c9 c10 c11 K1 K2 K3 K4 B1 B2 B3 B4 hz
  go_wp2_with fail
  rotate_left
  subst hz
  refine (HO1.out (by first | trivial | rfl) _ (by repeat' (first | with_reducible exact Below.refl _ _ | with_reducible refine Below.setCell ?_ (by first | (simp; done) | (simp; omega) | omega) _ | with_reducible refine below_drewN ?_ _ | with_reducible refine Below.drew ?_ | with_reducible refine Below.alloc ?_ (by first | (simp; done) | (simp; omega) | omega) _)) (by simp)).mono ?_
  rintro e' w1 ⟨x, rfl, hb, ho⟩
  have K1 : Hid (Ck w.heap.size w1 #[.int .i64 ver, .bool r, .bool e, .bool m, .int .i64 op, .int .i64 seq, .int .i64 sta, .int .i64 ass, .int .i64 off, .slice da dn dc, .int .i64 key, .slice ma mn mc]) := (Ck.new w _ 48).below hb (by simp)
  have B1 : Hid (Below w.heap.size w w1) := Below.trans (by repeat' (first | with_reducible exact Below.refl _ _ | with_reducible refine Below.setCell ?_ (by first | (simp; done) | (simp; omega) | omega) _ | with_reducible refine below_drewN ?_ _ | with_reducible refine Below.drew ?_ | with_reducible refine Below.alloc ?_ (by first | (simp; done) | (simp; omega) | omega) _)) (hb.mono (by simp))
  have S1 : Hid (Sv w1.heap.size w1 x xs) := ho.sv HXO.out.1
  obtain ⟨xa, xc, hx, -⟩ := ho.rs
  subst hx
  obtain ⟨xn, hxn⟩ : ∃ n, n = xs.length := ⟨_, rfl⟩
  rw [← hxn] at S1 ⊢
  clear ho hxn
  clear hb
  obtain ⟨c0, c1, c2, c3, c4, c5, c6, c7, c8, c9, c10, c11⟩ := K1.out.c12
  go_wp2_with fail
  refine (HO2.out (by first | trivial | rfl) _ B1.out B1.out.size).mono ?_
  rintro e' w2 ⟨y, rfl, hb, ho⟩
  have K2 : Hid (Ck w.heap.size w2 #[.int .i64 ver, .bool r, .bool e, .bool m, .int .i64 op, .int .i64 seq, .int .i64 sta, .int .i64 ass, .int .i64 off, .slice da dn dc, .int .i64 key, .slice ma mn mc]) := K1.out.below hb K1.out.lt
  have B2 : Hid (Below w.heap.size w w2) := B1.out.trans (hb.mono (Nat.le_of_lt K1.out.lt))
  have ZZ2 : Hid (w1.heap.size ≤ w2.heap.size) := hb.size
  have S2 : Hid (Sv w2.heap.size w2 y xs) := ho.sv HXO.out.1
  obtain ⟨ya, yc, hy, -⟩ := ho.rs
  subst hy
  obtain ⟨yn, hyn⟩ : ∃ n, n = xs.length := ⟨_, rfl⟩
  rw [← hyn] at S2 ⊢
  clear ho hyn
  have T2 : Hid (Sv w1.heap.size w2 (.slice xa xn xc) xs) := S1.out.below hb (Nat.le_refl _)
  clear hb c0 c1 c2 c3 c4 c5 c6 c7 c8 c9 c10 c11
  obtain ⟨c0, c1, c2, c3, c4, c5, c6, c7, c8, c9, c10, c11⟩ := K2.out.c12
  go_wp2_with fail
  have Z12 : Hid (w1.heap.size ≤ w2.heap.size) := ZZ2.out
  refine (HO3.out (by first | trivial | rfl) _ B2.out B2.out.size).mono ?_
  rintro e' w3 ⟨mm, rfl, hb, ho⟩
  have K3 : Hid (Ck w.heap.size w3 #[.int .i64 ver, .bool r, .bool e, .bool m, .int .i64 op, .int .i64 seq, .int .i64 sta, .int .i64 ass, .int .i64 off, .slice da dn dc, .int .i64 key, .slice ma mn mc]) := K2.out.below hb K2.out.lt
  have B3 : Hid (Below w.heap.size w w3) := B2.out.trans (hb.mono (Nat.le_of_lt K2.out.lt))
  have ZZ3 : Hid (w2.heap.size ≤ w3.heap.size) := hb.size
  have S3 : Hid (Sv w3.heap.size w3 mm ms) := ho.sv HXO.out.2
  obtain ⟨mma, mmc, hmm, -⟩ := ho.rs
  subst hmm
  obtain ⟨mmn, hmmn⟩ : ∃ n, n = ms.length := ⟨_, rfl⟩
  rw [← hmmn] at S3 ⊢
  clear ho hmmn
  have T3 : Hid (Sv w1.heap.size w3 (.slice xa xn xc) xs ∧ Sv w2.heap.size w3 (.slice ya yn yc) xs) := ⟨T2.out.below hb (Z12.out), S2.out.below hb (Nat.le_refl _)⟩
  clear hb c0 c1 c2 c3 c4 c5 c6 c7 c8 c9 c10 c11
  obtain ⟨c0, c1, c2, c3, c4, c5, c6, c7, c8, c9, c10, c11⟩ := K3.out.c12
  go_wp2_with fail
  refine (HO4.out (by first | trivial | rfl) _ B3.out B3.out.size).mono ?_
  rintro e' w4 ⟨nn, rfl, hb, ho⟩
  have K4 : Hid (Ck w.heap.size w4 #[.int .i64 ver, .bool r, .bool e, .bool m, .int .i64 op, .int .i64 seq, .int .i64 sta, .int .i64 ass, .int .i64 off, .slice da dn dc, .int .i64 key, .slice ma mn mc]) := K3.out.below hb K3.out.lt
  have B4 : Hid (Below w.heap.size w w4) := B3.out.trans (hb.mono (Nat.le_of_lt K3.out.lt))
  have S4 : Hid (Sv w4.heap.size w4 nn ms) := ho.sv HXO.out.2
  obtain ⟨nna, nnc, hnn, -⟩ := ho.rs
  subst hnn
  obtain ⟨nnn, hnnn⟩ : ∃ n, n = ms.length := ⟨_, rfl⟩
  rw [← hnnn] at S4 ⊢
  clear ho hnnn
  have T4 : Hid (Sv w1.heap.size w4 (.slice xa xn xc) xs ∧ Sv w2.heap.size w4 (.slice ya yn yc) xs ∧ Sv w3.heap.size w4 (.slice mma mmn mmc) ms) := ⟨T3.out.1.below hb (Nat.le_trans Z12.out ZZ3.out), T3.out.2.below hb ZZ3.out, S3.out.below hb (Nat.le_refl _)⟩
  clear hb c0 c1 c2 c3 c4 c5 c6 c7 c8 c9 c10 c11
  obtain ⟨c0, c1, c2, c3, c4, c5, c6, c7, c8, c9, c10, c11⟩ := K4.out.c12
  go_wp2_with fail
  refine (lbytes_eq w1.heap.size w2.heap.size _ _ xs _ T4.out.1 T4.out.2.1).mono ?_
  rintro e' w9 ⟨rfl, hw⟩
  rw [hw]
  clear hw
  go_wp2_with fail
  refine (lbytes_eq w3.heap.size w4.heap.size _ _ ms _ T4.out.2.2 S4.out).mono ?_
  rintro e' w9 ⟨rfl, hw⟩
  rw [hw]
  clear hw
  go_wp2_with fail
  refine (HPC.out _).mono ?_
  rintro e' W5 ⟨rfl, hb⟩
  have B5 : Hid (Below w.heap.size w W5) := B4.out.trans (hb.mono (Nat.le_of_lt K4.out.lt))
  clear hb c0 c1 c2 c3 c4 c5 c6 c7 c8 c9 c10 c11 K1 K2 K3 K4 B1 B2 B3 B4 S1 S2 S3 S4 T2 T3 T4
  go_wp2_with fail
  all_goals
    clear HE1 HE2 HE3 HE4 HO1 HO2 HO3 HO4 HPC HD HM HXO
    refine (decodeControl_any _ b _ (by have := HLN.out.2.2; omega) ((HBv.out.below B5.out (Nat.le_refl _)).mono B5.out.size)).mono ?_
    rintro e' w6 ⟨ver6, r6, e6, m6, op6, seq6, sta6, ass6, off6, dv6, data6, key6, mv6, mac6, E6, rfl, hb6, hod, hom, hDE, hDV, hZZ⟩
    have H6 : Hid (DE b E6 ∧ (E6 = 0 → DV b ver6 r6 e6 m6 op6 seq6 sta6 ass6 off6 data6 key6 mac6)) := ⟨hDE, hDV⟩
    have HZ6 : Hid (E6 ≠ 0 → ctV ver6 r6 e6 m6 op6 seq6 sta6 ass6 off6 dv6 key6 mv6 = zC) := hZZ
    have B6 : Hid (Below w.heap.size w w6) := B5.out.trans (hb6.mono B5.out.size)
    have O6 : Hid (Own w6 w.heap.size dv6 data6 ∧ Own w6 w.heap.size mv6 mac6) := ⟨hod.mono B5.out.size, hom.mono B5.out.size⟩
    obtain ⟨d6a, d6c, hd6, -⟩ := hod.rs
    obtain ⟨m6a, m6c, hm6, -⟩ := hom.rs
    subst hd6 hm6
    obtain ⟨d6n, hd6n⟩ : ∃ n, n = data6.length := ⟨_, rfl⟩
    obtain ⟨m6n, hm6n⟩ : ∃ n, n = mac6.length := ⟨_, rfl⟩
    rw [← hd6n, ← hm6n] at O6 HZ6 ⊢
    clear hb6 hod hom hDE hDV hZZ hd6n hm6n
    obtain ⟨p6, hp6⟩ : ∃ p, p = w6.heap.size := ⟨_, rfl⟩
    have K7 : Hid (Ck p6 (w6.alloc (.cells #[.int .i64 ver6, .bool r6, .bool e6, .bool m6, .int .i64 op6, .int .i64 seq6, .int .i64 sta6, .int .i64 ass6, .int .i64 off6, .slice d6a d6n d6c, .int .i64 key6, .slice m6a m6n m6c] 48)) #[.int .i64 ver6, .bool r6, .bool e6, .bool m6, .int .i64 op6, .int .i64 seq6, .int .i64 sta6, .int .i64 ass6, .int .i64 off6, .slice d6a d6n d6c, .int .i64 key6, .slice m6a m6n m6c]) := by rw [hp6]; exact Ck.new _ _ _
    have B7 : Hid (Below w.heap.size w (w6.alloc (.cells #[.int .i64 ver6, .bool r6, .bool e6, .bool m6, .int .i64 op6, .int .i64 seq6, .int .i64 sta6, .int .i64 ass6, .int .i64 off6, .slice d6a d6n d6c, .int .i64 key6, .slice m6a m6n m6c] 48))) := B6.out.alloc B6.out.size _
    have O7 : Hid (Own (w6.alloc (.cells #[.int .i64 ver6, .bool r6, .bool e6, .bool m6, .int .i64 op6, .int .i64 seq6, .int .i64 sta6, .int .i64 ass6, .int .i64 off6, .slice d6a d6n d6c, .int .i64 key6, .slice m6a m6n m6c] 48)) w.heap.size (.slice d6a d6n d6c) data6 ∧ Own (w6.alloc (.cells #[.int .i64 ver6, .bool r6, .bool e6, .bool m6, .int .i64 op6, .int .i64 seq6, .int .i64 sta6, .int .i64 ass6, .int .i64 off6, .slice d6a d6n d6c, .int .i64 key6, .slice m6a m6n m6c] 48)) w.heap.size (.slice m6a m6n m6c) mac6) := ⟨O6.out.1.below ((Below.refl w6.heap.size w6).alloc (Nat.le_refl _) _) (Nat.le_refl _), O6.out.2.below ((Below.refl w6.heap.size w6).alloc (Nat.le_refl _) _) (Nat.le_refl _)⟩
    unfold ctV
    go_wp2_with fail
    rw [← hp6]
    obtain ⟨w7, hw7⟩ : ∃ v, v = w6.alloc (.cells #[.int .i64 ver6, .bool r6, .bool e6, .bool m6, .int .i64 op6, .int .i64 seq6, .int .i64 sta6, .int .i64 ass6, .int .i64 off6, .slice d6a d6n d6c, .int .i64 key6, .slice m6a m6n m6c] 48) := ⟨_, rfl⟩
    rw [← hw7] at K7 B7 O7 ⊢
    clear hp6 hw7 B6 O6
    refine (rdecodeControl_any _ b _ (by have := HLN.out.2.2; omega) ((HBv.out.below B7.out (Nat.le_refl _)).mono B7.out.size)).mono ?_
    rintro e' w8 ⟨ver8, r8, e8, m8, op8, seq8, sta8, ass8, off8, dv8, data8, key8, mv8, mac8, E8, rfl, hb8, hod, hom, hDE, hDV8, hZ8⟩
    have hE8 : E8 = E6 := DE_uniq hDE H6.out.1
    subst hE8
    have H8 : Hid ((E8 = 0 → DV b ver8 r8 e8 m8 op8 seq8 sta8 ass8 off8 data8 key8 mac8) ∧ (E8 ≠ 0 → ctV ver8 r8 e8 m8 op8 seq8 sta8 ass8 off8 dv8 key8 mv8 = zC)) := ⟨hDV8, hZ8⟩
    have P8 : Hid (Own w8 w.heap.size dv8 data8 ∧ Own w8 w.heap.size mv8 mac8) := ⟨hod.mono B7.out.size, hom.mono B7.out.size⟩
    clear hDV8 hZ8
    obtain ⟨d8a, d8c, hd8, -⟩ := hod.rs
    obtain ⟨m8a, m8c, hm8, -⟩ := hom.rs
    subst hd8 hm8
    have K8 : Hid (Ck p6 w8 #[.int .i64 ver6, .bool r6, .bool e6, .bool m6, .int .i64 op6, .int .i64 seq6, .int .i64 sta6, .int .i64 ass6, .int .i64 off6, .slice d6a d6n d6c, .int .i64 key6, .slice m6a m6n m6c]) := K7.out.below hb8 K7.out.lt
    have B8 : Hid (Below w.heap.size w w8) := B7.out.trans (hb8.mono B7.out.size)
    have O8 : Hid (Own w8 w.heap.size (.slice d6a d6n d6c) data6 ∧ Own w8 w.heap.size (.slice m6a m6n m6c) mac6) := ⟨O7.out.1.below hb8 (Nat.le_refl _), O7.out.2.below hb8 (Nat.le_refl _)⟩
    clear hb8 hod hom hDE K7 B7 O7
    unfold ctV
    obtain ⟨d8n, hd8n⟩ : ∃ n, n = data8.length := ⟨_, rfl⟩
    obtain ⟨m8n, hm8n⟩ : ∃ n, n = mac8.length := ⟨_, rfl⟩
    rw [← hd8n, ← hm8n] at H8 P8 ⊢
    obtain ⟨w9, hw9⟩ : ∃ v, v = w8.alloc (.cells #[.int .i64 ver8, .bool r8, .bool e8, .bool m8, .int .i64 op8, .int .i64 seq8, .int .i64 sta8, .int .i64 ass8, .int .i64 off8, .slice d8a d8n d8c, .int .i64 key8, .slice m8a m8n m8c] 48) := ⟨_, rfl⟩
    have K9 : Hid (Ck p6 w9 #[.int .i64 ver6, .bool r6, .bool e6, .bool m6, .int .i64 op6, .int .i64 seq6, .int .i64 sta6, .int .i64 ass6, .int .i64 off6, .slice d6a d6n d6c, .int .i64 key6, .slice m6a m6n m6c]) := by rw [hw9]; exact K8.out.below ((Below.refl w8.heap.size w8).alloc (Nat.le_refl _) _) K8.out.lt
    have B9 : Hid (Below w.heap.size w w9) := by rw [hw9]; exact B8.out.alloc B8.out.size _
    have O9 : Hid (Own w9 w.heap.size (.slice d6a d6n d6c) data6 ∧ Own w9 w.heap.size (.slice m6a m6n m6c) mac6) := by rw [hw9]; exact ⟨O8.out.1.below ((Below.refl w8.heap.size w8).alloc (Nat.le_refl _) _) (Nat.le_refl _), O8.out.2.below ((Below.refl w8.heap.size w8).alloc (Nat.le_refl _) _) (Nat.le_refl _)⟩
    have HW9 : Hid (w9 = w8.alloc (.cells #[.int .i64 ver8, .bool r8, .bool e8, .bool m8, .int .i64 op8, .int .i64 seq8, .int .i64 sta8, .int .i64 ass8, .int .i64 off8, .slice d8a d8n d8c, .int .i64 key8, .slice m8a m8n m8c] 48)) := hw9
    have P9 : Hid (Own w9 w.heap.size (.slice d8a d8n d8c) data8 ∧ Own w9 w.heap.size (.slice m8a m8n m8c) mac8) := by rw [hw9]; exact ⟨P8.out.1.below ((Below.refl w8.heap.size w8).alloc (Nat.le_refl _) _) (Nat.le_refl _), P8.out.2.below ((Below.refl w8.heap.size w8).alloc (Nat.le_refl _) _) (Nat.le_refl _)⟩
    obtain ⟨p8, hp8⟩ : ∃ p, p = w8.heap.size := ⟨_, rfl⟩
    have J9 : Hid (Ck p8 w9 #[.int .i64 ver8, .bool r8, .bool e8, .bool m8, .int .i64 op8, .int .i64 seq8, .int .i64 sta8, .int .i64 ass8, .int .i64 off8, .slice d8a d8n d8c, .int .i64 key8, .slice m8a m8n m8c]) := by rw [hw9, hp8]; exact Ck.new _ _ _
    clear hw9 hd8n hm8n K8 B8 O8 P8
    have HSM : Hid (∀ v, Below w9.heap.size w9 v → Calls Try.prog 32 #[.agg #[.int .i64 ver6, .bool r6, .bool e6, .bool m6, .int .i64 op6, .int .i64 seq6, .int .i64 sta6, .int .i64 ass6, .int .i64 off6, .slice d6a d6n d6c, .int .i64 key6, .slice m6a m6n m6c], .agg #[.int .i64 ver8, .bool r8, .bool e8, .bool m8, .int .i64 op8, .int .i64 seq8, .int .i64 sta8, .int .i64 ass8, .int .i64 off8, .slice d8a d8n d8c, .int .i64 key8, .slice m8a m8n m8c]] v fun e' w' => e' = .returned (.bool true) ∧ Below v.heap.size v w') := by
      intro v hb
      by_cases hz8 : E8 = 0
      · obtain ⟨a1, a2, a3, a4, a5, a6, a7, a8, a9, a10, a11, a12⟩ := H6.out.2 hz8
        obtain ⟨q1, q2, q3, q4, q5, q6, q7, q8, q9, q10, q11, q12⟩ := H8.out.1 hz8
        have ok6 : okb data6 := by rw [a10]; exact okb_take (okb_drop HOK.out _) _
        have okm6 : okb mac6 := by rw [a12]; unfold rst; exact okb_drop (okb_drop (okb_drop HOK.out _) _) _
        have ed : data8 = data6 := by rw [a10, q10]
        have em : mac8 = mac6 := by rw [a12, q12]
        have s1 := (O9.out.1.sv ok6).below hb (Nat.le_refl _)
        have s2 := (O9.out.2.sv okm6).below hb (Nat.le_refl _)
        have p1 := P9.out.1
        have p2 := P9.out.2
        rw [ed] at p1
        rw [em] at p2
        have s3 := (p1.sv ok6).below hb (Nat.le_refl _)
        have s4 := (p2.sv okm6).below hb (Nat.le_refl _)
        rw [show ver8 = ver6 by rw [a1, q1], show r8 = r6 by rw [a2, q2], show e8 = e6 by rw [a3, q3], show m8 = m6 by rw [a4, q4], show op8 = op6 by rw [a5, q5], show seq8 = seq6 by rw [a6, q6], show sta8 = sta6 by rw [a7, q7], show ass8 = ass6 by rw [a8, q8], show off8 = off6 by rw [a9, q9], show key8 = key6 by rw [a11, q11]]
        exact sameControl_eq _ _ ver6 r6 e6 m6 op6 seq6 sta6 ass6 off6 _ _ key6 _ _ data6 mac6 v s1 s3 s2 s4 hb.size hb.size
      · have z6 := HZ6.out hz8
        have z8 := H8.out.2 hz8
        unfold ctV at z6 z8
        rw [z6, z8]
        exact sameControl_eq 0 0 0 false false false 0 0 0 0 0 _ _ 0 _ _ [] [] v (Sv.nil _ _) (Sv.nil _ _) (Sv.nil _ _) (Sv.nil _ _) (Nat.zero_le _) (Nat.zero_le _)
    have hwr := HW9.out.symm
    obtain ⟨c0, c1, c2, c3, c4, c5, c6, c7, c8, c9, c10, c11⟩ := K9.out.c12
    obtain ⟨f0, f1, f2, f3, f4, f5, f6, f7, f8, f9, f10, f11⟩ := J9.out.c12
    have hp9 : w8.heap.size = p8 := hp8.symm
    clear hp8
    go_wp2_with fail
    refine (HSM.out _ (Below.refl _ _)).mono ?_
    rintro e' w10 ⟨rfl, hb10⟩
    have B10 : Hid (Below w.heap.size w w10) := B9.out.trans (hb10.mono B9.out.size)
    clear hb10 c0 c1 c2 c3 c4 c5 c6 c7 c8 c9 c10 c11 f0 f1 f2 f3 f4 f5 f6 f7 f8 f9 f10 f11
    go_wp2_with fail
    go_ret
    exact ⟨rfl, B10.out⟩
theorem WireControls_row (ver : Int) (r e m : Bool) (op seq sta ass off : Int) (dv : Value) (key : Int) (mv bv : Value) (data mac b : List Int) (w : World) (hd : Sv w.heap.size w dv data) (hm : Sv w.heap.size w mv mac) (hb : Sv w.heap.size w bv b) (ld : data.length ≤ maxLen) (lm : mac.length ≤ maxLen) (lb : b.length ≤ maxLen) :
    Calls Try.prog 8 #[ctV ver r e m op seq sta ass off dv key mv, bv] w fun e w' => e = .returned (.bool true) ∧ Below w.heap.size w w' := by
  by_cases h : data.length ≤ 1048576 ∧ mac.length ≤ 1048576 ∧ b.length ≤ 1048576
  · exact controls_main ver r e m op seq sta ass off dv key mv bv data mac b w hd hm hb h.1 h.2.1 h.2.2
  · have hM : maxLen ≤ 9223372036854775807 := by unfold maxLen; decide
    obtain ⟨da, dc, rfl, -⟩ := hd
    obtain ⟨ma, mc, rfl, -⟩ := hm
    obtain ⟨ba, bc, rfl, -⟩ := hb
    exact controls_long ver r e m op seq sta ass off da _ dc key ma _ mc ba _ bc w (by omega) (by omega) (by omega) (by omega)
end Go.Proofs.Ytoljhmnghhhggaa
