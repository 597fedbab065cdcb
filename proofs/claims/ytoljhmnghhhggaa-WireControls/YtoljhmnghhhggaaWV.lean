/- What the reference's ControlMessage and EncodeControl return. -/
import Derived.Test.YtoljhmnghhhggaaWU
import Derived.Test.YtoljhmnghhhggaaWQ
namespace Go.Proofs.Ytoljhmnghhhggaa
open Go.RowKit
theorem Own.lit2 (w : World) (B : Nat) (hB : B ≤ w.heap.size) (a b : Int) : Own (w.alloc (.cells #[.int .u8 a, .int .u8 b] 5)) B (.slice (some ⟨w.heap.size, 0, none⟩) 2 2) [a, b] := by
  refine ⟨by simp [U], .inr ⟨w.heap.size, 2, _, rfl, hB, heap_alloc_new w _, Nat.le_refl _, by unfold maxLen; decide, by simp, by simp [U]⟩⟩
def lenOf : Value → Nat
  | .slice _ n _ => n
  | _ => 0
/-- what the loop that fills has made -/
structure FSw (w wr : World) (B : Nat) (bs : List Int) (j : Nat) (v : Value) : Prop where
  own : Own wr B v (bs ++ List.replicate j 0)
  bel : Below B w wr
set_option maxRecDepth 4000 in
set_option maxHeartbeats 4000000 in
theorem rcontrolMessage_ok (ver : Int) (r e m : Bool) (op seq sta ass off : Int) (dv : Value) (data : List Int) (key : Int) (ma : Option Addr) (mn mc : Nat) (w : World) (hmn : (mn : Int) ≤ 140737488355327) (hd : Sv w.heap.size w dv data) (hC : ccE ver op seq sta ass off key data.length mn = 0) :
    Calls Try.prog 29 #[ctV ver r e m op seq sta ass off dv key (.slice ma mn mc)] w fun e' w' => ∃ v, e' = .returned (.tuple #[v, .int .i64 0]) ∧ Below w.heap.size w w' ∧ Own w' w.heap.size v (cmB ver r e m op seq sta ass off data) := by
  obtain ⟨⟨sq0, sq1⟩, ⟨st0, st1⟩, ⟨as0, as1⟩, ⟨of0, of1⟩, ⟨v0, v1⟩, ⟨o0, o1⟩, hdf, hsz⟩ := cc_ok hC
  have HD : Hid (Sv w.heap.size w dv data) := hd
  obtain ⟨da, dc, rfl, hd1, hd2, hd3, hd4⟩ := hd
  have hf := fil_le data.length
  have hdz := dsz_le key mn
  have hdn : (data.length : Int) ≤ 500 := by omega
  obtain ⟨Dn, hDn⟩ : ∃ Dn : Nat, Dn = data.length := ⟨_, rfl⟩
  rw [← hDn] at hdn hC hf hsz HD ⊢
  have HDn : Hid (Dn = data.length) := hDn
  clear hDn hd1 hd2 hd3 hd4
  have HCk : Hid (∀ (w : World), Calls Try.prog 60 #[.agg #[.int .i64 ver, .bool r, .bool e, .bool m, .int .i64 op, .int .i64 seq, .int .i64 sta, .int .i64 ass, .int .i64 off, .slice da Dn dc, .int .i64 key, .slice ma mn mc]] w fun e' w' => e' = .returned (.int .i64 0) ∧ Below w.heap.size w w') := by
    intro w
    have := rcheckControl_any ver r e m op seq sta ass off da Dn dc key ma mn mc w (by omega) hmn
    rw [hC] at this
    exact this
  obtain ⟨X0, hX0⟩ : ∃ X : Int, X = 8 * ver + 6 := ⟨_, rfl⟩
  have w0 : IntKind.i64.wrap (ver * 8) = ver * 8 := by simp only [IntKind.wrap_i64]; omega
  have w1 : IntKind.i64.wrap (ver * 8 + 6) = X0 := by simp only [IntKind.wrap_i64]; omega
  have w2 : IntKind.u8.wrap X0 = X0 := by simp only [IntKind.wrap_u8]; omega
  have HX0 : Hid (X0 = 8 * ver + 6) := hX0
  have hX00 : 0 ≤ X0 := by omega
  have hX01 : X0 < 256 := by omega
  obtain ⟨X1, hX1⟩ : ∃ X : Int, X = 32 * flg r e m + op := ⟨_, rfl⟩
  have fb := flg_bd r e m
  have hX10 : 0 ≤ X1 := by omega
  have hX11 : X1 < 256 := by omega
  have w3 : IntKind.u8.wrap X1 = X1 := by simp only [IntKind.wrap_u8]; omega
  have HX1 : Hid (X1 = 32 * flg r e m + op) := hX1
  have HFl : Hid (op + 128 * b01 r + 64 * b01 e + 32 * b01 m = X1) := by show _ = _; rw [hX1]; unfold flg; omega
  have DnI : Hid ((Dn : Int) = data.length) := by show _ = _; rw [HDn.out]
  have HH : Hid (cmH ver r e m op seq sta ass off Dn = [X0, X1] ++ be 2 seq ++ be 2 sta ++ be 2 ass ++ be 2 off ++ be 2 (Dn : Int)) := by
    show _ = _
    unfold cmH
    rw [be_one _ (by have := HX0.out; omega) (by have := HX0.out; omega), be_one _ (by have := HX1.out; omega) (by have := HX1.out; omega), ← HX0.out, ← HX1.out]
    rfl
  obtain ⟨RES, hRES⟩ : ∃ R, R = cmB ver r e m op seq sta ass off data := ⟨_, rfl⟩
  rw [← hRES]
  have HRES : Hid (RES = [X0, X1] ++ be 2 seq ++ be 2 sta ++ be 2 ass ++ be 2 off ++ be 2 (Dn : Int) ++ data ++ List.replicate (fil Dn - Dn).toNat 0) := by
    show _ = _
    rw [hRES]
    unfold cmB
    rw [← HDn.out, HH.out, be_zero]
  clear hRES HH
  clear hdf hC hsz hdz hmn hX0 hX1 fb
  unfold ctV
  go_enter Try.func29, Try.ntmps29
  go_wp2_with fail
  refine (HCk.out _).mono ?_
  rintro e' w1 ⟨rfl, hb⟩
  have K1 : Hid (Ck w.heap.size w1 #[.int .i64 ver, .bool r, .bool e, .bool m, .int .i64 op, .int .i64 seq, .int .i64 sta, .int .i64 ass, .int .i64 off, .slice da Dn dc, .int .i64 key, .slice ma mn mc]) := (Ck.new w _ 48).below hb (by simp)
  have B1 : Hid (Below w.heap.size w w1) := Below.trans (by repeat' (first | with_reducible exact Below.refl _ _ | with_reducible refine Below.setCell ?_ (by first | (simp; done) | (simp; omega) | omega) _ | with_reducible refine below_drewN ?_ _ | with_reducible refine Below.drew ?_ | with_reducible refine Below.alloc ?_ (by first | (simp; done) | (simp; omega) | omega) _)) (hb.mono (by simp))
  have sz1 : w.heap.size < w1.heap.size := K1.out.lt
  clear hb
  obtain ⟨c0, c1, c2, c3, c4, c5, c6, c7, c8, c9, c10, c11⟩ := K1.out.c12
  cases r
  all_goals
    cases e
    all_goals
      cases m
      all_goals
        have hx1 := HFl.out
        simp only [b01, if_true, if_false, Bool.false_eq_true, Int.mul_zero, Int.mul_one, Int.add_zero] at hx1
        go_wp2_with fail
        refine (put_any (w.heap.size + 1) _ ([X0, X1]) seq 2 _ (by decide) (by simp) (Own.lit2 w1 (w.heap.size + 1) sz1 X0 X1) (by simp; omega)).mono ?_
        rintro e' w2 ⟨u2, rfl, hb, ho⟩
        have K2 : Hid (Ck w.heap.size w2 #[.int .i64 ver, .bool _, .bool _, .bool _, .int .i64 op, .int .i64 seq, .int .i64 sta, .int .i64 ass, .int .i64 off, .slice da Dn dc, .int .i64 key, .slice ma mn mc]) := (K1.out.below ((Below.refl w1.heap.size w1).alloc (Nat.le_refl _) _) sz1).below hb (by omega)
        have B2 : Hid (Below w.heap.size w w2) := (B1.out.alloc (Nat.le_of_lt sz1) _).trans (hb.mono (by omega))
        have Z2 : Hid (w1.heap.size ≤ w2.heap.size) := (by have := hb.size; simp at this; exact Nat.le_of_succ_le this)
        have O2 : Hid (Own w2 (w.heap.size + 1) u2 ([X0, X1] ++ be 2 seq)) := ho
        clear hb ho c0 c1 c2 c3 c4 c5 c6 c7 c8 c9 c10 c11
        obtain ⟨c0, c1, c2, c3, c4, c5, c6, c7, c8, c9, c10, c11⟩ := K2.out.c12
        go_wp2_with fail
        refine (put_any (w.heap.size + 1) _ ([X0, X1] ++ be 2 seq) sta 2 _ (by decide) (by simp [be_len]) O2.out (Nat.le_trans sz1 Z2.out)).mono ?_
        rintro e' w3 ⟨u3, rfl, hb, ho⟩
        have K3 : Hid (Ck w.heap.size w3 #[.int .i64 ver, .bool _, .bool _, .bool _, .int .i64 op, .int .i64 seq, .int .i64 sta, .int .i64 ass, .int .i64 off, .slice da Dn dc, .int .i64 key, .slice ma mn mc]) := K2.out.below hb (by omega)
        have B3 : Hid (Below w.heap.size w w3) := B2.out.trans (hb.mono (by omega))
        have Z3 : Hid (w1.heap.size ≤ w3.heap.size) := Nat.le_trans Z2.out hb.size
        have O3 : Hid (Own w3 (w.heap.size + 1) u3 ([X0, X1] ++ be 2 seq ++ be 2 sta)) := ho
        clear hb ho c0 c1 c2 c3 c4 c5 c6 c7 c8 c9 c10 c11
        obtain ⟨c0, c1, c2, c3, c4, c5, c6, c7, c8, c9, c10, c11⟩ := K3.out.c12
        go_wp2_with fail
        refine (put_any (w.heap.size + 1) _ ([X0, X1] ++ be 2 seq ++ be 2 sta) ass 2 _ (by decide) (by simp [be_len]) O3.out (Nat.le_trans sz1 Z3.out)).mono ?_
        rintro e' w4 ⟨u4, rfl, hb, ho⟩
        have K4 : Hid (Ck w.heap.size w4 #[.int .i64 ver, .bool _, .bool _, .bool _, .int .i64 op, .int .i64 seq, .int .i64 sta, .int .i64 ass, .int .i64 off, .slice da Dn dc, .int .i64 key, .slice ma mn mc]) := K3.out.below hb (by omega)
        have B4 : Hid (Below w.heap.size w w4) := B3.out.trans (hb.mono (by omega))
        have Z4 : Hid (w1.heap.size ≤ w4.heap.size) := Nat.le_trans Z3.out hb.size
        have O4 : Hid (Own w4 (w.heap.size + 1) u4 ([X0, X1] ++ be 2 seq ++ be 2 sta ++ be 2 ass)) := ho
        clear hb ho c0 c1 c2 c3 c4 c5 c6 c7 c8 c9 c10 c11
        obtain ⟨c0, c1, c2, c3, c4, c5, c6, c7, c8, c9, c10, c11⟩ := K4.out.c12
        go_wp2_with fail
        refine (put_any (w.heap.size + 1) _ ([X0, X1] ++ be 2 seq ++ be 2 sta ++ be 2 ass) off 2 _ (by decide) (by simp [be_len]) O4.out (Nat.le_trans sz1 Z4.out)).mono ?_
        rintro e' w5 ⟨u5, rfl, hb, ho⟩
        have K5 : Hid (Ck w.heap.size w5 #[.int .i64 ver, .bool _, .bool _, .bool _, .int .i64 op, .int .i64 seq, .int .i64 sta, .int .i64 ass, .int .i64 off, .slice da Dn dc, .int .i64 key, .slice ma mn mc]) := K4.out.below hb (by omega)
        have B5 : Hid (Below w.heap.size w w5) := B4.out.trans (hb.mono (by omega))
        have Z5 : Hid (w1.heap.size ≤ w5.heap.size) := Nat.le_trans Z4.out hb.size
        have O5 : Hid (Own w5 (w.heap.size + 1) u5 ([X0, X1] ++ be 2 seq ++ be 2 sta ++ be 2 ass ++ be 2 off)) := ho
        clear hb ho c0 c1 c2 c3 c4 c5 c6 c7 c8 c9 c10 c11
        obtain ⟨c0, c1, c2, c3, c4, c5, c6, c7, c8, c9, c10, c11⟩ := K5.out.c12
        go_wp2_with fail
        refine (put_any (w.heap.size + 1) _ ([X0, X1] ++ be 2 seq ++ be 2 sta ++ be 2 ass ++ be 2 off) (Dn : Int) 2 _ (by decide) (by simp [be_len]) O5.out (Nat.le_trans sz1 Z5.out)).mono ?_
        rintro e' w6 ⟨u6, rfl, hb, ho⟩
        have K6 : Hid (Ck w.heap.size w6 #[.int .i64 ver, .bool _, .bool _, .bool _, .int .i64 op, .int .i64 seq, .int .i64 sta, .int .i64 ass, .int .i64 off, .slice da Dn dc, .int .i64 key, .slice ma mn mc]) := K5.out.below hb (by omega)
        have B6 : Hid (Below w.heap.size w w6) := B5.out.trans (hb.mono (by omega))
        have Z6 : Hid (w1.heap.size ≤ w6.heap.size) := Nat.le_trans Z5.out hb.size
        have O6 : Hid (Own w6 (w.heap.size + 1) u6 ([X0, X1] ++ be 2 seq ++ be 2 sta ++ be 2 ass ++ be 2 off ++ be 2 (Dn : Int))) := ho
        clear hb ho c0 c1 c2 c3 c4 c5 c6 c7 c8 c9 c10 c11
        obtain ⟨c0, c1, c2, c3, c4, c5, c6, c7, c8, c9, c10, c11⟩ := K6.out.c12
        have l6 : ([X0, X1] ++ be 2 seq ++ be 2 sta ++ be 2 ass ++ be 2 off ++ be 2 (Dn : Int)).length = 12 := by simp [be_len]
        have HL6 : Hid (([X0, X1] ++ be 2 seq ++ be 2 sta ++ be 2 ass ++ be 2 off ++ be 2 (Dn : Int)).length = 12) := l6
        obtain ⟨H6, hH6⟩ : ∃ H6, H6 = [X0, X1] ++ be 2 seq ++ be 2 sta ++ be 2 ass ++ be 2 off ++ be 2 (Dn : Int) := ⟨_, rfl⟩
        rw [← hH6] at O6 HRES HL6
        clear l6 hH6
        go_wp2_with (at_builtin; refine wpList_app8 (by rfl) _ _ 27 (by rfl) Try.underlying27 (w.heap.size + 1) w.heap.size _ _ H6 data (by rfl) (by rfl) O6.out (HD.out.below B6.out (Nat.le_refl _)) (by have := HL6.out; have := HDn.out; omega) (Nat.le_trans sz1 Z6.out) ?_)
        intro u7 w7 ho hg hat
        have S7 : Hid (Own w7 (w.heap.size + 1) u7 (H6 ++ data) ∧ Below w.heap.size w w7 ∧ w.heap.size + 1 ≤ w7.heap.size) := ⟨ho, B6.out.grown hg (Nat.le_trans (Nat.le_of_lt sz1) Z6.out) (fun q e => Nat.le_trans (Nat.le_succ _) (O6.out.lt q e).1), Nat.le_trans (Nat.le_trans sz1 Z6.out) hg.size⟩
        obtain ⟨ao7, cap7, hu7, -⟩ := ho.rs
        subst hu7
        obtain ⟨T7, hT7⟩ : ∃ T, T = (H6 ++ data).length := ⟨_, rfl⟩
        rw [← hT7] at S7 ⊢
        have HT7 : Hid (T7 = 12 + Dn) := (by show _ = _; rw [hT7, List.length_append, HL6.out, ← HDn.out])
        have HTT : Hid (∀ q : Nat, (H6 ++ data ++ List.replicate q 0).length = T7 + q) := (fun q => by rw [List.length_append, ← hT7, List.length_replicate])
        clear ho hg hat hT7 c0 c1 c2 c3 c4 c5 c6 c7 c8 c9 c10 c11
        go_wp2
        go_loopw [6] (fun bv wr => ∃ (j : Nat) (ao : Option Addr) (n cap : Nat), bv = .slice ao n cap ∧ n = T7 + j ∧ (n : Int) ≤ 12 + fil Dn ∧ Hid (Own wr (w.heap.size + 1) (.slice ao n cap) (H6 ++ data ++ List.replicate j 0) ∧ Below w.heap.size w wr ∧ w.heap.size + 1 ≤ wr.heap.size)) (fun bv _ => (12 + fil Dn - lenOf bv).toNat)
        case atStart => exact ⟨0, ao7, T7, cap7, rfl, rfl, (by have := HT7.out; omega), by show _ ∧ _; simpa using S7.out⟩
        case round =>
          obtain ⟨q, ao, n, cap, rfl, hn, hn2, hS⟩ := hrel
          have HN : Hid (n = T7 + q ∧ (n : Int) ≤ 12 + fil Dn) := ⟨hn, hn2⟩
          obtain ⟨NI, hNI⟩ : ∃ x : Int, (n : Int) = x := ⟨_, rfl⟩
          obtain ⟨M4, hM4⟩ : ∃ x : Int, x = NI % 4 := ⟨_, rfl⟩
          have e4 : NI.tmod 4 = M4 := (by rw [Int.tmod_eq_emod_of_nonneg (by omega), hM4])
          have n0 : 0 ≤ NI := by omega
          have n1 : NI ≤ 100000 := by omega
          have key4 : M4 = 0 ↔ NI = 12 + fil Dn := (by have := HT7.out; unfold fil at *; omega)
          have HM : Hid (M4 = 0 ↔ NI = 12 + fil Dn) := key4
          have HNI : Hid ((n : Int) = NI) := hNI
          clear hn hn2 hM4 key4
          by_cases hz : M4 = 0
          · have bz : (M4 != 0) = false := (by rw [bne_eq_false_iff_eq]; exact hz)
            have hend : RES = H6 ++ data ++ List.replicate q 0 := (by
              rw [HRES.out]
              congr 2
              have h1 := HM.out.1 hz
              have h2 := HNI.out
              have h3 := HN.out.1
              have h4 := HT7.out
              omega)
            have HEnd : Hid (RES = H6 ++ data ++ List.replicate q 0) := hend
            clear hz hend
            go_wp2
            go_ret2
            exact ⟨_, rfl, hS.out.2.1, by rw [HEnd.out]; exact hS.out.1.mono (Nat.le_succ _)⟩
          · have bz : (M4 != 0) = true := (by rw [bne_iff_ne]; exact hz)
            have HZ : Hid (¬ M4 = 0) := hz
            clear hz
            go_wp2_with (at_builtin; refine wpList_app8 (by rfl) _ _ 27 (by rfl) Try.underlying27 (w.heap.size + 1) (wr.heap.size + 1) _ _ (H6 ++ data ++ List.replicate q 0) [0] (by rfl) (by rfl) (hS.out.1.below ((Below.refl wr.heap.size wr).alloc (Nat.le_refl _) _) (Nat.le_refl _)) (Sv.lit1 wr 0 (by omega) (by omega)) (by have h1 := HTT.out q; have := HN.out.1; have := HNI.out; simp only [List.length_cons, List.length_nil]; omega) (by simp; have := hS.out.2.2; omega) ?_)
            intro u8 w8 ho0 hg hat
            have ho : Own w8 (w.heap.size + 1) u8 (H6 ++ data ++ List.replicate q 0 ++ [0]) := (by simpa [List.append_assoc] using ho0)
            clear ho0
            have S8 : Hid (Own w8 (w.heap.size + 1) u8 (H6 ++ data ++ List.replicate (q + 1) 0) ∧ Below w.heap.size w w8 ∧ w.heap.size + 1 ≤ w8.heap.size) := (by
              refine ⟨?_, (hS.out.2.1.alloc (Nat.le_of_succ_le hS.out.2.2) _).grown hg (by simp; have := hS.out.2.2; omega) (fun x e => Nat.le_trans (Nat.le_succ _) (hS.out.1.lt x e).1), ?_⟩
              · rw [List.replicate_succ', ← List.append_assoc]; exact ho
              · have := hg.size; simp at this; have := hS.out.2.2; omega)
            have hl8 : (H6 ++ data ++ List.replicate q 0 ++ [0]).length = n + 1 := (by have h1 := HTT.out q; have := HN.out.1; rw [List.length_append, h1]; simp; omega)
            obtain ⟨ao8, cap8, hu8, -⟩ := ho.rs
            rw [hl8] at hu8
            subst hu8
            clear ho hg hat hl8
            go_wp2
            exact ⟨⟨q + 1, ao8, n + 1, cap8, rfl, by have := HN.out.1; omega, by have := HN.out; have := HZ.out; have := HM.out; have := HNI.out; omega, S8⟩, by simp [lenOf]; have := HN.out; have := HZ.out; have := HM.out; have := HNI.out; omega⟩
set_option maxHeartbeats 1000000 in
theorem rcontrolMessage_err (ver : Int) (r e m : Bool) (op seq sta ass off : Int) (da : Option Addr) (Dn dc : Nat) (key : Int) (ma : Option Addr) (mn mc : Nat) (w : World) (hdn : (Dn : Int) ≤ 140737488355327) (hmn : (mn : Int) ≤ 140737488355327) (hC : ccE ver op seq sta ass off key Dn mn ≠ 0) :
    Calls Try.prog 29 #[ctV ver r e m op seq sta ass off (.slice da Dn dc) key (.slice ma mn mc)] w fun e' w' => e' = .returned (.tuple #[.slice none 0 0, .int .i64 (ccE ver op seq sta ass off key Dn mn)]) ∧ Below w.heap.size w w' := by
  have HCk : Hid (∀ (w : World), Calls Try.prog 60 #[.agg #[.int .i64 ver, .bool r, .bool e, .bool m, .int .i64 op, .int .i64 seq, .int .i64 sta, .int .i64 ass, .int .i64 off, .slice da Dn dc, .int .i64 key, .slice ma mn mc]] w fun e' w' => e' = .returned (.int .i64 (ccE ver op seq sta ass off key Dn mn)) ∧ Below w.heap.size w w') := fun w => rcheckControl_any ver r e m op seq sta ass off da Dn dc key ma mn mc w hdn hmn
  obtain ⟨E, hE⟩ : ∃ E, E = ccE ver op seq sta ass off key Dn mn := ⟨_, rfl⟩
  rw [← hE] at HCk hC ⊢
  have hb : (E != 0) = true := by rw [bne_iff_ne]; exact hC
  clear hE hC
  unfold ctV
  go_enter Try.func29, Try.ntmps29
  go_wp2_with fail
  refine (HCk.out _).mono ?_
  rintro e' w1 ⟨rfl, hb1⟩
  have HB : Hid (Below w.heap.size w w1) := Below.trans (by repeat' (first | with_reducible exact Below.refl _ _ | with_reducible refine Below.setCell ?_ (by first | (simp; done) | (simp; omega) | omega) _ | with_reducible refine below_drewN ?_ _ | with_reducible refine Below.drew ?_ | with_reducible refine Below.alloc ?_ (by first | (simp; done) | (simp; omega) | omega) _)) (hb1.mono (by simp))
  clear hb1
  go_wp2_with fail
  go_ret2
  exact ⟨rfl, HB.out⟩
set_option maxHeartbeats 2000000 in
theorem rencodeControl_ok (ver : Int) (r e m : Bool) (op seq sta ass off : Int) (dv mv : Value) (data mac : List Int) (key : Int) (w : World) (hd : Sv w.heap.size w dv data) (hm : Sv w.heap.size w mv mac) (hC : ccE ver op seq sta ass off key data.length mac.length = 0) :
    Calls Try.prog 27 #[ctV ver r e m op seq sta ass off dv key mv] w fun e' w' => ∃ v, e' = .returned (.tuple #[v, .int .i64 0]) ∧ Below w.heap.size w w' ∧ Own w' w.heap.size v (ecB ver r e m op seq sta ass off data key mac) := by
  obtain ⟨_, _, _, _, _, _, hdf, hsz⟩ := cc_ok hC
  obtain ⟨k0, k1, hml, hk0⟩ := df_ok hdf
  have hf := fil_le data.length
  have hdz := dsz_le key mac.length
  have HD : Hid (Sv w.heap.size w dv data) := hd
  have HM : Hid (Sv w.heap.size w mv mac) := hm
  obtain ⟨da, dc, rfl, hd1, hd2, hd3, hd4⟩ := hd
  obtain ⟨ma, mc, rfl, hm1, hm2, hm3, hm4⟩ := hm
  clear hd1 hd2 hd3 hd4 hm1 hm2 hm3 hm4
  obtain ⟨Dn, hDn⟩ : ∃ Dn : Nat, Dn = data.length := ⟨_, rfl⟩
  obtain ⟨mn, hmn⟩ : ∃ mn : Nat, mn = mac.length := ⟨_, rfl⟩
  have HCM : Hid (∀ (w' : World), Below w.heap.size w w' → w.heap.size ≤ w'.heap.size → Calls Try.prog 29 #[.agg #[.int .i64 ver, .bool r, .bool e, .bool m, .int .i64 op, .int .i64 seq, .int .i64 sta, .int .i64 ass, .int .i64 off, .slice da Dn dc, .int .i64 key, .slice ma mn mc]] w' fun e' w2 => ∃ v, e' = .returned (.tuple #[v, .int .i64 0]) ∧ Below w'.heap.size w' w2 ∧ Own w2 w'.heap.size v (cmB ver r e m op seq sta ass off data)) := by
    intro w' hb hs
    have := rcontrolMessage_ok ver r e m op seq sta ass off (.slice da data.length dc) data key ma mac.length mc w' (by omega) ((HD.out.below hb (Nat.le_refl _)).mono hs) hC
    rw [hDn, hmn]
    exact this
  rw [← hDn] at HD ⊢
  rw [← hmn] at HM ⊢
  obtain ⟨CM, hCM⟩ : ∃ CM, CM = cmB ver r e m op seq sta ass off data := ⟨_, rfl⟩
  have lCM : (CM.length : Int) ≤ 512 := by rw [hCM, cmB_len]; omega
  unfold ecB
  rw [← hCM] at HCM ⊢
  have HM2 : Hid (mac.length ≤ 20 ∧ CM.length ≤ 512) := ⟨hml, by omega⟩
  clear hDn hmn hCM hC hdf hsz hf hdz hml lCM hk0
  unfold ctV
  go_enter Try.func27, Try.ntmps27
  go_wp2_with fail
  refine (HCM.out _ (by repeat' (first | with_reducible exact Below.refl _ _ | with_reducible refine Below.setCell ?_ (by first | (simp; done) | (simp; omega) | omega) _ | with_reducible refine below_drewN ?_ _ | with_reducible refine Below.drew ?_ | with_reducible refine Below.alloc ?_ (by first | (simp; done) | (simp; omega) | omega) _)) (by simp)).mono ?_
  rintro e' w1 ⟨v1, rfl, hb1, ho1⟩
  have K1 : Hid (Ck w.heap.size w1 #[.int .i64 ver, .bool r, .bool e, .bool m, .int .i64 op, .int .i64 seq, .int .i64 sta, .int .i64 ass, .int .i64 off, .slice da Dn dc, .int .i64 key, .slice ma mn mc]) := (Ck.new w _ 48).below hb1 (by simp)
  have B1 : Hid (Below w.heap.size w w1) := Below.trans (by repeat' (first | with_reducible exact Below.refl _ _ | with_reducible refine Below.setCell ?_ (by first | (simp; done) | (simp; omega) | omega) _ | with_reducible refine below_drewN ?_ _ | with_reducible refine Below.drew ?_ | with_reducible refine Below.alloc ?_ (by first | (simp; done) | (simp; omega) | omega) _)) (hb1.mono (by simp))
  have sz1 : w.heap.size + 1 ≤ w1.heap.size := by have := hb1.size; simpa using this
  have O1 : Hid (Own w1 (w.heap.size + 1) v1 CM) := ho1.mono (by simp)
  clear hb1 ho1
  obtain ⟨c0, c1, c2, c3, c4, c5, c6, c7, c8, c9, c10, c11⟩ := K1.out.c12
  by_cases hz : key = 0
  · subst hz
    go_wp2_with fail
    go_ret2
    refine ⟨v1, rfl, B1.out, ?_⟩
    have e : dg 0 mac = [] := rfl
    rw [e, List.append_nil]
    exact O1.out.mono (Nat.le_succ _)
  · have hb : (key != 0) = true := by rw [bne_iff_ne]; exact hz
    have HDG : Hid (dg key mac = be 4 key ++ mac) := by show _ = _; unfold dg; rw [if_neg hz]
    clear hz
    go_wp2_with fail
    refine (put_any (w.heap.size + 1) v1 CM key 4 _ (by decide) (by have := HM2.out.2; omega) O1.out sz1).mono ?_
    rintro e' w2 ⟨v2, rfl, hb2, ho2⟩
    have K2 : Hid (Ck w.heap.size w2 #[.int .i64 ver, .bool r, .bool e, .bool m, .int .i64 op, .int .i64 seq, .int .i64 sta, .int .i64 ass, .int .i64 off, .slice da Dn dc, .int .i64 key, .slice ma mn mc]) := K1.out.below hb2 (by omega)
    have B2 : Hid (Below w.heap.size w w2) := B1.out.trans (hb2.mono (by omega))
    have sz2 : w.heap.size + 1 ≤ w2.heap.size := Nat.le_trans sz1 hb2.size
    have O2 : Hid (Own w2 (w.heap.size + 1) v2 (CM ++ be 4 key)) := ho2
    clear hb2 ho2 c0 c1 c2 c3 c4 c5 c6 c7 c8 c9 c10 c11 K1 O1 B1
    obtain ⟨c0, c1, c2, c3, c4, c5, c6, c7, c8, c9, c10, c11⟩ := K2.out.c12
    obtain ⟨RES, hRES⟩ : ∃ R, R = CM ++ dg key mac := ⟨_, rfl⟩
    have HRES : Hid (CM ++ be 4 key ++ mac = CM ++ dg key mac) := by show _ = _; rw [HDG.out, List.append_assoc]
    obtain ⟨Q2, hQ2⟩ : ∃ Q, Q = CM ++ be 4 key := ⟨_, rfl⟩
    rw [← hQ2] at O2 HRES
    have HQ2 : Hid (Q2.length ≤ 516) := by show _ ≤ _; rw [hQ2, List.length_append, be_len]; have := HM2.out.2; omega
    clear hRES hQ2
    go_wp2_with (at_builtin; refine wpList_app8 (by rfl) _ _ 27 (by rfl) Try.underlying27 (w.heap.size + 1) w.heap.size _ _ Q2 mac (by rfl) (by rfl) O2.out (HM.out.below B2.out (Nat.le_refl _)) (by have := HQ2.out; have := HM2.out.1; omega) sz2 ?_)
    intro v3 w3 ho hg hat
    have H3 : Hid (Own w3 w.heap.size v3 (CM ++ dg key mac) ∧ Below w.heap.size w w3) := ⟨by rw [← HRES.out]; exact ho.mono (Nat.le_succ _), B2.out.grown hg (Nat.le_of_succ_le sz2) (fun q e => Nat.le_trans (Nat.le_succ _) (O2.out.lt q e).1)⟩
    clear ho hg hat
    go_wp2
    go_ret2
    exact ⟨v3, rfl, H3.out.2, H3.out.1⟩
set_option maxHeartbeats 1000000 in
theorem rencodeControl_err (ver : Int) (r e m : Bool) (op seq sta ass off : Int) (da : Option Addr) (Dn dc : Nat) (key : Int) (ma : Option Addr) (mn mc : Nat) (w : World) (hdn : (Dn : Int) ≤ 140737488355327) (hmn : (mn : Int) ≤ 140737488355327) (hC : ccE ver op seq sta ass off key Dn mn ≠ 0) :
    Calls Try.prog 27 #[ctV ver r e m op seq sta ass off (.slice da Dn dc) key (.slice ma mn mc)] w fun e' w' => e' = .returned (.tuple #[.slice none 0 0, .int .i64 (ccE ver op seq sta ass off key Dn mn)]) ∧ Below w.heap.size w w' := by
  have HCk : Hid (∀ (w : World), Calls Try.prog 29 #[.agg #[.int .i64 ver, .bool r, .bool e, .bool m, .int .i64 op, .int .i64 seq, .int .i64 sta, .int .i64 ass, .int .i64 off, .slice da Dn dc, .int .i64 key, .slice ma mn mc]] w fun e' w' => e' = .returned (.tuple #[.slice none 0 0, .int .i64 (ccE ver op seq sta ass off key Dn mn)]) ∧ Below w.heap.size w w') := fun w => rcontrolMessage_err ver r e m op seq sta ass off da Dn dc key ma mn mc w hdn hmn hC
  obtain ⟨E, hE⟩ : ∃ E, E = ccE ver op seq sta ass off key Dn mn := ⟨_, rfl⟩
  rw [← hE] at HCk hC ⊢
  have hb : (E != 0) = true := by rw [bne_iff_ne]; exact hC
  clear hE hC
  unfold ctV
  go_enter Try.func27, Try.ntmps27
  go_wp2_with fail
  refine (HCk.out _).mono ?_
  rintro e' w1 ⟨rfl, hb1⟩
  have HB : Hid (Below w.heap.size w w1) := Below.trans (by repeat' (first | with_reducible exact Below.refl _ _ | with_reducible refine Below.setCell ?_ (by first | (simp; done) | (simp; omega) | omega) _ | with_reducible refine below_drewN ?_ _ | with_reducible refine Below.drew ?_ | with_reducible refine Below.alloc ?_ (by first | (simp; done) | (simp; omega) | omega) _)) (hb1.mono (by simp))
  clear hb1
  go_wp2_with fail
  go_ret2
  exact ⟨rfl, HB.out⟩
end Go.Proofs.Ytoljhmnghhhggaa
