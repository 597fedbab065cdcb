/- What Message of package wire returns. -/
import Derived.Test.YtdobghhjlfffpaaXF
namespace Go.Proofs.Ytdobghhjlfffpaa
open Go.RowKit
/-- a field as bytes -/
def xtL (x : Xt) : List Int := be 2 x.ty ++ be 2 (4 + x.dat.length) ++ x.dat
def xsL (xs : List Xt) : List Int := (xs.map xtL).flatten
/-- a packet without key and digest, as bytes -/
def msB (h : Hd) (xs : List Xt) : List Int := hdB h ++ xsL xs
theorem hdB_len (h : Hd) : (hdB h).length = 48 := by unfold hdB cat; simp [be_len]
theorem xsL_len (xs : List Xt) : ((xsL xs).length : Int) = sumX xs := by
  induction xs with
  | nil => rfl
  | cons x r ih =>
    have e : xsL (x :: r) = xtL x ++ xsL r := rfl
    rw [e, List.length_append, sumX]
    unfold xtL
    rw [List.length_append, List.length_append, be_len, be_len]
    omega
theorem xsL_take (xs : List Xt) (k : Nat) (hk : k < xs.length) : xsL (xs.take (k + 1)) = xsL (xs.take k) ++ xtL xs[k] := by
  unfold xsL
  rw [List.take_succ_eq_append_getElem hk, List.map_append, List.flatten_append]
  simp
theorem ck_ok {h : Hd} {xs : List Xt} {key : Int} {nak : Bool} {mn : Nat} (hc : ckE h xs key nak mn = 0) : hfB h = true ∧ xs.length ≤ 4 ∧ xsB xs = true ∧ kdB key nak mn = true ∧ szI xs key nak mn ≤ 512 := by
  unfold ckE at hc
  split at hc
  · rename_i h1
    split at hc
    · cases hc
    · split at hc
      · rename_i h2 h3
        split at hc
        · cases hc
        · simp only [Bool.and_eq_true] at h3
          exact ⟨h1, by omega, h3.1, h3.2, by omega⟩
      · cases hc
  · cases hc
theorem xs_ok {xs : List Xt} (hx : xsB xs = true) (k : Nat) (hk : k < xs.length) : (0 ≤ xs[k].ty ∧ xs[k].ty ≤ 65535) ∧ 24 ≤ (xs[k].dat.length : Int) ∧ (xs[k].dat.length : Int) % 4 = 0 := by
  unfold xsB at hx
  rw [List.all_eq_true] at hx
  have := hx xs[k] (List.getElem_mem hk)
  unfold xtB dtB at this
  simp only [Bool.and_eq_true, wiB_iff, decide_eq_true_eq] at this
  exact ⟨this.1, this.2.1, this.2.2⟩
theorem sumX_take_le (xs : List Xt) (k : Nat) : 0 ≤ sumX (xs.take k) ∧ sumX (xs.take k) ≤ sumX xs := by
  have h0 : ∀ l : List Xt, 0 ≤ sumX l := fun l => by
    induction l with
    | nil => simp [sumX]
    | cons x r ih => rw [sumX]; omega
  refine ⟨h0 _, ?_⟩
  have := sumX_app (xs.take k) (xs.drop k)
  rw [List.take_append_drop] at this
  have := h0 (xs.drop k)
  omega
set_option maxRecDepth 4000 in
set_option maxHeartbeats 8000000 in
theorem message_ok (h : Hd) (ev : Value) (xs : List Xt) (key : Int) (nak : Bool) (ma : Option Addr) (mn mc : Nat) (w : World) (he : Es w.heap.size w ev xs) (hl : xs.length ≤ 65536) (hx : ∀ x ∈ xs, x.dat.length ≤ 65536) (hmn : (mn : Int) ≤ 65536) (r0 : 0 ≤ h.rid) (r1 : h.rid < 4294967296) (hC : ckE h xs key nak mn = 0) :
    Calls Try.prog 9 #[pkV h ev key nak (.slice ma mn mc)] w fun e' w' => ∃ v, e' = .returned (.tuple #[v, .int .i64 0]) ∧ Below w.heap.size w w' ∧ Own w' w.heap.size v (msB h xs) := by
  obtain ⟨hf, hl4, hxo, hkd, hsz⟩ := ck_ok hC
  have H : Hid (Es w.heap.size w ev xs) := he
  obtain ⟨ea, ec, rfl, h1, -⟩ := he
  obtain ⟨en, hen⟩ : ∃ L, L = xs.length := ⟨_, rfl⟩
  have HCk : Hid (∀ v, Below w.heap.size w v → Calls Try.prog 12 #[.agg #[.int .i64 h.leap, .int .i64 h.ver, .int .i64 h.mode, .int .i64 h.str, .int .i64 h.poll, .int .i64 h.prec, .int .i64 h.del, .int .i64 h.dis, .int .u32 h.rid, .int .u64 h.t0, .int .u64 h.t1, .int .u64 h.t2, .int .u64 h.t3, .slice ea en ec, .int .i64 key, .bool nak, .slice ma mn mc]] v fun e' w' => e' = .returned (.int .i64 0) ∧ Below v.heap.size v w') := fun v hb => by
    have := check_any w.heap.size h _ xs key nak ma mn mc v (H.out.below hb (Nat.le_refl _)) hb.size hl hx hmn
    rw [hC, ← hen] at this
    exact this
  have HSM : Hid (sumX xs ≤ 464) := by
    show _ ≤ _
    have h1 := dsz_le key mn
    unfold szI at hsz
    split at hsz <;> omega
  have HHd : Hid (∀ (B q : Nat) (v : Value) (u : World), Wr B q u v [] → Calls Try.prog 24 #[.pointer (some ⟨q, 0, none⟩), .agg #[.int .i64 h.leap, .int .i64 h.ver, .int .i64 h.mode, .int .i64 h.str, .int .i64 h.poll, .int .i64 h.prec, .int .i64 h.del, .int .i64 h.dis, .int .u32 h.rid, .int .u64 h.t0, .int .u64 h.t1, .int .u64 h.t2, .int .u64 h.t3, .slice ea en ec, .int .i64 key, .bool nak, .slice ma mn mc]] u fun e' w' => e' = .returned (.tuple #[]) ∧ Below B u w' ∧ ∃ v', Wr B q w' v' (hdB h)) := fun B q v u hw => by
    refine (header_any B q v [] h ea en ec key nak ma mn mc u hw (by simp) hf r0 r1).mono ?_
    rintro e' w' ⟨a, b, v', c, _⟩
    exact ⟨a, b, v', by simpa using c⟩
  rw [← hen] at H ⊢
  have HL : Hid (en = xs.length) := hen
  have HXO : Hid (xsB xs = true) := hxo
  have l1 : (en : Int) ≤ 4 := by omega
  clear h1 hx hl hen hC hf hxo hkd hsz hmn r0 r1 hl4
  unfold pkV
  go_enter Try.func9, Try.ntmps9
  go_wp2_with (refine step_pk (by rfl) _ (by rfl) _ (by rfl) _ (by rfl) (Pb.new w _) ?_)
  refine (HCk.out _ (by repeat' (first | with_reducible exact Below.refl _ _ | with_reducible refine Below.setCell ?_ (by first | (simp; done) | (simp; omega) | omega) _ | with_reducible refine below_drewN ?_ _ | with_reducible refine Below.drew ?_ | with_reducible refine Below.alloc ?_ (by first | (simp; done) | (simp; omega) | omega) _))).mono ?_
  rintro e' w1 ⟨rfl, hb⟩
  have P1 : Hid (Pb w.heap.size w1 #[.int .i64 h.leap, .int .i64 h.ver, .int .i64 h.mode, .int .i64 h.str, .int .i64 h.poll, .int .i64 h.prec, .int .i64 h.del, .int .i64 h.dis, .int .u32 h.rid, .int .u64 h.t0, .int .u64 h.t1, .int .u64 h.t2, .int .u64 h.t3, .slice ea en ec, .int .i64 key, .bool nak, .slice ma mn mc]) := (Pb.new w _).below hb (by simp)
  have K1 : Hid (Ck w.heap.size w1 #[.int .i64 h.leap, .int .i64 h.ver, .int .i64 h.mode, .int .i64 h.str, .int .i64 h.poll, .int .i64 h.prec, .int .i64 h.del, .int .i64 h.dis, .int .u32 h.rid, .int .u64 h.t0, .int .u64 h.t1, .int .u64 h.t2, .int .u64 h.t3, .slice ea en ec, .int .i64 key, .bool nak, .slice ma mn mc]) := P1.out.ck
  have B1 : Hid (Below w.heap.size w w1) := Below.trans (by repeat' (first | with_reducible exact Below.refl _ _ | with_reducible refine Below.setCell ?_ (by first | (simp; done) | (simp; omega) | omega) _ | with_reducible refine below_drewN ?_ _ | with_reducible refine Below.drew ?_ | with_reducible refine Below.alloc ?_ (by first | (simp; done) | (simp; omega) | omega) _)) (hb.mono (by simp))
  have sz1 : w.heap.size < w1.heap.size := K1.out.lt
  clear hb
  have K2 : Hid (Ck w.heap.size (w1.alloc (.cells #[.slice none 0 0] 51)) #[.int .i64 h.leap, .int .i64 h.ver, .int .i64 h.mode, .int .i64 h.str, .int .i64 h.poll, .int .i64 h.prec, .int .i64 h.del, .int .i64 h.dis, .int .u32 h.rid, .int .u64 h.t0, .int .u64 h.t1, .int .u64 h.t2, .int .u64 h.t3, .slice ea en ec, .int .i64 key, .bool nak, .slice ma mn mc]) := K1.out.below ((Below.refl w1.heap.size w1).alloc (Nat.le_refl _) _) sz1
  have P2 : Hid (Pb w.heap.size (w1.alloc (.cells #[.slice none 0 0] 51)) #[.int .i64 h.leap, .int .i64 h.ver, .int .i64 h.mode, .int .i64 h.str, .int .i64 h.poll, .int .i64 h.prec, .int .i64 h.del, .int .i64 h.dis, .int .u32 h.rid, .int .u64 h.t0, .int .u64 h.t1, .int .u64 h.t2, .int .u64 h.t3, .slice ea en ec, .int .i64 key, .bool nak, .slice ma mn mc]) := P1.out.below ((Below.refl w1.heap.size w1).alloc (Nat.le_refl _) _) sz1
  obtain ⟨q, hq⟩ : ∃ q, q = w1.heap.size := ⟨_, rfl⟩
  obtain ⟨W2, hW2⟩ : ∃ W2, W2 = w1.alloc (.cells #[.slice none 0 0] 51) := ⟨_, rfl⟩
  have R2 : Hid (Wr (w.heap.size + 1) q W2 (.slice none 0 0) []) := ⟨Own.nil _ _, by omega, by rw [hW2, hq]; simp, by simp [Value.ownBlock], by rw [hW2, hq]; simp, by rw [hW2, hq]; simp⟩
  have B2 : Hid (Below w.heap.size w W2) := by show Below _ _ _; rw [hW2]; exact B1.out.alloc (by omega) _
  obtain ⟨c0, c1, c2, c3, c4, c5, c6, c7, c8, c9, c10, c11, c12, c13, c14, c15, c16⟩ := K2.out.c17
  have HQW : Hid (q = w1.heap.size ∧ W2 = w1.alloc (.cells #[.slice none 0 0] 51)) := ⟨hq, hW2⟩
  rw [← hW2] at K2
  clear K1 B1 hq hW2
  go_wp2_with (refine step_pk (by rfl) _ (by rfl) _ (by rfl) _ (by rfl) P2.out ?_)
  rw [← HQW.out.1, ← HQW.out.2]
  refine (HHd.out _ _ _ _ R2.out).mono ?_
  rintro e' w3 ⟨rfl, hb3, v3, h3⟩
  have K3 : Hid (Ck w.heap.size w3 #[.int .i64 h.leap, .int .i64 h.ver, .int .i64 h.mode, .int .i64 h.str, .int .i64 h.poll, .int .i64 h.prec, .int .i64 h.del, .int .i64 h.dis, .int .u32 h.rid, .int .u64 h.t0, .int .u64 h.t1, .int .u64 h.t2, .int .u64 h.t3, .slice ea en ec, .int .i64 key, .bool nak, .slice ma mn mc]) := K2.out.below hb3 (by omega)
  have M3 : Hid (Wr (w.heap.size + 1) q w3 v3 (hdB h ++ xsL (xs.take 0)) ∧ Below w.heap.size w w3) := ⟨by simpa [xsL] using h3, B2.out.trans (hb3.mono (by omega))⟩
  clear hb3 h3 c0 c1 c2 c3 c4 c5 c6 c7 c8 c9 c10 c11 c12 c13 c14 c15 c16 K2 B2 R2 HQW sz1
  obtain ⟨c0, c1, c2, c3, c4, c5, c6, c7, c8, c9, c10, c11, c12, c13, c14, c15, c16⟩ := K3.out.c17
  go_wp2
  clear c0 c1 c2 c3 c4 c5 c6 c7 c8 c9 c10 c11 c12 c13 c14 c15 c16 K3
  go_loopw [19] (fun i wr => ∃ (k : Nat) (v : Value), i = .int .i64 (k : Int) ∧ (k : Int) ≤ en ∧ Hid (Wr (w.heap.size + 1) q wr v (hdB h ++ xsL (xs.take k)) ∧ Below w.heap.size w wr)) (fun i _ => (en - intOf i).toNat)
  case atStart => exact ⟨0, v3, rfl, by omega, M3⟩
  case round =>
    clear M3
    obtain ⟨k, v, rfl, hk, hM⟩ := hrel
    by_cases hlt : (k : Int) < en
    · have hkx : k < xs.length := by have := HL.out; omega
      obtain ⟨ad, g1, g2, g3, g4, -⟩ := (H.out.below hM.out.2 (Nat.le_refl _)).at k hkx
      have hix : ∀ w, Sem.run Try.prog (Instr.indexAt 26 (.slice ea en ec) (.int .i64 (k : Int))) w = .ok (.pointer (some (ad.add (k * 2)))) w := xidx_run en ec k g1.out hlt
      obtain ⟨A, hA0⟩ : ∃ A, A = ad.add (k * 2) := ⟨_, rfl⟩
      rw [← hA0] at hix g2 g3
      obtain ⟨⟨y0, y1⟩, y2, y3⟩ := xs_ok HXO.out k hkx
      obtain ⟨ty, hty⟩ : ∃ t, t = xs[k].ty := ⟨_, rfl⟩
      obtain ⟨dv, hdv⟩ : ∃ d, d = xs[k].dv := ⟨_, rfl⟩
      obtain ⟨dat, hdat⟩ : ∃ d, d = xs[k].dat := ⟨_, rfl⟩
      rw [← hty] at g2 y0 y1
      rw [← hdv] at g3 g4
      rw [← hdat] at g4 y2 y3
      have SDW : Hid (Sv w.heap.size w dv dat) := by
        obtain ⟨_, _, _, _, g5, _⟩ := H.out.at k hkx
        rw [← hdv, ← hdat] at g5
        exact g5
      obtain ⟨da, dc, hd, -⟩ := g4
      subst hd
      have hsum := sumX_take_le xs (k + 1)
      have hsum0 := sumX_take_le xs k
      have hlen := xsL_len (xs.take k)
      have hlk : ((hdB h ++ xsL (xs.take k)).length : Int) ≤ 512 := by rw [List.length_append, hdB_len]; have := HSM.out; omega
      have hdl : (dat.length : Int) ≤ 464 := by rw [sumX_take xs k hkx, ← hdat] at hsum; have := HSM.out; omega
      have HE : Hid (hdB h ++ xsL (xs.take (k + 1)) = hdB h ++ xsL (xs.take k) ++ be 2 ty ++ be 2 (4 + dat.length) ++ dat) := by
        show _ = _
        rw [xsL_take xs k hkx]
        unfold xtL
        rw [← hty, ← hdat]
        simp [List.append_assoc]
      obtain ⟨LB, hLB⟩ : ∃ l, l = hdB h ++ xsL (xs.take k) := ⟨_, rfl⟩
      rw [← hLB] at hM hlk HE
      have HLK : Hid (LB.length ≤ 512 ∧ dat.length ≤ 464) := ⟨by omega, by omega⟩
      obtain ⟨dn, hdn⟩ : ∃ n, n = dat.length := ⟨_, rfl⟩
      rw [← hdn] at g3 SDW HE hdl
      have g3' : wr.cell? { block := A.block, off := A.off + 1 } = some (.slice da dn dc) := by simpa [Addr.add] using g3
      clear hA0 hty hdv hdat g1 g3 hsum hsum0 hlen hlk hLB y2 y3 hdn
      obtain ⟨x, hxb⟩ : ∃ x, x = wr.heap.size := ⟨_, rfl⟩
      have hqx : q < wr.heap.size := hM.out.1.hq
      have hnv : some wr.heap.size ≠ v.ownBlock := fun e => by have := (hM.out.1.own.lt _ e.symm).2; omega
      have E1 : Hid (Ck x (wr.alloc (.cells #[.int .i64 ty, .slice da dn dc] 49)) #[.int .i64 ty, .slice da dn dc] ∧ Wr (w.heap.size + 1) q (wr.alloc (.cells #[.int .i64 ty, .slice da dn dc] 49)) v LB ∧ Below w.heap.size w (wr.alloc (.cells #[.int .i64 ty, .slice da dn dc] 49)) ∧ q ≠ x ∧ some x ≠ v.ownBlock) := by
        rw [hxb]
        exact ⟨Ck.new _ _ _, hM.out.1.alloc _, hM.out.2.alloc hM.out.2.size _, by omega, hnv⟩
      clear hM hqx hnv
      go_wp2_with fail
      rw [← hxb]
      obtain ⟨u1, hu1⟩ : ∃ u, u = wr.alloc (.cells #[.int .i64 ty, .slice da dn dc] 49) := ⟨_, rfl⟩
      rw [← hu1] at E1 ⊢
      clear hu1 hxb g2 g3'
      refine (number_fr (w.heap.size + 1) q v LB 2 ty _ (by decide) (by have := HLK.out; omega) E1.out.2.1).mono ?_
      rintro e' u2 ⟨rfl, hb2, v2, h2, f2⟩
      have E2 : Hid (Ck x u2 #[.int .i64 ty, .slice da dn dc] ∧ Wr (w.heap.size + 1) q u2 v2 (LB ++ be 2 ty) ∧ Below w.heap.size w u2 ∧ q ≠ x ∧ some x ≠ v2.ownBlock) := by
        refine ⟨E1.out.1.fr f2 (Ne.symm E1.out.2.2.2.1) E1.out.2.2.2.2, h2, E1.out.2.2.1.trans (hb2.mono (by omega)), E1.out.2.2.2.1, ?_⟩
        rcases f2.own with e | ⟨g, e, hg⟩
        · rw [e]; exact E1.out.2.2.2.2
        · rw [e]; intro y; injection y with y; have := E1.out.1.lt; omega
      have k1 : u2.cell? ⟨x, 1, none⟩ = some (.slice da dn dc) := E2.out.1.at_ 1
      clear hb2 h2 f2 E1
      go_wp2_with fail
      refine (number_fr (w.heap.size + 1) q v2 (LB ++ be 2 ty) 2 (4 + dn) _ (by decide) (by have := HLK.out; rw [List.length_append, be_len]; omega) E2.out.2.1).mono ?_
      rintro e' u3 ⟨rfl, hb3, v3, h3, f3⟩
      have E3 : Hid (Ck x u3 #[.int .i64 ty, .slice da dn dc] ∧ Wr (w.heap.size + 1) q u3 v3 (LB ++ be 2 ty ++ be 2 (4 + dn)) ∧ Below w.heap.size w u3) := ⟨E2.out.1.fr f3 (Ne.symm E2.out.2.2.2.1) E2.out.2.2.2.2, h3, E2.out.2.2.1.trans (hb3.mono (by omega))⟩
      have SD3 : Hid (Sv w.heap.size u3 (.slice da dn dc) dat) := SDW.out.below E3.out.2.2 (Nat.le_refl _)
      clear k1
      have k1 : u3.cell? ⟨x, 1, none⟩ = some (.slice da dn dc) := E3.out.1.at_ 1
      clear hb3 h3 f3 E2
      go_wp2_with fail
      refine (wbytes_any (w.heap.size + 1) q w.heap.size v3 _ (LB ++ be 2 ty ++ be 2 (4 + dn)) dat _ (by have := HLK.out; simp only [List.length_append, be_len]; omega) E3.out.2.1 SD3.out).mono ?_
      rintro e' u4 ⟨rfl, hb4, v4, h4⟩
      have M4 : Hid (Wr (w.heap.size + 1) q u4 v4 (hdB h ++ xsL (xs.take (k + 1))) ∧ Below w.heap.size w u4) := ⟨by rw [HE.out]; exact h4, E3.out.2.2.trans (hb4.mono (by omega))⟩
      clear hb4 h4 E3 k1
      go_wp2
      exact ⟨⟨k + 1, v4, by go_num, by omega, M4⟩, by simp [intOf]; omega⟩
    · have hkE : xs.take k = xs := List.take_of_length_le (by have := HL.out; omega)
      rw [hkE] at hM
      have a0 := hM.out.1.c
      go_wp2
      go_ret2
      exact ⟨v, rfl, hM.out.2, hM.out.1.own.mono (Nat.le_succ _)⟩
end Go.Proofs.Ytdobghhjlfffpaa
