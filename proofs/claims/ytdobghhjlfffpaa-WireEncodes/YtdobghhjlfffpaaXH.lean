/- What Encode and Mode of package wire return. -/
import Derived.Test.YtdobghhjlfffpaaXG
namespace Go.Proofs.Ytdobghhjlfffpaa
open Go.RowKit
set_option maxHeartbeats 2000000 in
theorem message_err (h : Hd) (ev : Value) (xs : List Xt) (key : Int) (nak : Bool) (ma : Option Addr) (mn mc : Nat) (w : World) (he : Es w.heap.size w ev xs) (hl : xs.length ≤ 65536) (hx : ∀ x ∈ xs, x.dat.length ≤ 65536) (hmn : (mn : Int) ≤ 65536) (hC : ckE h xs key nak mn ≠ 0) :
    Calls Try.prog 9 #[pkV h ev key nak (.slice ma mn mc)] w fun e' w' => e' = .returned (.tuple #[.slice none 0 0, .int .i64 (ckE h xs key nak mn)]) ∧ Below w.heap.size w w' := by
  have H : Hid (Es w.heap.size w ev xs) := he
  obtain ⟨E, hE⟩ : ∃ E, E = ckE h xs key nak mn := ⟨_, rfl⟩
  obtain ⟨ea, ec, rfl, -⟩ := he
  obtain ⟨en, hen⟩ : ∃ L, L = xs.length := ⟨_, rfl⟩
  have HCk : Hid (∀ v, Below w.heap.size w v → Calls Try.prog 12 #[.agg #[.int .i64 h.leap, .int .i64 h.ver, .int .i64 h.mode, .int .i64 h.str, .int .i64 h.poll, .int .i64 h.prec, .int .i64 h.del, .int .i64 h.dis, .int .u32 h.rid, .int .u64 h.t0, .int .u64 h.t1, .int .u64 h.t2, .int .u64 h.t3, .slice ea en ec, .int .i64 key, .bool nak, .slice ma mn mc]] v fun e' w' => e' = .returned (.int .i64 E) ∧ Below v.heap.size v w') := fun v hb => by
    have := check_any w.heap.size h _ xs key nak ma mn mc v (H.out.below hb (Nat.le_refl _)) hb.size hl hx hmn
    rw [← hE, ← hen] at this
    exact this
  rw [← hE, ← hen]
  rw [← hE] at hC
  have hb : (E != 0) = true := by rw [bne_iff_ne]; exact hC
  clear hE hC hen hx hl hmn
  unfold pkV
  go_enter Try.func9, Try.ntmps9
  go_wp2_with (refine step_pk (by rfl) _ (by rfl) _ (by rfl) _ (by rfl) (Pb.new w _) ?_)
  refine (HCk.out _ (by repeat' (first | with_reducible exact Below.refl _ _ | with_reducible refine Below.setCell ?_ (by first | (simp; done) | (simp; omega) | omega) _ | with_reducible refine below_drewN ?_ _ | with_reducible refine Below.drew ?_ | with_reducible refine Below.alloc ?_ (by first | (simp; done) | (simp; omega) | omega) _))).mono ?_
  rintro e' w1 ⟨rfl, hb1⟩
  have HB : Hid (Below w.heap.size w w1) := Below.trans (by repeat' (first | with_reducible exact Below.refl _ _ | with_reducible refine Below.setCell ?_ (by first | (simp; done) | (simp; omega) | omega) _ | with_reducible refine below_drewN ?_ _ | with_reducible refine Below.drew ?_ | with_reducible refine Below.alloc ?_ (by first | (simp; done) | (simp; omega) | omega) _)) (hb1.mono (by simp))
  clear hb1
  go_wp2_with fail
  go_ret2
  exact ⟨rfl, HB.out⟩
/-- a packet as bytes -/
def nkL (nak : Bool) : List Int := if nak then be 4 0 else []
def enB (h : Hd) (xs : List Xt) (key : Int) (nak : Bool) (mac : List Int) : List Int := msB h xs ++ dg key mac ++ nkL nak
theorem msB_len (h : Hd) (xs : List Xt) : ((msB h xs).length : Int) = 48 + sumX xs := by
  unfold msB
  rw [List.length_append, hdB_len]
  have := xsL_len xs
  omega
theorem dg_le (key : Int) (mac : List Int) : (dg key mac).length ≤ 4 + mac.length := by
  unfold dg
  split
  · simp
  · rw [List.length_append, be_len]; omega
theorem kd_ok {key : Int} {nak : Bool} {mn : Nat} (h : kdB key nak mn = true) : dfB key mn = true ∧ (nak = true → key = 0) := by
  unfold kdB at h
  simp only [Bool.and_eq_true] at h
  refine ⟨h.1, fun hn => ?_⟩
  have h2 := h.2
  rw [hn] at h2
  simpa using h2
set_option maxRecDepth 4000 in
set_option maxHeartbeats 8000000 in
theorem encode_ok (h : Hd) (ev mv : Value) (xs : List Xt) (key : Int) (nak : Bool) (mac : List Int) (w : World) (he : Es w.heap.size w ev xs) (hm : Sv w.heap.size w mv mac) (hl : xs.length ≤ 65536) (hx : ∀ x ∈ xs, x.dat.length ≤ 65536) (hml : mac.length ≤ 65536) (r0 : 0 ≤ h.rid) (r1 : h.rid < 4294967296) (hC : ckE h xs key nak mac.length = 0) :
    Calls Try.prog 8 #[pkV h ev key nak mv] w fun e' w' => ∃ v, e' = .returned (.tuple #[v, .int .i64 0]) ∧ Below w.heap.size w w' ∧ Own w' w.heap.size v (enB h xs key nak mac) := by
  obtain ⟨hf, hl4, hxo, hkd, hsz⟩ := ck_ok hC
  obtain ⟨hdf, hkn⟩ := kd_ok hkd
  obtain ⟨k0, k1, hm20, _⟩ := df_ok hdf
  have H : Hid (Es w.heap.size w ev xs) := he
  have HM : Hid (Sv w.heap.size w mv mac) := hm
  obtain ⟨ea, ec, rfl, -⟩ := he
  obtain ⟨ma, mc, rfl, -⟩ := hm
  obtain ⟨en, hen⟩ : ∃ L, L = xs.length := ⟨_, rfl⟩
  obtain ⟨mn, hmn⟩ : ∃ L, L = mac.length := ⟨_, rfl⟩
  obtain ⟨MS, hMS⟩ : ∃ L, L = msB h xs := ⟨_, rfl⟩
  have HMs : Hid (∀ v, Below w.heap.size w v → w.heap.size ≤ v.heap.size → Calls Try.prog 9 #[.agg #[.int .i64 h.leap, .int .i64 h.ver, .int .i64 h.mode, .int .i64 h.str, .int .i64 h.poll, .int .i64 h.prec, .int .i64 h.del, .int .i64 h.dis, .int .u32 h.rid, .int .u64 h.t0, .int .u64 h.t1, .int .u64 h.t2, .int .u64 h.t3, .slice ea en ec, .int .i64 key, .bool nak, .slice ma mn mc]] v fun e' w' => ∃ y, e' = .returned (.tuple #[y, .int .i64 0]) ∧ Below v.heap.size v w' ∧ Own w' v.heap.size y MS) := fun v hb hs => by
    have := message_ok h _ xs key nak ma mac.length mc v ((H.out.below hb (Nat.le_refl _)).mono hs) hl hx (by omega) r0 r1 hC
    rw [← hMS, ← hen, ← hmn] at this
    exact this
  have lMS : (MS.length : Int) ≤ 512 := by
    rw [hMS, msB_len]
    have h1 := dsz_le key mac.length
    unfold szI at hsz
    split at hsz <;> omega
  unfold enB
  rw [← hMS, ← hen, ← hmn]
  rw [← hmn] at HM
  have HM2 : Hid (mac.length ≤ 20 ∧ MS.length ≤ 512) := ⟨hm20, by omega⟩
  clear H hen hmn hMS hf hl4 hxo hkd hsz hdf hm20 hx hl hml r0 r1 hC lMS hkn
  unfold pkV
  go_enter Try.func8, Try.ntmps8
  go_wp2_with (refine step_pk (by rfl) _ (by rfl) _ (by rfl) _ (by rfl) (Pb.new w _) ?_)
  refine (HMs.out _ (by repeat' (first | with_reducible exact Below.refl _ _ | with_reducible refine Below.setCell ?_ (by first | (simp; done) | (simp; omega) | omega) _ | with_reducible refine below_drewN ?_ _ | with_reducible refine Below.drew ?_ | with_reducible refine Below.alloc ?_ (by first | (simp; done) | (simp; omega) | omega) _)) (by simp)).mono ?_
  rintro e' w1 ⟨v1, rfl, hb1, ho1⟩
  have K1 : Hid (Ck w.heap.size w1 #[.int .i64 h.leap, .int .i64 h.ver, .int .i64 h.mode, .int .i64 h.str, .int .i64 h.poll, .int .i64 h.prec, .int .i64 h.del, .int .i64 h.dis, .int .u32 h.rid, .int .u64 h.t0, .int .u64 h.t1, .int .u64 h.t2, .int .u64 h.t3, .slice ea en ec, .int .i64 key, .bool nak, .slice ma mn mc]) := (Ck.new w _ 29).below hb1 (by simp)
  have B1 : Hid (Below w.heap.size w w1) := Below.trans (by repeat' (first | with_reducible exact Below.refl _ _ | with_reducible refine Below.setCell ?_ (by first | (simp; done) | (simp; omega) | omega) _ | with_reducible refine below_drewN ?_ _ | with_reducible refine Below.drew ?_ | with_reducible refine Below.alloc ?_ (by first | (simp; done) | (simp; omega) | omega) _)) (hb1.mono (by simp))
  have sz1 : w.heap.size + 1 ≤ w1.heap.size := by have := hb1.size; simpa using this
  have O1 : Hid (Own w1 (w.heap.size + 1) v1 MS) := ho1.mono (by simp)
  obtain ⟨ao, cap, hv1, _, _, hlt, _, _⟩ := ho1.rs
  clear hb1 ho1
  subst hv1
  have K2 : Hid (Ck w.heap.size (w1.alloc (.cells #[.slice ao MS.length cap] 51)) #[.int .i64 h.leap, .int .i64 h.ver, .int .i64 h.mode, .int .i64 h.str, .int .i64 h.poll, .int .i64 h.prec, .int .i64 h.del, .int .i64 h.dis, .int .u32 h.rid, .int .u64 h.t0, .int .u64 h.t1, .int .u64 h.t2, .int .u64 h.t3, .slice ea en ec, .int .i64 key, .bool nak, .slice ma mn mc]) := K1.out.below ((Below.refl w1.heap.size w1).alloc (Nat.le_refl _) _) sz1
  have R2 : Hid (Wr (w.heap.size + 1) w1.heap.size (w1.alloc (.cells #[.slice ao MS.length cap] 51)) (.slice ao MS.length cap) MS) := by
    refine ⟨O1.out.below ((Below.refl w1.heap.size w1).alloc (Nat.le_refl _) _) (Nat.le_refl _), by omega, by simp, ?_, by simp, by simp⟩
    cases ao with
    | none => simp [Value.ownBlock]
    | some ad => have := (hlt ad rfl).2; simp [Value.ownBlock]; omega
  clear K1 O1 hlt
  obtain ⟨c0, c1, c2, c3, c4, c5, c6, c7, c8, c9, c10, c11, c12, c13, c14, c15, c16⟩ := K2.out.c17
  obtain ⟨CL, hCL⟩ : ∃ CL, CL = MS.length := ⟨_, rfl⟩
  rw [← hCL] at R2 K2 c0 c1 c2 c3 c4 c5 c6 c7 c8 c9 c10 c11 c12 c13 c14 c15 c16 ⊢
  have HCL : Hid (CL = MS.length) := hCL
  have lCL : (CL : Int) ≤ 512 := by have := HM2.out.2; omega
  clear hCL
  go_wp2_with fail
  refine (digest_any (w.heap.size + 1) w1.heap.size _ _ MS mac key _ k0 k1 (by have := HM2.out; omega) R2.out (((HM.out.below B1.out (Nat.le_refl _)).below ((Below.refl w1.heap.size w1).alloc (Nat.le_refl _) _) (by omega)).mono (by omega))).mono ?_
  rintro e' w2 ⟨rfl, hb2, v2, h2⟩
  have K3 : Hid (Ck w.heap.size w2 #[.int .i64 h.leap, .int .i64 h.ver, .int .i64 h.mode, .int .i64 h.str, .int .i64 h.poll, .int .i64 h.prec, .int .i64 h.del, .int .i64 h.dis, .int .u32 h.rid, .int .u64 h.t0, .int .u64 h.t1, .int .u64 h.t2, .int .u64 h.t3, .slice ea en ec, .int .i64 key, .bool nak, .slice ma mn mc]) := K2.out.below hb2 (by omega)
  have B2 : Hid (Below w.heap.size w w2) := (B1.out.alloc (by omega) _).trans (hb2.mono (by omega))
  have W2 : Hid (Wr (w.heap.size + 1) w1.heap.size w2 v2 (MS ++ dg key mac)) := h2
  have a0 := h2.c
  clear hb2 h2 c0 c1 c2 c3 c4 c5 c6 c7 c8 c9 c10 c11 c12 c13 c14 c15 c16 K2 R2
  obtain ⟨c0, c1, c2, c3, c4, c5, c6, c7, c8, c9, c10, c11, c12, c13, c14, c15, c16⟩ := K3.out.c17
  cases nak
  · go_wp2_with fail
    go_ret2
    exact ⟨v2, rfl, B2.out, by have := W2.out.own.mono (Nat.le_succ _); simpa [nkL] using this⟩
  · go_wp2_with fail
    refine (number_any (w.heap.size + 1) w1.heap.size v2 (MS ++ dg key mac) 4 0 _ (by decide) (by have := HM2.out; have h1 := dg_le key mac; rw [List.length_append]; omega) W2.out).mono ?_
    rintro e' w3 ⟨rfl, hb3, v3, h3⟩
    have B3 : Hid (Below w.heap.size w w3 ∧ Wr (w.heap.size + 1) w1.heap.size w3 v3 (MS ++ dg key mac ++ be 4 0)) := ⟨B2.out.trans (hb3.mono (by omega)), h3⟩
    have a1 := h3.c
    clear hb3 h3 c0 c1 c2 c3 c4 c5 c6 c7 c8 c9 c10 c11 c12 c13 c14 c15 c16 a0
    go_wp2_with fail
    go_ret2
    exact ⟨v3, rfl, B3.out.1, by have := B3.out.2.own.mono (Nat.le_succ _); simpa [nkL] using this⟩
set_option maxHeartbeats 2000000 in
theorem encode_err (h : Hd) (ev : Value) (xs : List Xt) (key : Int) (nak : Bool) (ma : Option Addr) (mn mc : Nat) (w : World) (he : Es w.heap.size w ev xs) (hl : xs.length ≤ 65536) (hx : ∀ x ∈ xs, x.dat.length ≤ 65536) (hmn : (mn : Int) ≤ 65536) (hC : ckE h xs key nak mn ≠ 0) :
    Calls Try.prog 8 #[pkV h ev key nak (.slice ma mn mc)] w fun e' w' => e' = .returned (.tuple #[.slice none 0 0, .int .i64 (ckE h xs key nak mn)]) ∧ Below w.heap.size w w' := by
  have H : Hid (Es w.heap.size w ev xs) := he
  obtain ⟨E, hE⟩ : ∃ E, E = ckE h xs key nak mn := ⟨_, rfl⟩
  obtain ⟨ea, ec, rfl, -⟩ := he
  obtain ⟨en, hen⟩ : ∃ L, L = xs.length := ⟨_, rfl⟩
  have HCk : Hid (∀ v, Below w.heap.size w v → w.heap.size ≤ v.heap.size → Calls Try.prog 9 #[.agg #[.int .i64 h.leap, .int .i64 h.ver, .int .i64 h.mode, .int .i64 h.str, .int .i64 h.poll, .int .i64 h.prec, .int .i64 h.del, .int .i64 h.dis, .int .u32 h.rid, .int .u64 h.t0, .int .u64 h.t1, .int .u64 h.t2, .int .u64 h.t3, .slice ea en ec, .int .i64 key, .bool nak, .slice ma mn mc]] v fun e' w' => e' = .returned (.tuple #[.slice none 0 0, .int .i64 E]) ∧ Below v.heap.size v w') := fun v hb hs => by
    have := message_err h _ xs key nak ma mn mc v ((H.out.below hb (Nat.le_refl _)).mono hs) hl hx hmn hC
    rw [← hE, ← hen] at this
    exact this
  rw [← hE, ← hen]
  rw [← hE] at hC
  have hb : (E != 0) = true := by rw [bne_iff_ne]; exact hC
  clear hE hC hen hx hl hmn
  unfold pkV
  go_enter Try.func8, Try.ntmps8
  go_wp2_with (refine step_pk (by rfl) _ (by rfl) _ (by rfl) _ (by rfl) (Pb.new w _) ?_)
  refine (HCk.out _ (by repeat' (first | with_reducible exact Below.refl _ _ | with_reducible refine Below.setCell ?_ (by first | (simp; done) | (simp; omega) | omega) _ | with_reducible refine below_drewN ?_ _ | with_reducible refine Below.drew ?_ | with_reducible refine Below.alloc ?_ (by first | (simp; done) | (simp; omega) | omega) _)) (by simp)).mono ?_
  rintro e' w1 ⟨rfl, hb1⟩
  have HB : Hid (Below w.heap.size w w1) := Below.trans (by repeat' (first | with_reducible exact Below.refl _ _ | with_reducible refine Below.setCell ?_ (by first | (simp; done) | (simp; omega) | omega) _ | with_reducible refine below_drewN ?_ _ | with_reducible refine Below.drew ?_ | with_reducible refine Below.alloc ?_ (by first | (simp; done) | (simp; omega) | omega) _)) (hb1.mono (by simp))
  clear hb1
  go_wp2_with fail
  go_ret2
  exact ⟨rfl, HB.out⟩
theorem idx_run0 {ao : Option Addr} {ad : Addr} (n cap : Nat) (h : ao = some ad) (hk : 0 < n) (w : World) : Sem.run Try.prog (Instr.indexAt 27 (.slice ao n cap) (.int .i64 0)) w = .ok (.pointer (some (ad.add 0))) w := by
  subst h
  have u46 := Try.underlying27
  have u3 := Try.underlying5
  have c3 : Try.prog.cellsOf 5 = 1 := by kernel_rfl
  have h0 : (0 : Int) < n := by omega
  go_simp
set_option maxHeartbeats 1000000 in
theorem mode_any (N : Nat) (v : Value) (b : List Int) (w : World) (hv : Sv N w v b) (hb : 0 < b.length) :
    Calls Try.prog 19 #[v] w fun e w' => e = .returned (.int .i64 (b.getD 0 0 % 8)) ∧ w' = w := by
  obtain ⟨ao, cap, rfl, h1, h2, h3, h4⟩ := hv
  obtain ⟨ad, g1, g2⟩ := h3.at 0 hb
  obtain ⟨y0, y1⟩ := okb_at h4 0
  obtain ⟨x, hx⟩ : ∃ x, x = b.getD 0 0 := ⟨_, rfl⟩
  rw [← hx] at g2 y0 y1 ⊢
  have e1 : bits .and .u8 x 7 = x % 8 := u8_and_7 x y0 y1
  obtain ⟨L, hL⟩ : ∃ L, L = b.length := ⟨_, rfl⟩
  rw [← hL] at hb ⊢
  have hix : ∀ w, Sem.run Try.prog (Instr.indexAt 27 (.slice ao L cap) (.int .i64 0)) w = .ok (.pointer (some (ad.add 0))) w := idx_run0 L cap g1.out hb
  obtain ⟨A, hA⟩ : ∃ A, A = ad.add 0 := ⟨_, rfl⟩
  rw [← hA] at g2 hix
  have hz : ((L : Int) == 0) = false := by rw [beq_eq_false_iff_ne]; omega
  clear h1 h2 h3 h4 hx hL g1 hA
  go_enter Try.func19, Try.ntmps19
  go_wp2
  go_ret
  exact ⟨rfl, rfl⟩
end Go.Proofs.Ytdobghhjlfffpaa
