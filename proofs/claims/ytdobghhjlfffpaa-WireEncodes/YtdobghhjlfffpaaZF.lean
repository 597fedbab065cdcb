/- What the reference's Encode of packets of time returns. -/
import Derived.Test.YtdobghhjlfffpaaZE
namespace Go.Proofs.Ytdobghhjlfffpaa
open Go.RowKit
set_option linter.unusedVariables false
set_option maxRecDepth 8000 in
set_option maxHeartbeats 4000000 in
theorem rencode_ok (h : Hd) (ev mv : Value) (xs : List Xt) (key : Int) (nak : Bool) (mac : List Int) (w : World) (he : Es w.heap.size w ev xs) (hm : Sv w.heap.size w mv mac) (hl : xs.length ≤ 65536) (hx : ∀ x ∈ xs, x.dat.length ≤ 65536) (hml : mac.length ≤ 65536) (r0 : 0 ≤ h.rid) (r1 : h.rid < 4294967296) (hC : ckE h xs key nak mac.length = 0) :
    Calls Try.prog 10 #[pkV h ev key nak mv] w fun e' w' => ∃ v, e' = .returned (.tuple #[v, .int .i64 0]) ∧ Below w.heap.size w w' ∧ Own w' w.heap.size v (enB h xs key nak mac) := by
  obtain ⟨hf, hl4, hxo, hkd, hsz⟩ := ck_ok hC
  obtain ⟨hdf, hkn⟩ := kd_ok hkd
  obtain ⟨k0, k1, hm20, hkm⟩ := df_ok hdf
  have H : Hid (Es w.heap.size w ev xs) := he
  have HM : Hid (Sv w.heap.size w mv mac) := hm
  obtain ⟨ea, ec, rfl, -⟩ := he
  obtain ⟨ma, mc, rfl, -⟩ := hm
  obtain ⟨en, hen⟩ : ∃ L, L = xs.length := ⟨_, rfl⟩
  obtain ⟨mn, hmn⟩ : ∃ L, L = mac.length := ⟨_, rfl⟩
  obtain ⟨MS, hMS⟩ : ∃ L, L = msB h xs := ⟨_, rfl⟩
  have HMs : Hid (∀ v, Below w.heap.size w v → w.heap.size ≤ v.heap.size → Calls Try.prog 11 #[.agg #[.int .i64 h.leap, .int .i64 h.ver, .int .i64 h.mode, .int .i64 h.str, .int .i64 h.poll, .int .i64 h.prec, .int .i64 h.del, .int .i64 h.dis, .int .u32 h.rid, .int .u64 h.t0, .int .u64 h.t1, .int .u64 h.t2, .int .u64 h.t3, .slice ea en ec, .int .i64 key, .bool nak, .slice ma mn mc]] v fun e' w' => ∃ u, e' = .returned (.tuple #[u, .int .i64 0]) ∧ Below v.heap.size v w' ∧ Own w' v.heap.size u MS) := fun v hb hs => by
    have := rmessage_ok h _ xs key nak ma mac.length mc v ((H.out.below hb (Nat.le_refl _)).mono hs) hl hx (by omega) r0 r1 hC
    rw [← hMS, ← hen, ← hmn] at this
    exact this
  have lMS : (MS.length : Int) ≤ 512 := by
    rw [hMS, msB_len]
    have h1 := dsz_le key mac.length
    unfold szI at hsz
    split at hsz <;> omega
  unfold enB
  rw [← hMS, ← hen, ← hmn]
  rw [← hmn] at HM hkm
  have HM2 : Hid (mac.length ≤ 20 ∧ MS.length ≤ 512) := ⟨hm20, by omega⟩
  have HKM : Hid (key = 0 → mac = []) := fun hk => List.eq_nil_of_length_eq_zero (by rw [← hmn]; exact hkm.1 hk)
  have HKN : Hid (nak = true → key = 0) := hkn
  clear H hen hmn hMS hf hl4 hxo hkd hsz hdf hm20 hx hl hml r0 r1 hC lMS hkm hkn
  have y1 : IntKind.u64.wrap key = key := by rw [IntKind.wrap_u64]; omega
  unfold pkV
  go_enter Try.func10, Try.ntmps10
  go_wp2_with (refine step_pk (by rfl) _ (by rfl) _ (by rfl) _ (by rfl) (Pb.new w _) ?_)
  refine (HMs.out _ (by repeat' (first | with_reducible exact Below.refl _ _ | with_reducible refine Below.setCell ?_ (by first | (simp; done) | (simp; omega) | omega) _ | with_reducible refine below_drewN ?_ _ | with_reducible refine Below.drew ?_ | with_reducible refine Below.alloc ?_ (by first | (simp; done) | (simp; omega) | omega) _)) (by simp)).mono ?_
  rintro e' w1 ⟨v1, rfl, hb1, ho1⟩
  have K1 : Hid (Pb w.heap.size w1 #[.int .i64 h.leap, .int .i64 h.ver, .int .i64 h.mode, .int .i64 h.str, .int .i64 h.poll, .int .i64 h.prec, .int .i64 h.del, .int .i64 h.dis, .int .u32 h.rid, .int .u64 h.t0, .int .u64 h.t1, .int .u64 h.t2, .int .u64 h.t3, .slice ea en ec, .int .i64 key, .bool nak, .slice ma mn mc]) := (Pb.new w _).below hb1 (by simp)
  have B1 : Hid (Below w.heap.size w w1) := Below.trans (by repeat' (first | with_reducible exact Below.refl _ _ | with_reducible refine Below.setCell ?_ (by first | (simp; done) | (simp; omega) | omega) _ | with_reducible refine below_drewN ?_ _ | with_reducible refine Below.drew ?_ | with_reducible refine Below.alloc ?_ (by first | (simp; done) | (simp; omega) | omega) _)) (hb1.mono (by simp))
  have sz1 : w.heap.size + 1 ≤ w1.heap.size := by have := hb1.size; simpa using this
  have O1 : Hid (Own w1 (w.heap.size + 1) v1 MS) := ho1.mono (by simp)
  clear hb1 ho1 HMs
  by_cases hz : key = 0
  · subst hz
    have HMAC : Hid (mac = []) := HKM.out rfl
    obtain ⟨c0, c1, c2, c3, c4, c5, c6, c7, c8, c9, c10, c11, c12, c13, c14, c15, c16⟩ := K1.out.ck.c17
    cases nak
    · have HRES : Hid (MS = MS ++ dg 0 mac ++ nkL false) := by show _ = _; unfold dg nkL; simp
      go_wp2_with fail
      go_ret2
      exact ⟨v1, rfl, B1.out, by rw [← HRES.out]; exact O1.out.mono (Nat.le_succ _)⟩
    · have HRES : Hid (MS ++ be 4 0 ++ mac = MS ++ dg 0 mac ++ nkL true) := by show _ = _; unfold dg nkL; rw [HMAC.out]; simp
      go_wp2_with fail
      refine (put_any (w.heap.size + 1) v1 MS 0 4 _ (by decide) (by have := HM2.out.2; omega) O1.out sz1).mono ?_
      rintro e' w2 ⟨v2, rfl, hb2, ho2⟩
      have K2 : Hid (Pb w.heap.size w2 #[.int .i64 h.leap, .int .i64 h.ver, .int .i64 h.mode, .int .i64 h.str, .int .i64 h.poll, .int .i64 h.prec, .int .i64 h.del, .int .i64 h.dis, .int .u32 h.rid, .int .u64 h.t0, .int .u64 h.t1, .int .u64 h.t2, .int .u64 h.t3, .slice ea en ec, .int .i64 0, .bool true, .slice ma mn mc]) := K1.out.below hb2 (by omega)
      have B2 : Hid (Below w.heap.size w w2) := B1.out.trans (hb2.mono (by omega))
      have sz2 : w.heap.size + 1 ≤ w2.heap.size := Nat.le_trans sz1 hb2.size
      have O2 : Hid (Own w2 (w.heap.size + 1) v2 (MS ++ be 4 0)) := ho2
      clear hb2 ho2 c0 c1 c2 c3 c4 c5 c6 c7 c8 c9 c10 c11 c12 c13 c14 c15 c16 K1 O1 B1
      obtain ⟨c0, c1, c2, c3, c4, c5, c6, c7, c8, c9, c10, c11, c12, c13, c14, c15, c16⟩ := K2.out.ck.c17
      go_wp2_with (at_builtin; refine wpList_app8 (by rfl) _ _ 27 (by rfl) Try.underlying27 (w.heap.size + 1) w.heap.size _ _ (MS ++ be 4 0) mac (by rfl) (by rfl) O2.out (HM.out.below B2.out (Nat.le_refl _)) (by have := HM2.out; simp [be_len]; omega) sz2 ?_)
      intro v3 w3 ho hg hat
      have H3 : Hid (Own w3 w.heap.size v3 (MS ++ dg 0 mac ++ nkL true) ∧ Below w.heap.size w w3) := ⟨by rw [← HRES.out]; exact (by simpa [List.append_assoc] using ho : Own w3 (w.heap.size + 1) v3 (MS ++ be 4 0 ++ mac)).mono (Nat.le_succ _), B2.out.grown hg (Nat.le_of_succ_le sz2) (fun q e => Nat.le_trans (Nat.le_succ _) (O2.out.lt q e).1)⟩
      clear ho hg hat
      go_wp2_with fail
      go_ret2
      exact ⟨v3, rfl, H3.out.2, H3.out.1⟩
  · have hb : (key != 0) = true := by rw [bne_iff_ne]; exact hz
    have hn : nak = false := by
      cases nak with
      | false => rfl
      | true => exact absurd (HKN.out rfl) hz
    subst hn
    have HRES : Hid (MS ++ be 4 key ++ mac = MS ++ dg key mac ++ nkL false) := by show _ = _; unfold dg nkL; rw [if_neg hz]; simp [List.append_assoc]
    clear hz
    obtain ⟨c0, c1, c2, c3, c4, c5, c6, c7, c8, c9, c10, c11, c12, c13, c14, c15, c16⟩ := K1.out.ck.c17
    go_wp2_with fail
    refine (put_any (w.heap.size + 1) v1 MS key 4 _ (by decide) (by have := HM2.out.2; omega) O1.out sz1).mono ?_
    rintro e' w2 ⟨v2, rfl, hb2, ho2⟩
    have K2 : Hid (Pb w.heap.size w2 #[.int .i64 h.leap, .int .i64 h.ver, .int .i64 h.mode, .int .i64 h.str, .int .i64 h.poll, .int .i64 h.prec, .int .i64 h.del, .int .i64 h.dis, .int .u32 h.rid, .int .u64 h.t0, .int .u64 h.t1, .int .u64 h.t2, .int .u64 h.t3, .slice ea en ec, .int .i64 key, .bool false, .slice ma mn mc]) := K1.out.below hb2 (by omega)
    have B2 : Hid (Below w.heap.size w w2) := B1.out.trans (hb2.mono (by omega))
    have sz2 : w.heap.size + 1 ≤ w2.heap.size := Nat.le_trans sz1 hb2.size
    have O2 : Hid (Own w2 (w.heap.size + 1) v2 (MS ++ be 4 key)) := ho2
    clear hb2 ho2 c0 c1 c2 c3 c4 c5 c6 c7 c8 c9 c10 c11 c12 c13 c14 c15 c16 K1 O1 B1
    obtain ⟨c0, c1, c2, c3, c4, c5, c6, c7, c8, c9, c10, c11, c12, c13, c14, c15, c16⟩ := K2.out.ck.c17
    go_wp2_with (at_builtin; refine wpList_app8 (by rfl) _ _ 27 (by rfl) Try.underlying27 (w.heap.size + 1) w.heap.size _ _ (MS ++ be 4 key) mac (by rfl) (by rfl) O2.out (HM.out.below B2.out (Nat.le_refl _)) (by have := HM2.out; simp [be_len]; omega) sz2 ?_)
    intro v3 w3 ho hg hat
    have H3 : Hid (Own w3 w.heap.size v3 (MS ++ dg key mac ++ nkL false) ∧ Below w.heap.size w w3) := ⟨by rw [← HRES.out]; exact (by simpa [List.append_assoc] using ho : Own w3 (w.heap.size + 1) v3 (MS ++ be 4 key ++ mac)).mono (Nat.le_succ _), B2.out.grown hg (Nat.le_of_succ_le sz2) (fun q e => Nat.le_trans (Nat.le_succ _) (O2.out.lt q e).1)⟩
    clear ho hg hat
    go_wp2_with fail
    go_ret2
    exact ⟨v3, rfl, H3.out.2, H3.out.1⟩
set_option maxHeartbeats 2000000 in
theorem rencode_err (h : Hd) (ev : Value) (xs : List Xt) (key : Int) (nak : Bool) (ma : Option Addr) (mn mc : Nat) (w : World) (he : Es w.heap.size w ev xs) (hl : xs.length ≤ 65536) (hx : ∀ x ∈ xs, x.dat.length ≤ 65536) (hmn : (mn : Int) ≤ 65536) (hC : ckE h xs key nak mn ≠ 0) :
    Calls Try.prog 10 #[pkV h ev key nak (.slice ma mn mc)] w fun e' w' => e' = .returned (.tuple #[.slice none 0 0, .int .i64 (ckE h xs key nak mn)]) ∧ Below w.heap.size w w' := by
  have H : Hid (Es w.heap.size w ev xs) := he
  obtain ⟨E, hE⟩ : ∃ E, E = ckE h xs key nak mn := ⟨_, rfl⟩
  obtain ⟨ea, ec, rfl, -⟩ := he
  obtain ⟨en, hen⟩ : ∃ L, L = xs.length := ⟨_, rfl⟩
  have HMs : Hid (∀ v, Below w.heap.size w v → w.heap.size ≤ v.heap.size → Calls Try.prog 11 #[pkV h (.slice ea en ec) key nak (.slice ma mn mc)] v fun e' w' => e' = .returned (.tuple #[.slice none 0 0, .int .i64 E]) ∧ Below v.heap.size v w') := fun v hb hs => by
    have := rmessage_err h _ xs key nak ma mn mc v ((H.out.below hb (Nat.le_refl _)).mono hs) hl hx hmn hC
    rw [← hE, ← hen] at this
    exact this
  rw [← hE] at hC ⊢
  rw [← hen]
  have hb0 : (E != 0) = true := by rw [bne_iff_ne]; exact hC
  clear H hE hen hl hx hmn hC
  unfold pkV
  go_enter Try.func10, Try.ntmps10
  go_wp2_with (refine step_pk (by rfl) _ (by rfl) _ (by rfl) _ (by rfl) (Pb.new w _) ?_)
  refine (HMs.out _ (by repeat' (first | with_reducible exact Below.refl _ _ | with_reducible refine Below.setCell ?_ (by first | (simp; done) | (simp; omega) | omega) _ | with_reducible refine below_drewN ?_ _ | with_reducible refine Below.drew ?_ | with_reducible refine Below.alloc ?_ (by first | (simp; done) | (simp; omega) | omega) _)) (by simp)).mono ?_
  rintro e' w1 ⟨rfl, hb⟩
  have B1 : Hid (Below w.heap.size w w1) := Below.trans (by repeat' (first | with_reducible exact Below.refl _ _ | with_reducible refine Below.setCell ?_ (by first | (simp; done) | (simp; omega) | omega) _ | with_reducible refine below_drewN ?_ _ | with_reducible refine Below.drew ?_ | with_reducible refine Below.alloc ?_ (by first | (simp; done) | (simp; omega) | omega) _)) (hb.mono (by simp))
  clear hb HMs
  go_wp2_with fail
  go_ret2
  exact ⟨rfl, B1.out⟩
end Go.Proofs.Ytdobghhjlfffpaa
