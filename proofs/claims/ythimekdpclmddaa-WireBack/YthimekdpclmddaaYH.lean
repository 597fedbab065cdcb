/- The law WireBack. -/
import Derived.Test.YthimekdpclmddaaYG
import Derived.Test.YthimekdpclmddaaXK
import Derived.Test.YthimekdpclmddaaXM
import Derived.Test.YthimekdpclmddaaWP
namespace Go.Proofs.Ythimekdpclmddaa
open Go.RowKit
theorem dcE_mod {bs : List Int} (ho : okb bs) (hE : dcE bs = 0) : (bs.length : Int) % 4 = 0 :=
  (dc_fwd (h := hdD bs) (xs := (dL 4 (bs.drop 48)).2.1.map (fun p => (⟨p.1, .slice none 0 0, p.2⟩ : Xt))) ho hE ⟨rfl, by unfold prs; rw [List.map_map]; exact List.map_id _, rfl, rfl, rfl⟩).2.2.2.2.1
theorem OX.slice {w : World} {B : Nat} {v : Value} {xs : List Xt} (h : OX w B v xs) : ∃ a n c, v = .slice a n c := by
  rcases h.row.2 with ⟨h1, _⟩ | ⟨g, cap, cur, h1, _⟩
  · exact ⟨_, _, _, h1⟩
  · exact ⟨_, _, _, h1⟩
theorem Sv.one (v : World) (q : Nat) (x : Int) (hq : q = v.heap.size) (x0 : 0 ≤ x) (x1 : x < 256) : Sv (q + 1) (v.alloc (.cells #[.int .u8 x] 5)) (.slice (some ⟨q, 0, none⟩) 1 1) [x] := by
  refine ⟨_, _, rfl, Nat.le_refl _, fun e => (by cases e), fun k hk => ⟨_, rfl, Nat.lt_succ_self _, ?_⟩, fun b hb => ?_⟩
  · have hk0 : k = 0 := by simp at hk; omega
    subst hk0
    rw [add_own, hq]
    exact (World.cell?_alloc_new _ _ _ _).trans rfl
  · simp at hb; omega
set_option maxRecDepth 4000 in
set_option maxHeartbeats 8000000 in
theorem back_err (h : Hd) (ev : Value) (xs : List Xt) (key : Int) (nak : Bool) (ma : Option Addr) (mn mc : Nat) (x : Int) (w : World) (he : Es w.heap.size w ev xs) (hl : (xs.length : Int) ≤ 140737488355328) (hx : ∀ x ∈ xs, (x.dat.length : Int) ≤ 9223372036854775807) (hmn : (mn : Int) ≤ 9223372036854775807) (hC : ckE h xs key nak mn ≠ 0) :
    Calls Try.prog 6 #[pkV h ev key nak (.slice ma mn mc), .int .u8 x] w fun e' w' => e' = .returned (.bool true) ∧ Below w.heap.size w w' := by
  have H : Hid (Es w.heap.size w ev xs) := he
  obtain ⟨E, hE⟩ : ∃ E, E = ckE h xs key nak mn := ⟨_, rfl⟩
  obtain ⟨ea, ec, hev, -⟩ := he
  obtain ⟨en, hen⟩ : ∃ L, L = xs.length := ⟨_, rfl⟩
  rw [← hen] at hev
  obtain ⟨CS, hCS⟩ : ∃ C : Array Value, C = #[.int .i64 h.leap, .int .i64 h.ver, .int .i64 h.mode, .int .i64 h.str, .int .i64 h.poll, .int .i64 h.prec, .int .i64 h.del, .int .i64 h.dis, .int .u32 h.rid, .int .u64 h.t0, .int .u64 h.t1, .int .u64 h.t2, .int .u64 h.t3, .slice ea en ec, .int .i64 key, .bool nak, .slice ma mn mc] := ⟨_, rfl⟩
  have hP : pkV h ev key nak (.slice ma mn mc) = .agg CS := by rw [hCS, hev]; rfl
  have hS : CS.size = 17 := by rw [hCS]; rfl
  have HHv : Hid (∀ v, Below w.heap.size w v → Calls Try.prog 9 #[.agg CS] v fun e' w' => ∃ r, e' = .returned r ∧ (r = .bool true ∨ (r = .bool false ∧ hvP xs mn)) ∧ Below v.heap.size v w') := fun v hb => by
    have := heavy_any w.heap.size h _ xs key nak ma mn mc v (H.out.below hb (Nat.le_refl _)) hb.size hl hx hmn
    rw [hP] at this
    exact this
  have HEn : Hid (hvP xs mn → ∀ v, Below w.heap.size w v → w.heap.size ≤ v.heap.size → Calls Try.prog 10 #[.agg CS] v fun e' w' => e' = .returned (.tuple #[.slice none 0 0, .int .i64 E]) ∧ Below v.heap.size v w') := fun hv v hb hs => by
    have := encode_err h _ xs key nak ma mn mc v ((H.out.below hb (Nat.le_refl _)).mono hs) hv.1 hv.2.2 (by have := hv.2.1; omega) hC
    rw [← hE, hP] at this
    exact this
  have HRc : Hid (hvP xs mn → ∀ v, Below w.heap.size w v → Calls Try.prog 12 #[.agg CS] v fun e' w' => e' = .returned (.int .i64 E) ∧ Below v.heap.size v w') := fun hv v hb => by
    have := rcheck_any w.heap.size h _ xs key nak ma mn mc v (H.out.below hb (Nat.le_refl _)) hb.size hv.1 hv.2.2 (by have := hv.2.1; omega)
    rw [← hE, hP] at this
    exact this
  rw [← hE] at hC
  have hb0 : (E != 0) = true := by rw [bne_iff_ne]; exact hC
  rw [hev]
  have HCS : Hid (CS = #[.int .i64 h.leap, .int .i64 h.ver, .int .i64 h.mode, .int .i64 h.str, .int .i64 h.poll, .int .i64 h.prec, .int .i64 h.del, .int .i64 h.dis, .int .u32 h.rid, .int .u64 h.t0, .int .u64 h.t1, .int .u64 h.t2, .int .u64 h.t3, .slice ea en ec, .int .i64 key, .bool nak, .slice ma mn mc]) := hCS
  clear hE hen hx hl hmn hC H hP hev hCS
  unfold pkV
  go_enter Try.func6, Try.ntmps6
  go_wp2_with (refine step_pk (by rfl) _ (by rfl) _ (by rfl) _ (by first | rfl | exact hS) (Pb.new w _) ?_)
  rw [← HCS.out]
  refine (HHv.out _ (by repeat' (first | with_reducible exact Below.refl _ _ | with_reducible refine Below.setCell ?_ (by first | (simp; done) | (simp; omega) | omega) _ | with_reducible refine below_drewN ?_ _ | with_reducible refine Below.drew ?_ | with_reducible refine Below.alloc ?_ (by first | (simp; done) | (simp; omega) | omega) _))).mono ?_
  rintro e' w1 ⟨rv, rfl, hr, hb⟩
  have K1 : Hid (Pb w.heap.size w1 CS) := (Pb.new w _).below hb (by simp)
  have B1 : Hid (Below w.heap.size w w1) := Below.trans (by repeat' (first | with_reducible exact Below.refl _ _ | with_reducible refine Below.setCell ?_ (by first | (simp; done) | (simp; omega) | omega) _ | with_reducible refine below_drewN ?_ _ | with_reducible refine Below.drew ?_ | with_reducible refine Below.alloc ?_ (by first | (simp; done) | (simp; omega) | omega) _)) (hb.mono (by simp))
  clear hb
  rcases hr with rfl | ⟨rfl, hv⟩
  · go_wp2_with fail
    go_ret
    exact ⟨rfl, B1.out⟩
  have HV : Hid (hvP xs mn) := hv
  clear hv
  go_wp2_with (refine step_pk (by rfl) _ (by rfl) _ (by rfl) _ (by first | rfl | exact hS) (K1.out) ?_)
  refine (HEn.out HV.out _ B1.out B1.out.size).mono ?_
  rintro e' w2 ⟨rfl, hb⟩
  have K2 : Hid (Pb w.heap.size w2 CS) := K1.out.below hb K1.out.lt
  have B2 : Hid (Below w.heap.size w w2) := B1.out.trans (hb.mono (Nat.le_of_lt K1.out.lt))
  clear hb K1 B1
  go_wp2_with (refine step_pk (by rfl) _ (by rfl) _ (by rfl) _ (by first | rfl | exact hS) (K2.out) ?_)
  refine (HRc.out HV.out _ B2.out).mono ?_
  rintro e' w3 ⟨rfl, hb⟩
  have K3 : Hid (Pb w.heap.size w3 CS) := K2.out.below hb K2.out.lt
  have B3 : Hid (Below w.heap.size w w3) := B2.out.trans (hb.mono (Nat.le_of_lt K2.out.lt))
  clear hb K2 B2
  go_wp2_with fail
  go_ret
  exact ⟨rfl, B3.out⟩
set_option maxRecDepth 4000 in
set_option maxHeartbeats 8000000 in
theorem back_ok (h : Hd) (ev mv : Value) (xs : List Xt) (key : Int) (nak : Bool) (mac : List Int) (x : Int) (w : World) (he : Es w.heap.size w ev xs) (hm : Sv w.heap.size w mv mac) (hl : (xs.length : Int) ≤ 140737488355328) (hx : ∀ x ∈ xs, (x.dat.length : Int) ≤ 9223372036854775807) (hmn : (mac.length : Int) ≤ 9223372036854775807) (r0 : 0 ≤ h.rid) (r1 : h.rid < 4294967296) (t0 : 0 ≤ h.t3) (t1 : h.t3 < 18446744073709551616) (x0 : 0 ≤ x) (x1 : x < 256) (hC : ckE h xs key nak mac.length = 0) :
    Calls Try.prog 6 #[pkV h ev key nak mv, .int .u8 x] w fun e' w' => e' = .returned (.bool true) ∧ Below w.heap.size w w' := by
  have H : Hid (Es w.heap.size w ev xs) := he
  have HM : Hid (Sv w.heap.size w mv mac) := hm
  obtain ⟨bb, hbb⟩ : ∃ b, b = enB h xs key nak mac := ⟨_, rfl⟩
  obtain ⟨z1, z2, z3⟩ := dc_back hC t0 t1
  have hok : okb bb := by rw [hbb]; exact enB_ok h key nak he.dat (by obtain ⟨_, _, _, _, _, _, q⟩ := hm; exact q)
  rw [← hbb] at z1 z2 z3
  have HZ : Hid (dcE bb = 0 ∧ (bb.length : Int) ≤ 512 ∧ okb bb ∧ (bb.length : Int) % 4 = 0 ∧ 48 ≤ bb.length ∧ ∀ h' xs' key' nak' mac', dcV bb h' xs' key' nak' mac' → h'.t3 = h.t3 ∧ h'.mode = h.mode ∧ key' = key ∧ xs'.length = xs.length) := by
    have hfw := fun hh xx kk nn mm hv => dc_fwd (h := hh) (xs := xx) (key := kk) (nak := nn) (mac := mm) hok z1 hv
    have hw := hfw (hdD bb) ((dL 4 (bb.drop 48)).2.1.map (fun p => (⟨p.1, .slice none 0 0, p.2⟩ : Xt))) _ _ _ ⟨rfl, by unfold prs; rw [List.map_map]; exact List.map_id _, rfl, rfl, rfl⟩
    exact ⟨z1, z2, hok, hw.2.2.2.2.1, hw.2.2.2.2.2.2.1, z3⟩
  obtain ⟨ea, ec, hev, -⟩ := he
  obtain ⟨ma, mc, hmv, -⟩ := hm
  obtain ⟨en, hen⟩ : ∃ L, L = xs.length := ⟨_, rfl⟩
  obtain ⟨mn, hmn'⟩ : ∃ L, L = mac.length := ⟨_, rfl⟩
  rw [← hen] at hev
  have HHv : Hid (∀ v, Below w.heap.size w v → Calls Try.prog 9 #[pkV h ev key nak mv] v fun e' w' => ∃ r, e' = .returned r ∧ (r = .bool true ∨ (r = .bool false ∧ hvP xs mac.length)) ∧ Below v.heap.size v w') := fun v hb => by
    rw [hmv]
    exact heavy_any w.heap.size h _ xs key nak ma mac.length mc v (H.out.below hb (Nat.le_refl _)) hb.size hl hx hmn
  have HEn : Hid (hvP xs mac.length → ∀ v, Below w.heap.size w v → w.heap.size ≤ v.heap.size → Calls Try.prog 10 #[pkV h ev key nak mv] v fun e' w' => ∃ b, e' = .returned (.tuple #[b, .int .i64 0]) ∧ Below v.heap.size v w' ∧ Own w' v.heap.size b bb) := fun hv v hb hs => by
    rw [hbb]
    exact encode_ok h _ _ xs key nak mac v ((H.out.below hb (Nat.le_refl _)).mono hs) ((HM.out.below hb (Nat.le_refl _)).mono hs) hv.1 hv.2.2 hv.2.1 r0 r1 hC
  have HRc : Hid (hvP xs mac.length → ∀ v, Below w.heap.size w v → Calls Try.prog 12 #[pkV h ev key nak mv] v fun e' w' => e' = .returned (.int .i64 0) ∧ Below v.heap.size v w') := fun hv v hb => by
    have := rcheck_any w.heap.size h _ xs key nak ma mac.length mc v (H.out.below hb (Nat.le_refl _)) hb.size hv.1 hv.2.2 (by have := hv.2.1; omega)
    rw [hC, ← hmv] at this
    exact this
  obtain ⟨CS, hCS⟩ : ∃ C : Array Value, C = #[.int .i64 h.leap, .int .i64 h.ver, .int .i64 h.mode, .int .i64 h.str, .int .i64 h.poll, .int .i64 h.prec, .int .i64 h.del, .int .i64 h.dis, .int .u32 h.rid, .int .u64 h.t0, .int .u64 h.t1, .int .u64 h.t2, .int .u64 h.t3, .slice ea en ec, .int .i64 key, .bool nak, .slice ma mn mc] := ⟨_, rfl⟩
  rw [← hmn'] at hmv
  have hP : pkV h ev key nak mv = .agg CS := by rw [hCS, hev, hmv]; rfl
  have hS : CS.size = 17 := by rw [hCS]; rfl
  rw [hP] at HHv HEn HRc
  rw [hev, hmv]
  have HCS : Hid (CS = #[.int .i64 h.leap, .int .i64 h.ver, .int .i64 h.mode, .int .i64 h.str, .int .i64 h.poll, .int .i64 h.prec, .int .i64 h.del, .int .i64 h.dis, .int .u32 h.rid, .int .u64 h.t0, .int .u64 h.t1, .int .u64 h.t2, .int .u64 h.t3, .slice ea en ec, .int .i64 key, .bool nak, .slice ma mn mc]) := hCS
  have HEN : Hid (en = xs.length) := hen
  clear hen hmn' hx hl hmn hC H HM hP hev hmv hCS r0 r1 t0 t1 z1 z2 z3 hok hbb
  unfold pkV
  go_enter Try.func6, Try.ntmps6
  go_wp2_with (refine step_pk (by rfl) _ (by rfl) _ (by rfl) _ (by first | rfl | exact hS) (Pb.new w _) ?_)
  rw [← HCS.out]
  refine (HHv.out _ (by repeat' (first | with_reducible exact Below.refl _ _ | with_reducible refine Below.setCell ?_ (by first | (simp; done) | (simp; omega) | omega) _ | with_reducible refine below_drewN ?_ _ | with_reducible refine Below.drew ?_ | with_reducible refine Below.alloc ?_ (by first | (simp; done) | (simp; omega) | omega) _))).mono ?_
  rintro e' w1 ⟨rv, rfl, hr, hb⟩
  have K1 : Hid (Pb w.heap.size w1 CS) := (Pb.new w _).below hb (by simp)
  have B1 : Hid (Below w.heap.size w w1) := Below.trans (by repeat' (first | with_reducible exact Below.refl _ _ | with_reducible refine Below.setCell ?_ (by first | (simp; done) | (simp; omega) | omega) _ | with_reducible refine below_drewN ?_ _ | with_reducible refine Below.drew ?_ | with_reducible refine Below.alloc ?_ (by first | (simp; done) | (simp; omega) | omega) _)) (hb.mono (by simp))
  clear hb
  rcases hr with rfl | ⟨rfl, hv⟩
  · go_wp2_with fail
    go_ret
    exact ⟨rfl, B1.out⟩
  have HV : Hid (hvP xs mac.length) := hv
  clear hv HHv
  go_wp2_with (refine step_pk (by rfl) _ (by rfl) _ (by rfl) _ (by first | rfl | exact hS) (K1.out) ?_)
  refine (HEn.out HV.out _ B1.out B1.out.size).mono ?_
  rintro e' w2 ⟨bv, rfl, hb, ho⟩
  have K2 : Hid (Pb w.heap.size w2 CS) := K1.out.below hb K1.out.lt
  have B2 : Hid (Below w.heap.size w w2) := B1.out.trans (hb.mono (Nat.le_of_lt K1.out.lt))
  have O2 : Hid (Own w2 (w.heap.size + 1) bv bb) := ho.mono K1.out.lt
  clear hb ho K1 B1 HEn
  go_wp2_with (refine step_pk (by rfl) _ (by rfl) _ (by rfl) _ (by first | rfl | exact hS) (K2.out) ?_)
  refine (HRc.out HV.out _ B2.out).mono ?_
  rintro e' w3 ⟨rfl, hb⟩
  have K3 : Hid (Pb w.heap.size w3 CS) := K2.out.below hb K2.out.lt
  have B3 : Hid (Below w.heap.size w w3) := B2.out.trans (hb.mono (Nat.le_of_lt K2.out.lt))
  have O3 : Hid (Own w3 (w.heap.size + 1) bv bb) := O2.out.below hb (Nat.le_refl _)
  clear hb K2 B2 O2 HRc HV
  have S3 : Hid (Sv w3.heap.size w3 bv bb) := O3.out.sv HZ.out.2.2.1
  go_wp2_with fail
  refine (decode_any bv bb _ (by have := HZ.out.2.1; omega) S3.out).mono ?_
  rintro e' w4 ⟨h2, ev2, xs2, key2, nak2, mv2, mac2, rfl, hb, hox, hom, hdv, -⟩
  rw [HZ.out.1]
  have hdv' := hdv HZ.out.1
  have F4 := dc_fwd HZ.out.2.2.1 HZ.out.1 hdv'
  have V4 := HZ.out.2.2.2.2.2 _ _ _ _ _ hdv'
  have HF4 : Hid (ckE h2 xs2 key2 nak2 mac2.length = 0 ∧ enB h2 xs2 key2 nak2 mac2 = bb ∧ (0 ≤ h2.rid ∧ h2.rid < 4294967296) ∧ xs2.length ≤ 65536 ∧ (∀ x ∈ xs2, x.dat.length ≤ 65536) ∧ mac2.length ≤ 65536) := ⟨F4.1, F4.2.1, ⟨F4.2.2.1, F4.2.2.2.1⟩, by have := F4.2.2.2.2.2.2.2.2.2.1; omega, fun y hy => by have := (F4.2.2.2.2.2.2.2.1 y hy).2; omega, by have := F4.2.2.2.2.2.2.2.2.2.2; omega⟩
  have K4 : Hid (Pb w.heap.size w4 CS) := K3.out.below hb K3.out.lt
  have B4 : Hid (Below w.heap.size w w4) := B3.out.trans (hb.mono (Nat.le_of_lt K3.out.lt))
  have O4 : Hid (Own w4 (w.heap.size + 1) bv bb) := O3.out.below hb (Nat.le_refl _)
  have X4 : Hid (Es w4.heap.size w4 ev2 xs2) := hox.es (fun y hy => (F4.2.2.2.2.2.2.2.1 y hy).1)
  have M4 : Hid (Sv w4.heap.size w4 mv2 mac2) := hom.sv F4.2.2.2.2.2.2.2.2.1
  obtain ⟨m2, l2, hmv2, -⟩ := hom.rs
  obtain ⟨e2, c2, hev2, -⟩ := X4.out
  obtain ⟨n2, hn2⟩ : ∃ L, L = xs2.length := ⟨_, rfl⟩
  obtain ⟨k2, hk2⟩ : ∃ L, L = mac2.length := ⟨_, rfl⟩
  rw [← hn2] at hev2
  rw [← hk2] at hmv2
  have HQ : Hid (h2.t3 = h.t3 ∧ h2.mode = h.mode ∧ key2 = key ∧ n2 = en) := ⟨V4.1, V4.2.1, V4.2.2.1, by rw [hn2, HEN.out]; exact V4.2.2.2⟩
  have HEn2 : Hid (∀ v, Below w4.heap.size w4 v → w4.heap.size ≤ v.heap.size → Calls Try.prog 10 #[pkV h2 ev2 key2 nak2 mv2] v fun e' w' => ∃ b, e' = .returned (.tuple #[b, .int .i64 0]) ∧ Below v.heap.size v w' ∧ Own w' v.heap.size b bb) := fun v hb hs => by
    rw [← HF4.out.2.1]
    exact encode_ok h2 _ _ xs2 key2 nak2 mac2 v ((X4.out.below hb (Nat.le_refl _)).mono hs) ((M4.out.below hb (Nat.le_refl _)).mono hs) HF4.out.2.2.2.1 HF4.out.2.2.2.2.1 HF4.out.2.2.2.2.2 HF4.out.2.2.1.1 HF4.out.2.2.1.2 HF4.out.1
  obtain ⟨C2, hC2⟩ : ∃ C : Array Value, C = #[.int .i64 h2.leap, .int .i64 h2.ver, .int .i64 h2.mode, .int .i64 h2.str, .int .i64 h2.poll, .int .i64 h2.prec, .int .i64 h2.del, .int .i64 h2.dis, .int .u32 h2.rid, .int .u64 h2.t0, .int .u64 h2.t1, .int .u64 h2.t2, .int .u64 h2.t3, .slice e2 n2 c2, .int .i64 key2, .bool nak2, .slice m2 k2 l2] := ⟨_, rfl⟩
  have hP2 : pkV h2 ev2 key2 nak2 mv2 = .agg C2 := by rw [hC2, hev2, hmv2]; rfl
  rw [hP2] at HEn2
  rw [hev2, hmv2]
  have HC2 : Hid (C2 = #[.int .i64 h2.leap, .int .i64 h2.ver, .int .i64 h2.mode, .int .i64 h2.str, .int .i64 h2.poll, .int .i64 h2.prec, .int .i64 h2.del, .int .i64 h2.dis, .int .u32 h2.rid, .int .u64 h2.t0, .int .u64 h2.t1, .int .u64 h2.t2, .int .u64 h2.t3, .slice e2 n2 c2, .int .i64 key2, .bool nak2, .slice m2 k2 l2]) := hC2
  clear hb hox hom hdv hdv' F4 V4 hn2 hk2 hev2 hmv2 hP2 hC2 K3 B3 O3 S3 X4 M4 HF4
  unfold pkV
  go_wp2_with (refine step_pk (by rfl) _ (by rfl) _ (by rfl) _ (by rfl) (Pb.new w4 _) ?_)
  rw [← HC2.out]
  refine (HEn2.out _ ((Below.refl w4.heap.size w4).alloc (Nat.le_refl _) _) (by simp)).mono ?_
  rintro e' w5 ⟨cv, rfl, hb, ho⟩
  have sz4 : w.heap.size < w4.heap.size := K4.out.lt
  have hb45 : Below w4.heap.size w4 w5 := Below.trans ((Below.refl w4.heap.size w4).alloc (Nat.le_refl _) _) (hb.mono (by simp))
  have K5 : Hid (Pb w.heap.size w5 CS) := K4.out.below hb45 sz4
  have Q5 : Hid (Pb w4.heap.size w5 C2) := (Pb.new w4 _).below hb (by simp)
  have B5 : Hid (Below w.heap.size w w5) := B4.out.trans (hb45.mono (Nat.le_of_lt sz4))
  have SB5 : Hid (Sv w5.heap.size w5 bv bb) := (O4.out.below hb45 (Nat.le_refl _)).sv HZ.out.2.2.1
  have OC5 : Hid (Own w5 (w.heap.size + 1) cv bb) := ho.mono (by simp; omega)
  have SC5 : Hid (Sv w5.heap.size w5 cv bb) := OC5.out.sv HZ.out.2.2.1
  obtain ⟨p2, hp2⟩ : ∃ p, p = w4.heap.size := ⟨_, rfl⟩
  rw [← hp2] at Q5 ⊢
  have a12 : w5.cell? ⟨w.heap.size, 12, none⟩ = some (.int .u64 h.t3) := (K5.out.ck.at_ 12).trans (by rw [HCS.out]; rfl)
  have a2 : w5.cell? ⟨w.heap.size, 2, none⟩ = some (.int .i64 h.mode) := (K5.out.ck.at_ 2).trans (by rw [HCS.out]; rfl)
  have a14 : w5.cell? ⟨w.heap.size, 14, none⟩ = some (.int .i64 key) := (K5.out.ck.at_ 14).trans (by rw [HCS.out]; rfl)
  have a13 : w5.cell? ⟨w.heap.size, 13, none⟩ = some (.slice ea en ec) := (K5.out.ck.at_ 13).trans (by rw [HCS.out]; rfl)
  have b12 : w5.cell? ⟨p2, 12, none⟩ = some (.int .u64 h.t3) := (Q5.out.ck.at_ 12).trans (by rw [HC2.out, ← HQ.out.1]; rfl)
  have b2 : w5.cell? ⟨p2, 2, none⟩ = some (.int .i64 h.mode) := (Q5.out.ck.at_ 2).trans (by rw [HC2.out, ← HQ.out.2.1]; rfl)
  have b14 : w5.cell? ⟨p2, 14, none⟩ = some (.int .i64 key) := (Q5.out.ck.at_ 14).trans (by rw [HC2.out, ← HQ.out.2.2.1]; rfl)
  have b13 : w5.cell? ⟨p2, 13, none⟩ = some (.slice e2 en c2) := (Q5.out.ck.at_ 13).trans (by rw [HC2.out, ← HQ.out.2.2.2]; rfl)
  have sz5 : p2 < w5.heap.size := Q5.out.lt
  have szp : w.heap.size < p2 := by rw [hp2]; exact sz4
  clear hb ho hb45 hp2 K4 B4 O4 Q5 K5 HC2 HQ HCS HEn2
  obtain ⟨bl, hbl⟩ : ∃ n, n = bb.length := ⟨_, rfl⟩
  obtain ⟨BI, hBI⟩ : ∃ x : Int, (bl : Int) = x := ⟨_, rfl⟩
  have HBL : Hid (bl = bb.length ∧ (bl : Int) = BI ∧ 48 ≤ bb.length ∧ (bb.length : Int) % 4 = 0 ∧ (bb.length : Int) ≤ 512) := ⟨hbl, hBI, HZ.out.2.2.2.2.1, HZ.out.2.2.2.1, HZ.out.2.1⟩
  have hB0 : 48 ≤ BI := by have := HBL.out; omega
  have hB1 : BI ≤ 512 := by have := HBL.out; omega
  obtain ⟨v6, hs6, hv6⟩ := sub_take SB5.out (bl - 1) (BI - 1) (by have := HBL.out; omega) (by have := HBL.out; omega)
  have S6 : Hid (Sv w5.heap.size w5 v6 (bb.take (bl - 1))) := hv6
  obtain ⟨ba, bc, hbv, -⟩ := SB5.out
  obtain ⟨ca, cc, hcv, -⟩ := SC5.out
  rw [← hbl] at hbv hcv
  subst hbv
  subst hcv
  have HBy : Hid (∀ v : World, v = w5 → Calls Try.prog 18 #[.slice ba bl bc, .slice ca bl cc] v fun e w' => e = .returned (.bool true) ∧ w' = v) := fun v hv => by subst hv; exact lbytes_eq _ _ _ _ bb _ SB5.out SC5.out
  clear hbl hv6
  go_wp2_with (go_at_call 18; refine (HBy.out _ rfl).mono ?_; rintro e' w' ⟨rfl, hw⟩; rw [hw]; clear hw)
  refine (decode_any v6 (bb.take (bl - 1)) _ (by rw [List.length_take]; have := HBL.out; omega) S6.out).mono ?_
  rintro e' w6 ⟨h3, ev3, xs3, key3, nak3, mv3, mac3, rfl, hb, hox, hom, -, -⟩
  obtain ⟨E6, hE6⟩ : ∃ E, E = dcE (bb.take (bl - 1)) := ⟨_, rfl⟩
  rw [← hE6]
  have hne6 : (E6 != 0) = true := by
    rw [bne_iff_ne, hE6]
    intro x
    have := dcE_mod (okb_take HZ.out.2.2.1 _) x
    rw [List.length_take] at this
    have := HBL.out
    omega
  obtain ⟨e3, n3, c3, rfl⟩ := hox.slice
  obtain ⟨m3, l3, hmv3, -⟩ := hom.rs
  subst hmv3
  obtain ⟨k3, hk3⟩ : ∃ L, L = mac3.length := ⟨_, rfl⟩
  rw [← hk3]
  have B6 : Hid (Below w.heap.size w w6) := B5.out.trans (hb.mono (by omega))
  have OC6 : Hid (Own w6 (w.heap.size + 1) (.slice ca bl cc) bb) := OC5.out.below hb (Nat.le_refl _)
  have sz6 : p2 < w6.heap.size := by have := hb.size; omega
  have OC7 : Hid (Own ((w6.alloc (.cells #[.int .i64 h3.leap, .int .i64 h3.ver, .int .i64 h3.mode, .int .i64 h3.str, .int .i64 h3.poll, .int .i64 h3.prec, .int .i64 h3.del, .int .i64 h3.dis, .int .u32 h3.rid, .int .u64 h3.t0, .int .u64 h3.t1, .int .u64 h3.t2, .int .u64 h3.t3, .slice e3 n3 c3, .int .i64 key3, .bool nak3, .slice m3 k3 l3] 29)).alloc (.cells #[.int .u8 x] 5)) (w.heap.size + 1) (.slice ca bl cc) bb) := World.ownsRow.alloc (World.ownsRow.alloc OC6.out _) _
  have S7 : Hid (Sv (w6.heap.size + 1 + 1) ((w6.alloc (.cells #[.int .i64 h3.leap, .int .i64 h3.ver, .int .i64 h3.mode, .int .i64 h3.str, .int .i64 h3.poll, .int .i64 h3.prec, .int .i64 h3.del, .int .i64 h3.dis, .int .u32 h3.rid, .int .u64 h3.t0, .int .u64 h3.t1, .int .u64 h3.t2, .int .u64 h3.t3, .slice e3 n3 c3, .int .i64 key3, .bool nak3, .slice m3 k3 l3] 29)).alloc (.cells #[.int .u8 x] 5)) (.slice (some ⟨w6.heap.size + 1, 0, none⟩) 1 1) [x]) := Sv.one _ _ x (by simp) x0 x1
  have B7 : Hid (Below w.heap.size w ((w6.alloc (.cells #[.int .i64 h3.leap, .int .i64 h3.ver, .int .i64 h3.mode, .int .i64 h3.str, .int .i64 h3.poll, .int .i64 h3.prec, .int .i64 h3.del, .int .i64 h3.dis, .int .u32 h3.rid, .int .u64 h3.t0, .int .u64 h3.t1, .int .u64 h3.t2, .int .u64 h3.t3, .slice e3 n3 c3, .int .i64 key3, .bool nak3, .slice m3 k3 l3] 29)).alloc (.cells #[.int .u8 x] 5))) := (B6.out.alloc (by omega) _).alloc (by simp; omega) _
  clear hb hox hom hE6 hk3 B5 OC5 SB5 SC5 S6 hs6 HBy a12 a2 a14 a13 b12 b2 b14 b13
  unfold pkV
  go_wp2_with (at_builtin; refine wpList_app8 (by rfl) _ _ 27 (by rfl) Try.underlying27 (w.heap.size + 1) (w6.heap.size + 1 + 1) (.slice ca bl cc) (.slice (some ⟨w6.heap.size + 1, 0, none⟩) 1 1) bb [x] (by rfl) (by rfl) ?_ ?_ ?_ ?_ ?_; exact OC7.out; exact S7.out; (have := HBL.out; simp; omega); (simp; omega))
  intro v8 w8 ho8 hg8 hat8
  have S8 : Hid (Sv w8.heap.size w8 v8 (bb ++ [x])) := ho8.sv (okb_app HZ.out.2.2.1 (fun b hb => by simp at hb; omega))
  have B8 : Hid (Below w.heap.size w w8) := B7.out.grown hg8 (by simp; omega) (fun k e => Nat.le_of_succ_le (OC6.out.lt k e).1)
  clear ho8 hg8 hat8 OC7 S7 B7 OC6
  go_wp2_with fail
  refine (decode_any v8 (bb ++ [x]) _ (by rw [List.length_append]; have := HBL.out; simp; omega) S8.out).mono ?_
  rintro e' w9 ⟨h4, ev4, xs4, key4, nak4, mv4, mac4, rfl, hb, hox, hom, -, -⟩
  obtain ⟨E9, hE9⟩ : ∃ E, E = dcE (bb ++ [x]) := ⟨_, rfl⟩
  rw [← hE9]
  have hne9 : (E9 != 0) = true := by
    rw [bne_iff_ne, hE9]
    intro y
    have := dcE_mod (okb_app HZ.out.2.2.1 (fun b hb => by simp at hb; omega)) y
    rw [List.length_append, List.length_singleton] at this
    have := HBL.out
    omega
  obtain ⟨e4, n4, c4, rfl⟩ := hox.slice
  obtain ⟨m4, l4, hmv4, -⟩ := hom.rs
  subst hmv4
  obtain ⟨k4, hk4⟩ : ∃ L, L = mac4.length := ⟨_, rfl⟩
  rw [← hk4]
  have B9 : Hid (Below w.heap.size w w9) := B8.out.trans (hb.mono (by have := B8.out.size; omega))
  have sz9 : w.heap.size ≤ w9.heap.size := B9.out.size
  clear hb hox hom hE9 hk4 B8 S8
  unfold pkV
  go_wp2_with fail
  go_ret
  exact ⟨rfl, (by repeat' (first | with_reducible exact Below.refl _ _ | with_reducible exact B9.out | with_reducible refine Below.setCell ?_ (by first | (simp; done) | (simp; omega) | omega) _ | with_reducible refine below_drewN ?_ _ | with_reducible refine Below.drew ?_ | with_reducible refine Below.alloc ?_ (by first | (simp; done) | (simp; omega) | omega) _))⟩
theorem WireBack_row (h : Hd) (ev : Value) (key : Int) (nak : Bool) (mv : Value) (x : Int) (xs : List Xt) (mac : List Int) (w : World) (he : Es w.heap.size w ev xs) (hm : Sv w.heap.size w mv mac) (_l0 : xs.length ≤ maxLen) (l1 : ∀ x ∈ xs, x.dat.length ≤ maxLen) (l2 : mac.length ≤ maxLen) (r0 : 0 ≤ h.rid) (r1 : h.rid < 4294967296) (t0 : 0 ≤ h.t3) (t1 : h.t3 < 18446744073709551616) (hk : xs.length * 32 ≤ 140737488351232) (x0 : 0 ≤ x) (x1 : x < 256) :
    Calls Try.prog 6 #[pkV h ev key nak mv, .int .u8 x] w fun e' w' => e' = .returned (.bool true) ∧ Below w.heap.size w w' := by
  have hM : maxLen = 9223372036854775807 := by decide
  have a1 : (xs.length : Int) ≤ 140737488355328 := by omega
  have a2 : ∀ x ∈ xs, (x.dat.length : Int) ≤ 9223372036854775807 := fun x hx => by have := l1 x hx; omega
  have a3 : (mac.length : Int) ≤ 9223372036854775807 := by omega
  by_cases hC : ckE h xs key nak mac.length = 0
  · exact back_ok h ev mv xs key nak mac x w he hm a1 a2 a3 r0 r1 t0 t1 x0 x1 hC
  · obtain ⟨ma, mc, rfl, -⟩ := hm
    exact back_err h ev xs key nak ma _ mc x w he a1 a2 a3 hC
end Go.Proofs.Ythimekdpclmddaa
