/- The law WireParts: where the packet may not be. -/
import Derived.Test.YthimekdpclmddaaXH
import Derived.Test.YthimekdpclmddaaXI
import Derived.Test.YthimekdpclmddaaXJ
import Derived.Test.YthimekdpclmddaaXL
namespace Go.Proofs.Ythimekdpclmddaa
open Go.RowKit
set_option maxRecDepth 4000 in
set_option maxHeartbeats 8000000 in
theorem parts_err (h : Hd) (ev : Value) (xs : List Xt) (key : Int) (nak : Bool) (ma : Option Addr) (mn mc : Nat) (w : World) (he : Es w.heap.size w ev xs) (hl : (xs.length : Int) ≤ 140737488355328) (hx : ∀ x ∈ xs, (x.dat.length : Int) ≤ 9223372036854775807) (hmn : (mn : Int) ≤ 9223372036854775807) (hC : ckE h xs key nak mn ≠ 0 ∨ ¬ hvP xs mn) :
    Calls Try.prog 3 #[pkV h ev key nak (.slice ma mn mc)] w fun e' w' => e' = .returned (.bool true) ∧ Below w.heap.size w w' := by
  have H : Hid (Es w.heap.size w ev xs) := he
  obtain ⟨E, hE⟩ : ∃ E, E = ckE h xs key nak mn := ⟨_, rfl⟩
  obtain ⟨ea, ec, hev, -⟩ := he
  obtain ⟨en, hen⟩ : ∃ L, L = xs.length := ⟨_, rfl⟩
  rw [← hen] at hev
  obtain ⟨CS, hCS⟩ : ∃ C : Array Value, C = #[.int .i64 h.leap, .int .i64 h.ver, .int .i64 h.mode, .int .i64 h.str, .int .i64 h.poll, .int .i64 h.prec, .int .i64 h.del, .int .i64 h.dis, .int .u32 h.rid, .int .u64 h.t0, .int .u64 h.t1, .int .u64 h.t2, .int .u64 h.t3, .slice ea en ec, .int .i64 key, .bool nak, .slice ma mn mc] := ⟨_, rfl⟩
  have hP : pkV h ev key nak (.slice ma mn mc) = .agg CS := by rw [hCS, hev]; rfl
  have hS : CS.size = 17 := by rw [hCS]; rfl
  have HHv : Hid (∀ v, Below w.heap.size w v → Calls Try.prog 9 #[.agg CS] v fun e' w' => ∃ r, e' = .returned r ∧ (r = .bool true ∨ (r = .bool false ∧ hvP xs mn)) ∧ Below v.heap.size v w') := fun v hb => by
    have := heavy_any w.heap.size h _ xs key nak ma mn mc v (H.out.below hb (Nat.le_refl _)) hb.size hl hx hmn
    rw [hP] at this
    exact this
  have HEn : Hid (hvP xs mn → E ≠ 0 → ∀ v, Below w.heap.size w v → w.heap.size ≤ v.heap.size → Calls Try.prog 10 #[.agg CS] v fun e' w' => e' = .returned (.tuple #[.slice none 0 0, .int .i64 E]) ∧ Below v.heap.size v w') := fun hv hn v hb hs => by
    have := encode_err h _ xs key nak ma mn mc v ((H.out.below hb (Nat.le_refl _)).mono hs) hv.1 hv.2.2 (by have := hv.2.1; omega) (by rw [← hE]; exact hn)
    rw [← hE, hP] at this
    exact this
  have HMs : Hid (hvP xs mn → E ≠ 0 → ∀ v, Below w.heap.size w v → w.heap.size ≤ v.heap.size → Calls Try.prog 11 #[.agg CS] v fun e' w' => e' = .returned (.tuple #[.slice none 0 0, .int .i64 E]) ∧ Below v.heap.size v w') := fun hv hn v hb hs => by
    have := message_err h _ xs key nak ma mn mc v ((H.out.below hb (Nat.le_refl _)).mono hs) hv.1 hv.2.2 (by have := hv.2.1; omega) (by rw [← hE]; exact hn)
    rw [← hE, hP] at this
    exact this
  have HRc : Hid (hvP xs mn → ∀ v, Below w.heap.size w v → Calls Try.prog 12 #[.agg CS] v fun e' w' => e' = .returned (.int .i64 E) ∧ Below v.heap.size v w') := fun hv v hb => by
    have := rcheck_any w.heap.size h _ xs key nak ma mn mc v (H.out.below hb (Nat.le_refl _)) hb.size hv.1 hv.2.2 (by have := hv.2.1; omega)
    rw [← hE, hP] at this
    exact this
  rw [← hE] at hC
  rw [hev]
  have HC : Hid (E ≠ 0 ∨ ¬ hvP xs mn) := hC
  have HCS : Hid (CS = #[.int .i64 h.leap, .int .i64 h.ver, .int .i64 h.mode, .int .i64 h.str, .int .i64 h.poll, .int .i64 h.prec, .int .i64 h.del, .int .i64 h.dis, .int .u32 h.rid, .int .u64 h.t0, .int .u64 h.t1, .int .u64 h.t2, .int .u64 h.t3, .slice ea en ec, .int .i64 key, .bool nak, .slice ma mn mc]) := hCS
  clear hE hen hx hl hmn hC H hP hev hCS
  unfold pkV
  go_enter Try.func3, Try.ntmps3
  go_wp2_with (refine step_pk (by rfl) _ (by rfl) _ (by rfl) _ (by first | rfl | exact hS) (Pb.new w _) ?_)
  rw [← HCS.out]
  refine (HHv.out _ (by repeat' (first | with_reducible exact Below.refl _ _ | with_reducible refine Below.setCell ?_ (by first | (simp; done) | (simp; omega) | omega) _ | with_reducible refine below_drewN ?_ _ | with_reducible refine Below.drew ?_ | with_reducible refine Below.alloc ?_ (by first | (simp; done) | (simp; omega) | omega) _))).mono ?_
  rintro e' w1 ⟨rv, rfl, hr, hb⟩
  have K1 : Hid (Pb w.heap.size w1 CS) := (Pb.new w _).below hb (by simp)
  have B1 : Hid (Below w.heap.size w w1) := Below.trans (by repeat' (first | with_reducible exact Below.refl _ _ | with_reducible refine Below.setCell ?_ (by first | (simp; done) | (simp; omega) | omega) _ | with_reducible refine below_drewN ?_ _ | with_reducible refine Below.drew ?_ | with_reducible refine Below.alloc ?_ (by first | (simp; done) | (simp; omega) | omega) _)) (hb.mono (by simp))
  clear hb
  rcases hr with rfl | ⟨rfl, hv⟩
  · go_wp2_with fail
    go_ret
    exact ⟨rfl, B1.out⟩
  have hne : E ≠ 0 := HC.out.resolve_right (fun x => x hv)
  have HV : Hid (hvP xs mn ∧ E ≠ 0) := ⟨hv, hne⟩
  have hb0 : (E != 0) = true := by rw [bne_iff_ne]; exact hne
  clear hv hne
  go_wp2_with (refine step_pk (by rfl) _ (by rfl) _ (by rfl) _ (by first | rfl | exact hS) (K1.out) ?_)
  refine (HEn.out HV.out.1 HV.out.2 _ B1.out B1.out.size).mono ?_
  rintro e' w2 ⟨rfl, hb⟩
  have K2 : Hid (Pb w.heap.size w2 CS) := K1.out.below hb K1.out.lt
  have B2 : Hid (Below w.heap.size w w2) := B1.out.trans (hb.mono (Nat.le_of_lt K1.out.lt))
  clear hb K1 B1
  go_wp2_with (refine step_pk (by rfl) _ (by rfl) _ (by rfl) _ (by first | rfl | exact hS) (K2.out) ?_)
  refine (HMs.out HV.out.1 HV.out.2 _ B2.out B2.out.size).mono ?_
  rintro e' w3 ⟨rfl, hb⟩
  have K3 : Hid (Pb w.heap.size w3 CS) := K2.out.below hb K2.out.lt
  have B3 : Hid (Below w.heap.size w w3) := B2.out.trans (hb.mono (Nat.le_of_lt K2.out.lt))
  clear hb K2 B2
  go_wp2_with (refine step_pk (by rfl) _ (by rfl) _ (by rfl) _ (by first | rfl | exact hS) (K3.out) ?_)
  refine (HRc.out HV.out.1 _ B3.out).mono ?_
  rintro e' w4 ⟨rfl, hb⟩
  have B4 : Hid (Below w.heap.size w w4) := B3.out.trans (hb.mono (Nat.le_of_lt K3.out.lt))
  clear hb K3 B3
  go_wp2_with fail
  go_ret
  exact ⟨rfl, B4.out⟩
end Go.Proofs.Ythimekdpclmddaa
