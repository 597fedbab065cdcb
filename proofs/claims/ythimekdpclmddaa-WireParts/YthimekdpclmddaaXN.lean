/- The law WireParts: where the packet may be. -/
import Derived.Test.YthimekdpclmddaaXK
import Derived.Test.YthimekdpclmddaaXM
import Derived.Test.YthimekdpclmddaaXO
import Derived.Test.YthimekdpclmddaaWP
namespace Go.Proofs.Ythimekdpclmddaa
open Go.RowKit
set_option maxRecDepth 4000 in
set_option maxHeartbeats 8000000 in
theorem parts_ok (h : Hd) (ev mv : Value) (xs : List Xt) (key : Int) (nak : Bool) (mac : List Int) (w : World) (he : Es w.heap.size w ev xs) (hm : Sv w.heap.size w mv mac) (hl : (xs.length : Int) ≤ 140737488355328) (hx : ∀ x ∈ xs, (x.dat.length : Int) ≤ 9223372036854775807) (hmn : (mac.length : Int) ≤ 9223372036854775807) (r0 : 0 ≤ h.rid) (r1 : h.rid < 4294967296) (hC : ckE h xs key nak mac.length = 0) :
    Calls Try.prog 3 #[pkV h ev key nak mv] w fun e' w' => e' = .returned (.bool true) ∧ Below w.heap.size w w' := by
  have H : Hid (Es w.heap.size w ev xs) := he
  have HM : Hid (Sv w.heap.size w mv mac) := hm
  obtain ⟨hf, hl4, hxo, hkd, hsz⟩ := ck_ok hC
  have HPu : Hid (hfB h = true ∧ kdB key nak mac.length = true ∧ xs.length ≤ 4 ∧ sumX xs ≤ 512 ∧ mac.length ≤ 20) := ⟨hf, hkd, hl4, (by
    have h2 := (df_ok (kd_ok hkd).1).2.2.1
    have h3 := (dsz_le key mac.length).1
    unfold szI at hsz
    split at hsz <;> omega), (df_ok (kd_ok hkd).1).2.2.1⟩
  obtain ⟨ea, ec, hev, -⟩ := he
  obtain ⟨ma, mc, hmv, -⟩ := hm
  obtain ⟨en, hen⟩ : ∃ L, L = xs.length := ⟨_, rfl⟩
  obtain ⟨mn, hmn'⟩ : ∃ L, L = mac.length := ⟨_, rfl⟩
  rw [← hen] at hev
  have HHv : Hid (∀ v, Below w.heap.size w v → Calls Try.prog 9 #[pkV h ev key nak mv] v fun e' w' => ∃ r, e' = .returned r ∧ (r = .bool true ∨ (r = .bool false ∧ hvP xs mac.length)) ∧ Below v.heap.size v w') := fun v hb => by
    rw [hmv]
    exact heavy_any w.heap.size h _ xs key nak ma mac.length mc v (H.out.below hb (Nat.le_refl _)) hb.size hl hx hmn
  have HEn : Hid (hvP xs mac.length → ∀ v, Below w.heap.size w v → w.heap.size ≤ v.heap.size → Calls Try.prog 10 #[pkV h ev key nak mv] v fun e' w' => ∃ b, e' = .returned (.tuple #[b, .int .i64 0]) ∧ Below v.heap.size v w' ∧ Own w' v.heap.size b (enB h xs key nak mac)) := fun hv v hb hs =>
    encode_ok h _ _ xs key nak mac v ((H.out.below hb (Nat.le_refl _)).mono hs) ((HM.out.below hb (Nat.le_refl _)).mono hs) hv.1 hv.2.2 hv.2.1 r0 r1 hC
  have HMs : Hid (hvP xs mac.length → ∀ v, Below w.heap.size w v → w.heap.size ≤ v.heap.size → Calls Try.prog 11 #[pkV h ev key nak mv] v fun e' w' => ∃ b, e' = .returned (.tuple #[b, .int .i64 0]) ∧ Below v.heap.size v w' ∧ Own w' v.heap.size b (msB h xs)) := fun hv v hb hs => by
    rw [hmv]
    exact message_ok h _ xs key nak ma mac.length mc v ((H.out.below hb (Nat.le_refl _)).mono hs) hv.1 hv.2.2 (by have := hv.2.1; omega) r0 r1 hC
  have HRc : Hid (hvP xs mac.length → ∀ v, Below w.heap.size w v → Calls Try.prog 12 #[pkV h ev key nak mv] v fun e' w' => e' = .returned (.int .i64 0) ∧ Below v.heap.size v w') := fun hv v hb => by
    have := rcheck_any w.heap.size h _ xs key nak ma mac.length mc v (H.out.below hb (Nat.le_refl _)) hb.size hv.1 hv.2.2 (by have := hv.2.1; omega)
    rw [hC, ← hmv] at this
    exact this
  obtain ⟨CS, hCS⟩ : ∃ C : Array Value, C = #[.int .i64 h.leap, .int .i64 h.ver, .int .i64 h.mode, .int .i64 h.str, .int .i64 h.poll, .int .i64 h.prec, .int .i64 h.del, .int .i64 h.dis, .int .u32 h.rid, .int .u64 h.t0, .int .u64 h.t1, .int .u64 h.t2, .int .u64 h.t3, .slice ea en ec, .int .i64 key, .bool nak, .slice ma mn mc] := ⟨_, rfl⟩
  rw [← hmn'] at hmv
  have hP : pkV h ev key nak mv = .agg CS := by rw [hCS, hev, hmv]; rfl
  have hS : CS.size = 17 := by rw [hCS]; rfl
  rw [hP] at HHv HEn HMs HRc
  have HE : Hid (Es w.heap.size w (.slice ea en ec) xs) := by rw [← hev]; exact H.out
  have HM' : Hid (Sv w.heap.size w (.slice ma mn mc) mac) := by rw [← hmv]; exact HM.out
  rw [hev, hmv]
  have HCS : Hid (CS = #[.int .i64 h.leap, .int .i64 h.ver, .int .i64 h.mode, .int .i64 h.str, .int .i64 h.poll, .int .i64 h.prec, .int .i64 h.del, .int .i64 h.dis, .int .u32 h.rid, .int .u64 h.t0, .int .u64 h.t1, .int .u64 h.t2, .int .u64 h.t3, .slice ea en ec, .int .i64 key, .bool nak, .slice ma mn mc]) := hCS
  have HN : Hid (en = xs.length ∧ mn = mac.length) := ⟨hen, hmn'⟩
  have l1 : (en : Int) ≤ 4 := by omega
  clear hen hmn' hx hl hmn hC H HM hP hev hmv hCS hf hkd hl4 hxo hsz r0 r1
  unfold pkV
  go_enter Try.func3, Try.ntmps3
  go_wp2_with (refine step_pk (by rfl) _ (by rfl) _ (by rfl) _ (by first | rfl | exact hS) (Pb.new w _) ?_)
  rw [← HCS.out]
  refine (HHv.out _ (by repeat' (first | with_reducible exact Below.refl _ _ | with_reducible refine Below.setCell ?_ (by first | (simp; done) | (simp; omega) | omega) _ | with_reducible refine below_drewN ?_ _ | with_reducible refine Below.drew ?_ | with_reducible refine Below.alloc ?_ (by first | (simp; done) | (simp; omega) | omega) _))).mono ?_
  rintro e' w1 ⟨rv, rfl, hr, hb⟩
  have K1 : Hid (Pb w.heap.size w1 CS) := (Pb.new w _).below hb (by simp)
  have B1 : Hid (Below w.heap.size w w1) := Below.trans (by repeat' (first | with_reducible exact Below.refl _ _ | with_reducible refine Below.setCell ?_ (by first | (simp; done) | (simp; omega) | omega) _ | with_reducible refine below_drewN ?_ _ | with_reducible refine Below.drew ?_ | with_reducible refine Below.alloc ?_ (by first | (simp; done) | (simp; omega) | omega) _)) (hb.mono (by simp))
  clear hb
  rcases hr with rfl | ⟨rfl, hv⟩
  · go_wp2_with fail
    go_ret
    exact ⟨rfl, B1.out⟩
  have HV : Hid (hvP xs mac.length) := hv
  clear hv HHv
  go_wp2_with (refine step_pk (by rfl) _ (by rfl) _ (by rfl) _ (by first | rfl | exact hS) (K1.out) ?_)
  refine (HEn.out HV.out _ B1.out B1.out.size).mono ?_
  rintro e' w2 ⟨bv, rfl, hb, ho⟩
  have K2 : Hid (Pb w.heap.size w2 CS) := K1.out.below hb K1.out.lt
  have B2 : Hid (Below w.heap.size w w2) := B1.out.trans (hb.mono (Nat.le_of_lt K1.out.lt))
  have O2 : Hid (Own w2 w.heap.size bv (enB h xs key nak mac)) := ho.mono (Nat.le_of_lt K1.out.lt)
  clear hb ho K1 B1 HEn
  go_wp2_with (refine step_pk (by rfl) _ (by rfl) _ (by rfl) _ (by first | rfl | exact hS) (K2.out) ?_)
  refine (HMs.out HV.out _ B2.out B2.out.size).mono ?_
  rintro e' w3 ⟨mvv, rfl, hb, ho⟩
  have K3 : Hid (Pb w.heap.size w3 CS) := K2.out.below hb K2.out.lt
  have B3 : Hid (Below w.heap.size w w3) := B2.out.trans (hb.mono (Nat.le_of_lt K2.out.lt))
  have O3 : Hid (Own w3 w.heap.size bv (enB h xs key nak mac)) := O2.out.below hb (Nat.le_refl _)
  have M3 : Hid (Own w3 w.heap.size mvv (msB h xs)) := ho.mono (Nat.le_of_lt K2.out.lt)
  clear hb ho K2 B2 O2 HMs
  go_wp2_with (refine step_pk (by rfl) _ (by rfl) _ (by rfl) _ (by first | rfl | exact hS) (K3.out) ?_)
  refine (HRc.out HV.out _ B3.out).mono ?_
  rintro e' w4 ⟨rfl, hb⟩
  have K4 : Hid (Pb w.heap.size w4 CS) := K3.out.below hb K3.out.lt
  have B4 : Hid (Below w.heap.size w w4) := B3.out.trans (hb.mono (Nat.le_of_lt K3.out.lt))
  have O4 : Hid (Own w4 w.heap.size bv (enB h xs key nak mac)) := O3.out.below hb (Nat.le_refl _)
  have M4 : Hid (Own w4 w.heap.size mvv (msB h xs)) := M3.out.below hb (Nat.le_refl _)
  clear hb K3 B3 O3 M3 HRc HV
  have SB : Hid (Sv w4.heap.size w4 bv (enB h xs key nak mac)) := O4.out.sv (enB_ok h key nak HE.out.dat (by obtain ⟨_, _, _, _, _, _, q⟩ := HM'.out; exact q))
  have SM : Hid (Sv w4.heap.size w4 mvv (msB h xs)) := M4.out.sv (msB_ok h HE.out.dat)
  clear O4 M4
  have C13 : w4.cell? ⟨w.heap.size, 13, none⟩ = some (.slice ea en ec) := (K4.out.ck.at_ 13).trans (by rw [HCS.out]; rfl)
  have C14 : w4.cell? ⟨w.heap.size, 14, none⟩ = some (.int .i64 key) := (K4.out.ck.at_ 14).trans (by rw [HCS.out]; rfl)
  have C15 : w4.cell? ⟨w.heap.size, 15, none⟩ = some (.bool nak) := (K4.out.ck.at_ 15).trans (by rw [HCS.out]; rfl)
  have C16 : w4.cell? ⟨w.heap.size, 16, none⟩ = some (.slice ma mn mc) := (K4.out.ck.at_ 16).trans (by rw [HCS.out]; rfl)
  have C2 : w4.cell? ⟨w.heap.size, 2, none⟩ = some (.int .i64 h.mode) := (K4.out.ck.at_ 2).trans (by rw [HCS.out]; rfl)
  have HE4 : Hid (Es w.heap.size w4 (.slice ea en ec) xs) := HE.out.below B4.out (Nat.le_refl _)
  have HM4 : Hid (Sv w.heap.size w4 (.slice ma mn mc) mac) := HM'.out.below B4.out (Nat.le_refl _)
  have HXB : Hid (∀ k (hk : k < xs.length), (xs[k].dat.length : Int) ≤ 512 ∧ 48 + sumX (xs.take k) ≤ 560 ∧ 48 ≤ 48 + sumX (xs.take k)) := fun k hk => by
    have h1 := sumX_take_le xs (k + 1)
    have h2 := sumX_take_le xs k
    have h3 := sumX_take xs k hk
    have := HPu.out.2.2.2.1
    omega
  clear HE HM' HCS K4
  go_wp2_with fail
  go_loopw [7, 8] (fun t i wr => ∃ (k : Nat) (T : Int), t = .int .i64 T ∧ i = .int .i64 (k : Int) ∧ (k : Int) ≤ en ∧ Hid (T = 48 + sumX (xs.take k)) ∧ wr = w4) (fun _ i _ => (en - intOf i).toNat)
  case atStart => exact ⟨0, 48, rfl, rfl, by omega, by simp [sumX, Hid], rfl⟩
  case round =>
    obtain ⟨k, T, rfl, rfl, hk, hT, rfl⟩ := hrel
    by_cases hlt : (k : Int) < en
    · have hkx : k < xs.length := by have := HN.out.1; omega
      obtain ⟨x1, x2, x3⟩ := HXB.out k hkx
      have t0 : 48 ≤ T := by rw [hT.out]; exact x3
      have t1 : T ≤ 560 := by rw [hT.out]; exact x2
      obtain ⟨ad, g1, g2, g3, g4, -⟩ := HE4.out.at k hkx
      have hix : ∀ w, Sem.run Try.prog (Instr.indexAt 26 (.slice ea en ec) (.int .i64 (k : Int))) w = .ok (.pointer (some (ad.add (k * 2)))) w := xidx_run en ec k g1.out hlt
      obtain ⟨A, hA0⟩ : ∃ A, A = ad.add (k * 2) := ⟨_, rfl⟩
      rw [← hA0] at hix g2 g3
      obtain ⟨dv, hdv⟩ : ∃ d, d = xs[k].dv := ⟨_, rfl⟩
      rw [← hdv] at g3 g4
      obtain ⟨da, dc, hd, -⟩ := g4
      subst hd
      obtain ⟨dn, hdn⟩ : ∃ n, n = xs[k].dat.length := ⟨_, rfl⟩
      rw [← hdn] at g3 x1
      have HDN : Hid (dn = xs[k].dat.length) := hdn
      have g3' : wr.cell? { block := A.block, off := A.off + 1 } = some (.slice da dn dc) := by simpa [Addr.add] using g3
      clear hA0 hdv hdn g1 g2 g3 x2 x3
      go_wp2_with fail
      refine ⟨⟨k + 1, _, rfl, by go_num, by omega, ?_, by first | trivial | rfl⟩, by simp [intOf]; omega⟩
      show _ = _
      rw [sumX_take xs k hkx, ← HDN.out, hT.out]
      omega
    · have hkE : xs.take k = xs := List.take_of_length_le (by have := HN.out.1; omega)
      have HT2 : Hid (T = 48 + sumX xs) := by have := hT.out; rw [hkE] at this; exact this
      clear hkE hT HXB HE4
      obtain ⟨ml, hml⟩ : ∃ n, n = (msB h xs).length := ⟨_, rfl⟩
      have hTml : (ml : Int) = T := by rw [hml, msB_len, HT2.out]
      have hle : ml ≤ (enB h xs key nak mac).length := by rw [hml]; unfold enB; rw [List.length_append, List.length_append]; omega
      have tb0 : 48 ≤ T ∧ T ≤ 600 := by
        have a1 := sumX_take_le xs xs.length
        have a2 := HPu.out.2.2.2.1
        rw [List.take_length] at a1
        have := HT2.out
        omega
      obtain ⟨tb1, tb2⟩ := tb0
      obtain ⟨v1, hs1, hv1⟩ := sub_take SB.out ml T hTml hle
      rw [hml, en_take] at hv1
      have e1 : ∀ n, (convert 27 9 v1).run Try.prog (wr.drewN n) = .ok (.string (strOfNums (msB h xs))) (wr.drewN n) := fun n => conv8 _ hv1
      have e2 : ∀ n, (convert 27 9 mvv).run Try.prog (wr.drewN n) = .ok (.string (strOfNums (msB h xs))) (wr.drewN n) := fun n => conv8 _ SM.out
      have HMo : Hid (∀ n, Calls Try.prog 13 #[bv] (wr.drewN n) fun e w' => e = .returned (.int .i64 h.mode) ∧ w' = wr.drewN n) := fun n => by
        have := mode_any _ bv _ (wr.drewN n) SB.out (by omega)
        rw [en_mode h xs key nak mac HPu.out.1] at this
        exact this
      obtain ⟨S1, hS1⟩ : ∃ S, S = strOfNums (msB h xs) := ⟨_, rfl⟩
      rw [← hS1] at e1 e2
      obtain ⟨ba, bc, hbv, -⟩ := SB.out
      obtain ⟨xa, xc, hxv, -⟩ := SM.out
      obtain ⟨bl, hbl⟩ : ∃ n, n = (enB h xs key nak mac).length := ⟨_, rfl⟩
      rw [← hbl] at hbv
      rw [← hml] at hxv
      subst hbv
      subst hxv
      have HB : Hid (bl = (enB h xs key nak mac).length ∧ ml = (msB h xs).length) := ⟨hbl, hml⟩
      clear hbl hml hS1 hle hv1
      go_wp2_with fail
      go_quiet ((go_at_call 13; exact Calls.quiet_of_same (HMo.out _)))
      have hkc : (key = 0 ∧ nak = false) ∨ (key ≠ 0 ∨ nak = true) := by
        by_cases hz : key = 0
        · cases nak
          · exact .inl ⟨hz, rfl⟩
          · exact .inr (.inr rfl)
        · exact .inr (.inl hz)
      clear e1 e2 HMo hs1
      rcases hkc with ⟨rfl, rfl⟩ | hkn
      · have hbT : (bl : Int) = T := by rw [HB.out.1, en_none, ← HB.out.2]; exact hTml
        go_wp2_with fail
        go_ret
        exact ⟨rfl, (by repeat' (first | with_reducible exact Below.refl _ _ | with_reducible exact B4.out | with_reducible refine Below.setCell ?_ (by first | (simp; done) | (simp; omega) | omega) _ | with_reducible refine below_drewN ?_ _ | with_reducible refine Below.drew ?_ | with_reducible refine Below.alloc ?_ (by first | (simp; done) | (simp; omega) | omega) _))⟩
      have hes := en_some h xs key nak mac HPu.out.2.1 (fun x => by rcases hkn with q | q; exact q x.1; rw [x.2] at q; cases q)
      have hbT : (bl : Int) = T + 4 + (mn : Int) := by rw [HB.out.1, hes.1, HN.out.2, ← HB.out.2, ← hTml]; omega
      have l2 : (mn : Int) ≤ 20 := by have := HPu.out.2.2.2.2; have := HN.out.2; omega
      obtain ⟨v2, hs2, hv2⟩ := sub_drop SB.out (ml + 4) (T + 4) (by rw [← hTml]; omega) (by rw [hes.1, ← HB.out.2]; omega)
      rw [HB.out.2, hes.2] at hv2
      have e1 : ∀ n, (convert 27 9 v2).run Try.prog (wr.drewN n) = .ok (.string (strOfNums mac)) (wr.drewN n) := fun n => conv8 _ hv2
      have e2 : ∀ n, (convert 27 9 (.slice ma mn mc)).run Try.prog (wr.drewN n) = .ok (.string (strOfNums mac)) (wr.drewN n) := fun n => conv8 _ HM4.out
      obtain ⟨S2, hS2⟩ : ∃ S, S = strOfNums mac := ⟨_, rfl⟩
      rw [← hS2] at e1 e2
      clear hS2 hv2 hes
      have hcase : (key == 0) = false ∨ (key = 0 ∧ nak = true) := by
        by_cases hz : key = 0
        · exact .inr ⟨hz, hkn.resolve_left (fun x => x hz)⟩
        · exact .inl (by rw [beq_eq_false_iff_ne]; exact hz)
      clear hkn
      rcases hcase with hz | ⟨rfl, rfl⟩
      all_goals
        go_wp2_with fail
        go_quiet (fail)
        go_wp2_with fail
        go_ret
        exact ⟨rfl, (by repeat' (first | with_reducible exact Below.refl _ _ | with_reducible exact B4.out | with_reducible refine Below.setCell ?_ (by first | (simp; done) | (simp; omega) | omega) _ | with_reducible refine below_drewN ?_ _ | with_reducible refine Below.drew ?_ | with_reducible refine Below.alloc ?_ (by first | (simp; done) | (simp; omega) | omega) _))⟩
end Go.Proofs.Ythimekdpclmddaa
