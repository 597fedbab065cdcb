/- The law WireEncodes. -/
import Derived.Test.YtdobghhjlfffpaaZF
import Derived.Test.YtdobghhjlfffpaaZG
import Derived.Test.YtdobghhjlfffpaaZI
import Derived.Test.YtdobghhjlfffpaaXH
import Derived.Test.YtdobghhjlfffpaaXD
import Derived.Test.YtdobghhjlfffpaaXJ
import Derived.Test.YtdobghhjlfffpaaXO
namespace Go.Proofs.Ytdobghhjlfffpaa
open Go.RowKit
set_option linter.unusedVariables false
theorem xsL_prs {xs ys : List Xt} (h : prsx ys = prsx xs) : xsL ys = xsL xs := by
  have e : ∀ l : List Xt, xsL l = ((prsx l).map (fun p => be 2 p.1 ++ be 2 (4 + p.2.length) ++ p.2)).flatten := fun l => by
    unfold xsL prsx
    rw [List.map_map]
    rfl
  rw [e, e, h]
theorem msB_prs {h : Hd} {xs ys : List Xt} (e : prsx ys = prsx xs) : msB h xs = msB h ys := by unfold msB; rw [xsL_prs e]
theorem enB_prs {h : Hd} {xs ys : List Xt} {key : Int} {nak : Bool} {mac : List Int} (e : prsx ys = prsx xs) : enB h xs key nak mac = enB h ys key nak mac := by unfold enB; rw [msB_prs e]
theorem ckE_prs (h : Hd) {xs ys : List Xt} (key : Int) (nak : Bool) (mn : Nat) (e : prsx ys = prsx xs) : ckE h ys key nak mn = ckE h xs key nak mn := by
  have hl := (prsx_at e).1
  have hx : xsB ys = xsB xs := by
    have e2 : ∀ l : List Xt, xsB l = (prsx l).all (fun p => xtB p.1 p.2.length) := fun l => by
      unfold xsB prsx
      rw [List.all_map]
      rfl
    rw [e2, e2, e]
  have hs : sumX ys = sumX xs := by
    have e2 : ∀ l : List Xt, sumX l = ((prsx l).map (fun p => 4 + (p.2.length : Int))).sum := fun l => by
      induction l with
      | nil => rfl
      | cons x r ih => rw [sumX, ih]; unfold prsx; simp
    rw [e2, e2, e]
  unfold ckE szI
  rw [hl, hx, hs]
/-- where both packets lie, and what the copy reaches -/
structure En (w w2 W : World) (q : Nat) (CP CQ : Array Value) : Prop where
  p1 : Pb w.heap.size W CP
  p2 : Pb q W CQ
  b2 : Below w2.heap.size w2 W
  bw : Below w.heap.size w W
theorem En.below {w w2 W W' : World} {q : Nat} {CP CQ : Array Value} (h : En w w2 W q CP CQ) (hb : Below W.heap.size W W') : En w w2 W' q CP CQ :=
  ⟨h.p1.below hb h.p1.lt, h.p2.below hb h.p2.lt, h.b2.trans (hb.mono h.b2.size), h.bw.trans (hb.mono h.bw.size)⟩
theorem Es.drop_ {N : Nat} {w : World} {v : Value} {xs : List Xt} (h : Es N w v xs) : ∀ x ∈ xs, okb x.dat := h.dat
set_option maxRecDepth 20000 in
set_option maxHeartbeats 8000000 in
theorem encodes_main (h : Hd) (ev : Value) (xs : List Xt) (key : Int) (nak : Bool) (mv : Value) (mac : List Int) (w : World) (he : Es w.heap.size w ev xs) (hm : Sv w.heap.size w mv mac) (hl : (xs.length : Int) ≤ 140737488355328) (hx : ∀ x ∈ xs, (x.dat.length : Int) ≤ 9223372036854775807) (hmn : (mac.length : Int) ≤ 9223372036854775807) (r0 : 0 ≤ h.rid) (r1 : h.rid < 4294967296) :
    Calls Try.prog 3 #[pkV h ev key nak mv] w fun e' w' => e' = .returned (.bool true) ∧ Below w.heap.size w w' := by
  have H : Hid (Es w.heap.size w ev xs) := he
  have HM : Hid (Sv w.heap.size w mv mac) := hm
  have HR : Hid (0 ≤ h.rid ∧ h.rid < 4294967296) := ⟨r0, r1⟩
  have HHv : Hid (∀ v, Below w.heap.size w v → Calls Try.prog 6 #[pkV h ev key nak mv] v fun e' w' => ∃ r, e' = .returned r ∧ (r = .bool true ∨ (r = .bool false ∧ hvP xs mac.length)) ∧ Below v.heap.size v w') := fun v hb => by
    obtain ⟨ma, mc, rfl, -⟩ := hm
    exact heavy_any w.heap.size h _ xs key nak ma mac.length mc v (H.out.below hb (Nat.le_refl _)) hb.size hl hx hmn
  obtain ⟨ea, ec, hev, -⟩ := id he
  obtain ⟨ma, mc, hmv, -⟩ := id hm
  obtain ⟨en, hen⟩ : ∃ L, L = xs.length := ⟨_, rfl⟩
  obtain ⟨mn, hmn'⟩ : ∃ L, L = mac.length := ⟨_, rfl⟩
  rw [← hen] at hev
  rw [← hmn'] at hmv
  have HN : Hid (en = xs.length ∧ mn = mac.length) := ⟨hen, hmn'⟩
  obtain ⟨CP, hCP⟩ : ∃ C : Array Value, C = #[.int .i64 h.leap, .int .i64 h.ver, .int .i64 h.mode, .int .i64 h.str, .int .i64 h.poll, .int .i64 h.prec, .int .i64 h.del, .int .i64 h.dis, .int .u32 h.rid, .int .u64 h.t0, .int .u64 h.t1, .int .u64 h.t2, .int .u64 h.t3, .slice ea en ec, .int .i64 key, .bool nak, .slice ma mn mc] := ⟨_, rfl⟩
  have HCP : Hid (CP = #[.int .i64 h.leap, .int .i64 h.ver, .int .i64 h.mode, .int .i64 h.str, .int .i64 h.poll, .int .i64 h.prec, .int .i64 h.del, .int .i64 h.dis, .int .u32 h.rid, .int .u64 h.t0, .int .u64 h.t1, .int .u64 h.t2, .int .u64 h.t3, .slice ea en ec, .int .i64 key, .bool nak, .slice ma mn mc]) := hCP
  have HQP : Hid (pkV h ev key nak mv = .agg CP) := by show _ = _; rw [hCP, hev, hmv]; rfl
  have hSP : CP.size = 17 := by rw [hCP]; rfl
  rw [HQP.out] at HHv
  rw [hev, hmv]
  clear he hm hl hx hmn r0 r1 hev hmv hen hmn' hCP
  unfold pkV
  go_enter Try.func3, Try.ntmps3
  go_wp2_with (refine step_pk (by rfl) _ (by rfl) _ (by rfl) _ (by first | rfl | exact hSP) (Pb.new w _) ?_)
  rw [← HCP.out]
  refine (HHv.out _ (by repeat' (first | with_reducible exact Below.refl _ _ | with_reducible refine Below.setCell ?_ (by first | (simp; done) | (simp; omega) | omega) _ | with_reducible refine below_drewN ?_ _ | with_reducible refine Below.drew ?_ | with_reducible refine Below.alloc ?_ (by first | (simp; done) | (simp; omega) | omega) _))).mono ?_
  rintro e' w1 ⟨rv, rfl, hr, hb⟩
  have K1 : Hid (Pb w.heap.size w1 CP) := (Pb.new w _).below hb (by simp)
  have B1 : Hid (Below w.heap.size w w1) := Below.trans (by repeat' (first | with_reducible exact Below.refl _ _ | with_reducible refine Below.setCell ?_ (by first | (simp; done) | (simp; omega) | omega) _ | with_reducible refine below_drewN ?_ _ | with_reducible refine Below.drew ?_ | with_reducible refine Below.alloc ?_ (by first | (simp; done) | (simp; omega) | omega) _)) (hb.mono (by simp))
  clear hb HHv
  rcases hr with rfl | ⟨rfl, hv⟩
  · go_wp2_with fail
    go_ret
    exact ⟨rfl, B1.out⟩
  have HV : Hid (hvP xs mac.length) := hv
  clear hv
  obtain ⟨E, hE⟩ : ∃ E, ckE h xs key nak mac.length = E := ⟨_, rfl⟩
  have HE : Hid (ckE h xs key nak mac.length = E) := hE
  obtain ⟨BB, hBB⟩ : ∃ B, B = if E = 0 then enB h xs key nak mac else [] := ⟨_, rfl⟩
  obtain ⟨MB, hMB⟩ : ∃ B, B = if E = 0 then msB h xs else [] := ⟨_, rfl⟩
  have HBB : Hid ((E = 0 → BB = enB h xs key nak mac) ∧ (E = 0 → MB = msB h xs)) := ⟨fun q => by rw [hBB, if_pos q], fun q => by rw [hMB, if_pos q]⟩
  have HB0 : Hid ((E ≠ 0 → BB = []) ∧ (E ≠ 0 → MB = [])) := ⟨fun q => by rw [hBB, if_neg q], fun q => by rw [hMB, if_neg q]⟩
  have hokm : okb mac := by obtain ⟨_, _, _, _, _, _, q⟩ := HM.out; exact q
  have HOK : Hid (okb BB ∧ okb MB ∧ okb mac) := by
    have o1 : okb (enB h xs key nak mac) := enB_ok h key nak H.out.dat hokm
    have o2 : okb (msB h xs) := msB_ok h H.out.dat
    refine ⟨?_, ?_, hokm⟩
    · rw [hBB]; split; exact o1; exact okb_nil
    · rw [hMB]; split; exact o2; exact okb_nil
  clear hE hBB hMB hokm
  have HEn : Hid (∀ (N : Nat) (ev0 : Value) (ys : List Xt) (mv0 : Value) (u : World), N ≤ u.heap.size → prsx ys = prsx xs → Es N u ev0 ys → Sv N u mv0 mac → Calls Try.prog 8 #[pkV h ev0 key nak mv0] u fun e' w' => ∃ v, e' = .returned (.tuple #[v, .int .i64 E]) ∧ Below u.heap.size u w' ∧ Own w' u.heap.size v BB) := fun N ev0 ys mv0 u hN hp e1 m1 => by
    have q := HV.out
    have hs := prsx_at hp
    have hlen : ys.length ≤ 65536 := by rw [hs.1]; exact q.1
    have hdat : ∀ x ∈ ys, x.dat.length ≤ 65536 := fun x hx => by
      obtain ⟨i, hi, rfl⟩ := List.mem_iff_getElem.1 hx
      rw [(hs.2 i hi (by omega)).2]
      exact q.2.2 _ (List.getElem_mem _)
    have hE := HE.out
    rw [← ckE_prs h key nak mac.length hp] at hE
    have hb := HBB.out
    by_cases h0 : E = 0
    · have hB : BB = enB h ys key nak mac := by rw [hb.1 h0, enB_prs hp]
      rw [hB, h0]
      exact encode_ok h ev0 mv0 ys key nak mac u (e1.mono hN) (m1.mono hN) hlen hdat q.2.1 HR.out.1 HR.out.2 (by rw [hE]; exact h0)
    · have hB : BB = [] := HB0.out.1 h0
      rw [hB]
      obtain ⟨ma0, mc0, rfl, -⟩ := m1
      refine (encode_err h ev0 ys key nak ma0 mac.length mc0 u (e1.mono hN) hlen hdat (by have := q.2.1; omega) (by rw [hE]; exact h0)).mono ?_
      rintro e' w' ⟨rfl, hb⟩
      exact ⟨_, by rw [hE], hb, Own.nil _ _⟩
  have HMe : Hid (∀ (N : Nat) (ev0 : Value) (ys : List Xt) (mv0 : Value) (u : World), N ≤ u.heap.size → prsx ys = prsx xs → Es N u ev0 ys → Sv N u mv0 mac → Calls Try.prog 9 #[pkV h ev0 key nak mv0] u fun e' w' => ∃ v, e' = .returned (.tuple #[v, .int .i64 E]) ∧ Below u.heap.size u w' ∧ Own w' u.heap.size v MB) := fun N ev0 ys mv0 u hN hp e1 m1 => by
    have q := HV.out
    have hs := prsx_at hp
    have hlen : ys.length ≤ 65536 := by rw [hs.1]; exact q.1
    have hdat : ∀ x ∈ ys, x.dat.length ≤ 65536 := fun x hx => by
      obtain ⟨i, hi, rfl⟩ := List.mem_iff_getElem.1 hx
      rw [(hs.2 i hi (by omega)).2]
      exact q.2.2 _ (List.getElem_mem _)
    have hE := HE.out
    rw [← ckE_prs h key nak mac.length hp] at hE
    have hb := HBB.out
    by_cases h0 : E = 0
    · have hB : MB = msB h ys := by rw [hb.2 h0, msB_prs hp]
      rw [hB, h0]
      obtain ⟨ma0, mc0, rfl, -⟩ := m1
      exact message_ok h ev0 ys key nak ma0 mac.length mc0 u (e1.mono hN) hlen hdat (by have := q.2.1; omega) HR.out.1 HR.out.2 (by rw [hE]; exact h0)
    · have hB : MB = [] := HB0.out.2 h0
      rw [hB]
      obtain ⟨ma0, mc0, rfl, -⟩ := m1
      refine (message_err h ev0 ys key nak ma0 mac.length mc0 u (e1.mono hN) hlen hdat (by have := q.2.1; omega) (by rw [hE]; exact h0)).mono ?_
      rintro e' w' ⟨rfl, hb⟩
      exact ⟨_, by rw [hE], hb, Own.nil _ _⟩
  have HRe : Hid (∀ (N : Nat) (ev0 : Value) (ys : List Xt) (mv0 : Value) (u : World), N ≤ u.heap.size → prsx ys = prsx xs → Es N u ev0 ys → Sv N u mv0 mac → Calls Try.prog 10 #[pkV h ev0 key nak mv0] u fun e' w' => ∃ v, e' = .returned (.tuple #[v, .int .i64 E]) ∧ Below u.heap.size u w' ∧ Own w' u.heap.size v BB) := fun N ev0 ys mv0 u hN hp e1 m1 => by
    have q := HV.out
    have hs := prsx_at hp
    have hlen : ys.length ≤ 65536 := by rw [hs.1]; exact q.1
    have hdat : ∀ x ∈ ys, x.dat.length ≤ 65536 := fun x hx => by
      obtain ⟨i, hi, rfl⟩ := List.mem_iff_getElem.1 hx
      rw [(hs.2 i hi (by omega)).2]
      exact q.2.2 _ (List.getElem_mem _)
    have hE := HE.out
    rw [← ckE_prs h key nak mac.length hp] at hE
    have hb := HBB.out
    by_cases h0 : E = 0
    · have hB : BB = enB h ys key nak mac := by rw [hb.1 h0, enB_prs hp]
      rw [hB, h0]
      exact rencode_ok h ev0 mv0 ys key nak mac u (e1.mono hN) (m1.mono hN) hlen hdat q.2.1 HR.out.1 HR.out.2 (by rw [hE]; exact h0)
    · have hB : BB = [] := HB0.out.1 h0
      rw [hB]
      obtain ⟨ma0, mc0, rfl, -⟩ := m1
      refine (rencode_err h ev0 ys key nak ma0 mac.length mc0 u (e1.mono hN) hlen hdat (by have := q.2.1; omega) (by rw [hE]; exact h0)).mono ?_
      rintro e' w' ⟨rfl, hb⟩
      exact ⟨_, by rw [hE], hb, Own.nil _ _⟩
  have HRm : Hid (∀ (N : Nat) (ev0 : Value) (ys : List Xt) (mv0 : Value) (u : World), N ≤ u.heap.size → prsx ys = prsx xs → Es N u ev0 ys → Sv N u mv0 mac → Calls Try.prog 11 #[pkV h ev0 key nak mv0] u fun e' w' => ∃ v, e' = .returned (.tuple #[v, .int .i64 E]) ∧ Below u.heap.size u w' ∧ Own w' u.heap.size v MB) := fun N ev0 ys mv0 u hN hp e1 m1 => by
    have q := HV.out
    have hs := prsx_at hp
    have hlen : ys.length ≤ 65536 := by rw [hs.1]; exact q.1
    have hdat : ∀ x ∈ ys, x.dat.length ≤ 65536 := fun x hx => by
      obtain ⟨i, hi, rfl⟩ := List.mem_iff_getElem.1 hx
      rw [(hs.2 i hi (by omega)).2]
      exact q.2.2 _ (List.getElem_mem _)
    have hE := HE.out
    rw [← ckE_prs h key nak mac.length hp] at hE
    have hb := HBB.out
    by_cases h0 : E = 0
    · have hB : MB = msB h ys := by rw [hb.2 h0, msB_prs hp]
      rw [hB, h0]
      obtain ⟨ma0, mc0, rfl, -⟩ := m1
      exact rmessage_ok h ev0 ys key nak ma0 mac.length mc0 u (e1.mono hN) hlen hdat (by have := q.2.1; omega) HR.out.1 HR.out.2 (by rw [hE]; exact h0)
    · have hB : MB = [] := HB0.out.2 h0
      rw [hB]
      obtain ⟨ma0, mc0, rfl, -⟩ := m1
      refine (rmessage_err h ev0 ys key nak ma0 mac.length mc0 u (e1.mono hN) hlen hdat (by have := q.2.1; omega) (by rw [hE]; exact h0)).mono ?_
      rintro e' w' ⟨rfl, hb⟩
      exact ⟨_, by rw [hE], hb, Own.nil _ _⟩
  have HCo : Hid (Calls Try.prog 7 #[.agg CP] w1 fun e w' => ∃ ev' xs' mv', e = .returned (pkV h ev' key nak mv') ∧ prsx xs' = prsx xs ∧ Below w1.heap.size w1 w' ∧ OX w' w1.heap.size ev' xs' ∧ Own w' w1.heap.size mv' mac) := by
    have := copied_any h ev xs key nak mv mac w1 ((H.out.below B1.out (Nat.le_refl _)).mono B1.out.size) ((HM.out.below B1.out (Nat.le_refl _)).mono B1.out.size) HV.out.1 HV.out.2.2 HV.out.2.1
    rw [HQP.out] at this
    exact this
  go_wp2_with (refine step_pk (by rfl) _ (by rfl) _ (by rfl) _ (by first | rfl | exact hSP) (K1.out) ?_)
  refine HCo.out.mono ?_
  rintro e' w2 ⟨ev2, xs2, mv2, rfl, hp, hb, hox, hom⟩
  have hok2 : ∀ x ∈ xs2, okb x.dat := fun x hx => by
    obtain ⟨i, hi, rfl⟩ := List.mem_iff_getElem.1 hx
    have := prsx_at hp
    rw [(this.2 i hi (by omega)).2]
    exact H.out.dat _ (List.getElem_mem _)
  have S2 : Hid (OX w2 w1.heap.size ev2 xs2 ∧ Own w2 w1.heap.size mv2 mac ∧ prsx xs2 = prsx xs ∧ Es w2.heap.size w2 ev2 xs2 ∧ Sv w2.heap.size w2 mv2 mac) := ⟨hox, hom, hp, hox.es hok2, hom.sv HOK.out.2.2⟩
  obtain ⟨ea2, ec2, hev2, -⟩ := S2.out.2.2.2.1
  obtain ⟨ma2, mc2, hmv2, -⟩ := S2.out.2.2.2.2
  rw [show xs2.length = en by rw [HN.out.1, (prsx_at hp).1]] at hev2
  rw [← HN.out.2] at hmv2
  obtain ⟨CQ, hCQ⟩ : ∃ C : Array Value, C = #[.int .i64 h.leap, .int .i64 h.ver, .int .i64 h.mode, .int .i64 h.str, .int .i64 h.poll, .int .i64 h.prec, .int .i64 h.del, .int .i64 h.dis, .int .u32 h.rid, .int .u64 h.t0, .int .u64 h.t1, .int .u64 h.t2, .int .u64 h.t3, .slice ea2 en ec2, .int .i64 key, .bool nak, .slice ma2 mn mc2] := ⟨_, rfl⟩
  have HCQ : Hid (CQ = #[.int .i64 h.leap, .int .i64 h.ver, .int .i64 h.mode, .int .i64 h.str, .int .i64 h.poll, .int .i64 h.prec, .int .i64 h.del, .int .i64 h.dis, .int .u32 h.rid, .int .u64 h.t0, .int .u64 h.t1, .int .u64 h.t2, .int .u64 h.t3, .slice ea2 en ec2, .int .i64 key, .bool nak, .slice ma2 mn mc2]) := hCQ
  have HQQ : Hid (pkV h ev2 key nak mv2 = .agg CQ) := by show _ = _; rw [hCQ, hev2, hmv2]; rfl
  have hSQ : CQ.size = 17 := by rw [hCQ]; rfl
  have K2 : Hid (Pb w.heap.size w2 CP ∧ Below w.heap.size w w2 ∧ Below w1.heap.size w1 w2) := ⟨K1.out.below hb K1.out.lt, B1.out.trans (hb.mono B1.out.size), hb⟩
  rw [hev2, hmv2]
  clear hCQ hev2 hmv2 hp hb hox hom hok2 HCo
  unfold pkV
  go_wp2_with (refine step_pk (by rfl) _ (by rfl) _ (by rfl) _ (by rfl) (Pb.new w2 _) ?_)
  rw [← HCQ.out]
  obtain ⟨W2, hW2⟩ : ∃ W, W = w2.alloc (.cells CQ 29) := ⟨_, rfl⟩
  obtain ⟨q, hq⟩ : ∃ q, q = w2.heap.size := ⟨_, rfl⟩
  have E2 : Hid (En w w2 W2 q CP CQ) := by
    have ha : Below w2.heap.size w2 W2 := by rw [hW2]; exact (Below.refl _ _).alloc (Nat.le_refl _) _
    exact ⟨K2.out.1.below ha K2.out.1.lt, by rw [hq, hW2]; exact Pb.new w2 _, ha, K2.out.2.1.trans (ha.mono K2.out.2.1.size)⟩
  try rw [← hq]
  rw [← hW2]
  have HB12 : Hid (w1.heap.size ≤ w2.heap.size) := K2.out.2.2.size
  have HD : Hid (w2.heap.size ≤ q) := by show _ ≤ _; rw [hq]; exact Nat.le_refl _
  have HEnQ : Hid (∀ W, En w w2 W q CP CQ → Calls Try.prog 8 #[.agg CQ] W fun e' w' => ∃ v, e' = .returned (.tuple #[v, .int .i64 E]) ∧ Below W.heap.size W w' ∧ Own w' W.heap.size v BB) := fun W e => by
    have := HEn.out w2.heap.size ev2 xs2 mv2 W e.b2.size S2.out.2.2.1 (S2.out.2.2.2.1.below e.b2 (Nat.le_refl _)) (S2.out.2.2.2.2.below e.b2 (Nat.le_refl _))
    rw [HQQ.out] at this
    exact this
  have HMeQ : Hid (∀ W, En w w2 W q CP CQ → Calls Try.prog 9 #[.agg CQ] W fun e' w' => ∃ v, e' = .returned (.tuple #[v, .int .i64 E]) ∧ Below W.heap.size W w' ∧ Own w' W.heap.size v MB) := fun W e => by
    have := HMe.out w2.heap.size ev2 xs2 mv2 W e.b2.size S2.out.2.2.1 (S2.out.2.2.2.1.below e.b2 (Nat.le_refl _)) (S2.out.2.2.2.2.below e.b2 (Nat.le_refl _))
    rw [HQQ.out] at this
    exact this
  have HReP : Hid (∀ W, En w w2 W q CP CQ → Calls Try.prog 10 #[.agg CP] W fun e' w' => ∃ v, e' = .returned (.tuple #[v, .int .i64 E]) ∧ Below W.heap.size W w' ∧ Own w' W.heap.size v BB) := fun W e => by
    have := HRe.out w.heap.size ev xs mv W e.bw.size rfl (H.out.below e.bw (Nat.le_refl _)) (HM.out.below e.bw (Nat.le_refl _))
    rw [HQP.out] at this
    exact this
  have HRmP : Hid (∀ W, En w w2 W q CP CQ → Calls Try.prog 11 #[.agg CP] W fun e' w' => ∃ v, e' = .returned (.tuple #[v, .int .i64 E]) ∧ Below W.heap.size W w' ∧ Own w' W.heap.size v MB) := fun W e => by
    have := HRm.out w.heap.size ev xs mv W e.bw.size rfl (H.out.below e.bw (Nat.le_refl _)) (HM.out.below e.bw (Nat.le_refl _))
    rw [HQP.out] at this
    exact this
  have HCkQ : Hid (∀ W, En w w2 W q CP CQ → Calls Try.prog 12 #[.agg CQ] W fun e' w' => e' = .returned (.int .i64 E) ∧ Below W.heap.size W w') := fun W e => by
    obtain ⟨ma0, mc0, hm0, -⟩ := S2.out.2.2.2.2
    have hlen : xs2.length ≤ 65536 := by rw [(prsx_at S2.out.2.2.1).1]; exact HV.out.1
    have hdat : ∀ x ∈ xs2, x.dat.length ≤ 65536 := fun x hx => by
      obtain ⟨i, hi, rfl⟩ := List.mem_iff_getElem.1 hx
      have hs := prsx_at S2.out.2.2.1
      rw [(hs.2 i hi (by omega)).2]
      exact HV.out.2.2 _ (List.getElem_mem _)
    have := check_any w2.heap.size h ev2 xs2 key nak ma0 mac.length mc0 W (S2.out.2.2.2.1.below e.b2 (Nat.le_refl _)) e.b2.size hlen hdat (by have := HV.out.2.1; omega)
    rw [← hm0, HQQ.out, ckE_prs h key nak mac.length S2.out.2.2.1, HE.out] at this
    exact this
  have HSm : Hid (∀ W, En w w2 W q CP CQ → Calls Try.prog 14 #[.agg CQ, .agg CP] W fun e' w' => e' = .returned (.bool true) ∧ Below W.heap.size W w') := fun W e => by
    have hN : w.heap.size ≤ w2.heap.size := K2.out.2.1.size
    have hlen : xs2.length ≤ 65536 := by rw [(prsx_at S2.out.2.2.1).1]; exact HV.out.1
    have := lsame_any w2.heap.size h ev2 ev xs2 xs key nak mv2 mv mac W (S2.out.2.2.2.1.below e.b2 (Nat.le_refl _)) ((H.out.below e.bw (Nat.le_refl _)).mono hN) (S2.out.2.2.2.2.below e.b2 (Nat.le_refl _)) ((HM.out.below e.bw (Nat.le_refl _)).mono hN) S2.out.2.2.1 e.b2.size hlen
    rw [HQQ.out, HQP.out] at this
    exact this
  have HSp : Hid (∀ W, En w w2 W q CP CQ → Calls Try.prog 15 #[.agg CQ] W fun e' w' => e' = .returned (.tuple #[]) ∧ Gap w1.heap.size w2.heap.size W w') := fun W e => by
    have hlen : xs2.length ≤ 65536 := by rw [(prsx_at S2.out.2.2.1).1]; exact HV.out.1
    have hdat : ∀ x ∈ xs2, x.dat.length ≤ 65536 := fun x hx => by
      obtain ⟨i, hi, rfl⟩ := List.mem_iff_getElem.1 hx
      have hs := prsx_at S2.out.2.2.1
      rw [(hs.2 i hi (by omega)).2]
      exact HV.out.2.2 _ (List.getElem_mem _)
    have := spoil_any w1.heap.size w2.heap.size h ev2 xs2 key nak mv2 mac.length W ((Ew.of S2.out.1).below e.b2) ((Dw.of S2.out.2.1).below e.b2) (fun x hx => (Dw.of (S2.out.1.dat x hx)).below e.b2) e.b2.size hlen hdat HV.out.2.1
    rw [HQQ.out] at this
    exact this
  clear hW2 hq K1 K2 HEn HMe HRe HRm
  refine (HEnQ.out _ E2.out).mono ?_
  rintro e' w3 ⟨bv, rfl, hb3, ho3⟩
  have E3 : Hid (En w w2 w3 q CP CQ) := E2.out.below hb3
  have O3 : Hid (Own w3 w2.heap.size bv BB) := ho3.mono E2.out.b2.size
  clear hb3 ho3
  go_wp2_with (refine step_pk (by rfl) _ (by rfl) _ (by rfl) _ (by exact hSQ) (E3.out.p2) ?_)
  refine (HMeQ.out _ E3.out).mono ?_
  rintro e' w4 ⟨mev, rfl, hb4, ho4⟩
  have E4 : Hid (En w w2 w4 q CP CQ) := E3.out.below hb4
  have O4 : Hid (Own w4 w2.heap.size bv BB ∧ Own w4 w2.heap.size mev MB) := ⟨O3.out.below hb4 (Nat.le_refl _), ho4.mono E3.out.b2.size⟩
  clear hb4 ho4
  go_wp2_with (refine step_pk (by rfl) _ (by rfl) _ (by rfl) _ (by exact hSP) (E4.out.p1) ?_)
  refine (HReP.out _ E4.out).mono ?_
  rintro e' w5 ⟨cv, rfl, hb5, ho5⟩
  have E5 : Hid (En w w2 w5 q CP CQ) := E4.out.below hb5
  have O5 : Hid (Own w5 w2.heap.size bv BB ∧ Own w5 w2.heap.size mev MB ∧ Own w5 w2.heap.size cv BB) := ⟨O4.out.1.below hb5 (Nat.le_refl _), O4.out.2.below hb5 (Nat.le_refl _), ho5.mono E4.out.b2.size⟩
  clear hb5 ho5
  go_wp2_with (refine step_pk (by rfl) _ (by rfl) _ (by rfl) _ (by exact hSP) (E5.out.p1) ?_)
  refine (HRmP.out _ E5.out).mono ?_
  rintro e' w6 ⟨nv, rfl, hb6, ho6⟩
  have E6 : Hid (En w w2 w6 q CP CQ) := E5.out.below hb6
  have O6 : Hid (Own w6 w2.heap.size bv BB ∧ Own w6 w2.heap.size mev MB ∧ Own w6 w2.heap.size cv BB ∧ Own w6 w2.heap.size nv MB) := ⟨O5.out.1.below hb6 (Nat.le_refl _), O5.out.2.1.below hb6 (Nat.le_refl _), O5.out.2.2.below hb6 (Nat.le_refl _), ho6.mono E5.out.b2.size⟩
  clear hb6 ho6 E2 E3 E4 E5 O3 O4 O5
  go_wp2_with (refine step_pk (by rfl) _ (by rfl) _ (by rfl) _ (by exact hSQ) (E6.out.p2) ?_)
  refine (HCkQ.out _ E6.out).mono ?_
  rintro e' w7 ⟨rfl, hb7⟩
  have E7 : Hid (En w w2 w7 q CP CQ) := E6.out.below hb7
  have O7 : Hid (Own w7 w2.heap.size bv BB ∧ Own w7 w2.heap.size mev MB ∧ Own w7 w2.heap.size cv BB ∧ Own w7 w2.heap.size nv MB) := ⟨O6.out.1.below hb7 (Nat.le_refl _), O6.out.2.1.below hb7 (Nat.le_refl _), O6.out.2.2.1.below hb7 (Nat.le_refl _), O6.out.2.2.2.below hb7 (Nat.le_refl _)⟩
  have HB1 : Hid (Calls Try.prog 13 #[bv, cv] w7 fun e w' => e = .returned (.bool true) ∧ w' = w7) := lbytes_eq _ _ _ _ BB w7 (O7.out.1.sv HOK.out.1) (O7.out.2.2.1.sv HOK.out.1)
  have HB2 : Hid (Calls Try.prog 13 #[mev, nv] w7 fun e w' => e = .returned (.bool true) ∧ w' = w7) := lbytes_eq _ _ _ _ MB w7 (O7.out.2.1.sv HOK.out.2.1) (O7.out.2.2.2.sv HOK.out.2.1)
  clear hb7 E6 O6
  go_wp2_with fail
  refine HB1.out.mono ?_
  rintro e' w9 ⟨rfl, hw9⟩
  rw [hw9]
  clear hw9
  go_wp2_with fail
  refine HB2.out.mono ?_
  rintro e' w9 ⟨rfl, hw9⟩
  rw [hw9]
  clear hw9 HB1 HB2
  go_wp2_with (first | (refine step_pk (by rfl) _ (by rfl) _ (by rfl) _ (by exact hSQ) (E7.out.p2) ?_) | (refine step_pk (by rfl) _ (by rfl) _ (by rfl) _ (by exact hSP) (E7.out.p1) ?_))
  refine (HSm.out _ E7.out).mono ?_
  rintro e' w8 ⟨rfl, hb8⟩
  have E8 : Hid (En w w2 w8 q CP CQ) := E7.out.below hb8
  have O8 : Hid (Own w8 w2.heap.size bv BB ∧ Own w8 w2.heap.size mev MB ∧ Own w8 w2.heap.size cv BB ∧ Own w8 w2.heap.size nv MB) := ⟨O7.out.1.below hb8 (Nat.le_refl _), O7.out.2.1.below hb8 (Nat.le_refl _), O7.out.2.2.1.below hb8 (Nat.le_refl _), O7.out.2.2.2.below hb8 (Nat.le_refl _)⟩
  clear hb8 E7 O7
  go_wp2_with (refine step_pk (by rfl) _ (by rfl) _ (by rfl) _ (by exact hSQ) (E8.out.p2) ?_)
  refine (HSp.out _ E8.out).mono ?_
  rintro e' w9 ⟨rfl, hg⟩
  have HB1 : Hid (Calls Try.prog 13 #[bv, cv] w9 fun e w' => e = .returned (.bool true) ∧ w' = w9) := lbytes_eq _ _ _ _ BB w9 ((hg.own O8.out.1).sv HOK.out.1) ((hg.own O8.out.2.2.1).sv HOK.out.1)
  have HB2 : Hid (Calls Try.prog 13 #[mev, nv] w9 fun e w' => e = .returned (.bool true) ∧ w' = w9) := lbytes_eq _ _ _ _ MB w9 ((hg.own O8.out.2.1).sv HOK.out.2.1) ((hg.own O8.out.2.2.2).sv HOK.out.2.1)
  have BE : Hid (Below w.heap.size w w9) := E8.out.bw.trans ((hg.below (by have := E8.out.b2.size; have := HB12.out; omega)).mono B1.out.size)
  clear hg E8 O8
  go_wp2_with fail
  refine HB1.out.mono ?_
  rintro e' w10 ⟨rfl, hw9⟩
  rw [hw9]
  clear hw9
  go_wp2_with fail
  refine HB2.out.mono ?_
  rintro e' w10 ⟨rfl, hw9⟩
  rw [hw9]
  clear hw9 HB1 HB2
  go_wp2_with fail
  go_ret
  exact ⟨rfl, BE.out⟩
theorem WireEncodes_row (h : Hd) (ev : Value) (key : Int) (nak : Bool) (mv : Value) (xs : List Xt) (mac : List Int) (w : World) (he : Es w.heap.size w ev xs) (hm : Sv w.heap.size w mv mac) (_l0 : xs.length ≤ maxLen) (l1 : ∀ x ∈ xs, x.dat.length ≤ maxLen) (l2 : mac.length ≤ maxLen) (r0 : 0 ≤ h.rid) (r1 : h.rid < 4294967296) (_t0 : 0 ≤ h.t3) (_t1 : h.t3 < 18446744073709551616) (hk : xs.length * 32 ≤ 140737488351232) :
    Calls Try.prog 3 #[pkV h ev key nak mv] w fun e' w' => e' = .returned (.bool true) ∧ Below w.heap.size w w' := by
  have hM : maxLen = 9223372036854775807 := by decide
  have a1 : (xs.length : Int) ≤ 140737488355328 := by omega
  exact encodes_main h ev xs key nak mv mac w he hm a1 (fun x hx => by have := l1 x hx; omega) (by omega) r0 r1
end Go.Proofs.Ytdobghhjlfffpaa
