/- The law WireDecodes. -/
import Derived.Test.YtdobghhjlfffpaaZCa
import Derived.Test.YtdobghhjlfffpaaYJ
import Derived.Test.YtdobghhjlfffpaaZA
namespace Go.Proofs.Ytdobghhjlfffpaa
open Go.RowKit
set_option linter.unusedVariables false
theorem own_row {w : World} {B : Nat} {v : Value} {bs : List Int} (h : Own w B v bs) (h0 : bs ≠ []) : ∃ g cap cur, v = .slice (some ⟨g, 0, none⟩) bs.length cap ∧ B ≤ g ∧ Bk g w cur 5 ∧ bs.length ≤ cap ∧ cap ≤ maxLen ∧ cur.size = cap ∧ (∀ k, k < bs.length → cur[k]? = some (.int .u8 (bs.getD k 0))) := by
  obtain ⟨hl, h | ⟨g, cap, cur, rfl, h1, h2, h3, h4, h5, h6⟩⟩ := h
  · exact absurd (by have := h.2; unfold U at this; simpa using this) h0
  · refine ⟨g, cap, cur, rfl, h1, h2, h3, h4, by omega, fun k hk => ?_⟩
    have e := congrArg (fun l => l[k]?) h6
    have hk2 : k < bs.length * 1 := by omega
    simp only [List.getElem?_take, hk2, if_true, Array.getElem?_toList] at e
    rw [e]
    unfold U
    rw [List.getElem?_map, List.getElem?_eq_getElem hk, List.getD_eq_getElem?_getD, List.getElem?_eq_getElem hk]
    rfl
theorem dec_ok {bs : List Int} {h : Hd} {ev mv : Value} {xs : List Xt} {key : Int} {nak : Bool} {mac : List Int} (ho : okb bs) (hdv : dcE bs = 0 → dcV bs h xs key nak mac) (hz : dcE bs ≠ 0 → h = ⟨0, 0, 0, 0, 0, 0, 0, 0, 0, 0, 0, 0, 0⟩ ∧ ev = .slice none 0 0 ∧ key = 0 ∧ nak = false ∧ mv = .slice none 0 0 ∧ xs = [] ∧ mac = []) : (∀ x ∈ xs, okb x.dat) ∧ okb mac ∧ xs.length ≤ 65536 := by
  by_cases hE : dcE bs = 0
  · have F4 := dc_fwd ho hE (hdv hE)
    exact ⟨fun y hy => (F4.2.2.2.2.2.2.2.1 y hy).1, F4.2.2.2.2.2.2.2.2.1, by have := F4.2.2.2.2.2.2.2.2.2.1; omega⟩
  · obtain ⟨-, -, -, -, -, rfl, rfl⟩ := hz hE
    exact ⟨fun y hy => (by cases hy), fun b hb => (by cases hb), Nat.zero_le _⟩
theorem dec_same {bs : List Int} {h h' : Hd} {ev ev' mv mv' : Value} {xs xs' : List Xt} {key key' : Int} {nak nak' : Bool} {mac mac' : List Int} (hdv : dcE bs = 0 → dcV bs h xs key nak mac) (hz : dcE bs ≠ 0 → h = ⟨0, 0, 0, 0, 0, 0, 0, 0, 0, 0, 0, 0, 0⟩ ∧ ev = .slice none 0 0 ∧ key = 0 ∧ nak = false ∧ mv = .slice none 0 0 ∧ xs = [] ∧ mac = []) (hdv' : dcE bs = 0 → dcV bs h' xs' key' nak' mac') (hz' : dcE bs ≠ 0 → h' = ⟨0, 0, 0, 0, 0, 0, 0, 0, 0, 0, 0, 0, 0⟩ ∧ ev' = .slice none 0 0 ∧ key' = 0 ∧ nak' = false ∧ mv' = .slice none 0 0 ∧ xs' = [] ∧ mac' = []) : h' = h ∧ prsx xs = prsx xs' ∧ key' = key ∧ nak' = nak ∧ mac' = mac := by
  by_cases hE : dcE bs = 0
  · obtain ⟨a1, a2, a3, a4, a5⟩ := hdv hE
    obtain ⟨b1, b2, b3, b4, b5⟩ := hdv' hE
    exact ⟨b1.trans a1.symm, a2.trans b2.symm, b3.trans a3.symm, b5.trans a5.symm, b4.trans a4.symm⟩
  · obtain ⟨a1, -, a3, a4, -, a6, a7⟩ := hz hE
    obtain ⟨b1, -, b3, b4, -, b6, b7⟩ := hz' hE
    exact ⟨b1.trans a1.symm, by rw [a6, b6], b3.trans a3.symm, b4.trans a4.symm, b7.trans a7.symm⟩
set_option maxHeartbeats 400000 in
theorem lmode_any (N : Nat) (ao : Option Addr) (L cap : Nat) (bs : List Int) (w0 : World) (h : Sv N w0 (.slice ao L cap) bs) : ∃ M : Int, ∀ w, Below N w0 w → Calls Try.prog 19 #[.slice ao L cap] w (fun e w' => e = .returned (.int .i64 M) ∧ w' = w) ∧ Calls Try.prog 20 #[.slice ao L cap] w (fun e w' => e = .returned (.int .i64 M) ∧ w' = w) := by
  have hL : L = bs.length := by obtain ⟨_, _, hv, _⟩ := h; injection hv
  by_cases h0 : bs.length = 0
  · rw [h0] at hL
    subst hL
    refine ⟨0, fun w _ => ⟨?_, ?_⟩⟩
    · go_enter Try.func19, Try.ntmps19
      go_wp2
      go_ret
      exact ⟨rfl, rfl⟩
    · go_enter Try.func20, Try.ntmps20
      go_wp2
      go_ret
      exact ⟨rfl, rfl⟩
  · have H : Hid (Sv N w0 (.slice ao L cap) bs) := h
    refine ⟨bs.getD 0 0 % 8, fun w hb => ⟨mode_any N _ bs w (h.below hb (Nat.le_refl _)) (by omega), ?_⟩⟩
    obtain ⟨ao', cap', hv, h1, h2, h3, h4⟩ := h
    injection hv with p1 p2 p3
    subst p1 p3
    obtain ⟨ad, g1, g2⟩ := (h3.below hb (Nat.le_refl _)).at 0 (by omega)
    obtain ⟨y0, y1⟩ := okb_at h4 0
    have hix : ∀ w, Sem.run Try.prog (Instr.indexAt 27 (.slice ao L cap) (.int .i64 0)) w = .ok (.pointer (some (ad.add 0))) w := idx_run L cap 0 g1.out (by omega)
    obtain ⟨x, hx⟩ : ∃ x, x = bs.getD 0 0 := ⟨_, rfl⟩
    rw [← hx] at g2 y0 y1 ⊢
    obtain ⟨a, ha⟩ : ∃ a, a = ad.add 0 := ⟨_, rfl⟩
    rw [← ha] at hix g2
    have e1 : x.tmod 8 = x % 8 := Int.tmod_eq_emod_of_nonneg y0
    obtain ⟨M, hM⟩ : ∃ M, M = x % 8 := ⟨_, rfl⟩
    have m0 : 0 ≤ M := by omega
    have m1 : M < 8 := by omega
    have w1 : IntKind.i64.wrap M = M := by rw [IntKind.wrap_i64]; omega
    rw [← hM] at e1 ⊢
    have l0 : (0 : Int) < L := by omega
    have lb : ((L : Int) == 0) = false := by rw [beq_eq_false_iff_ne]; omega
    clear ha hx hM g1 h1 h2 h3 h4 h0 hL y1 p2
    go_enter Try.func20, Try.ntmps20
    go_wp2
    go_ret
    exact ⟨rfl, rfl⟩
/-- what the loop leaves as it is -/
structure Kp (w wr : World) (g p q B : Nat) (C1 C2 : Array Value) (cap : Nat) (ev1 ev2 mv1 mv2 : Value) (xs1 xs2 : List Xt) (mac : List Int) : Prop where
  row : ∃ cur, Bk g wr cur 5 ∧ cur.size = cap
  p1 : Pb p wr C1
  p2 : Pb q wr C2
  o1 : OX wr B ev1 xs1
  o2 : OX wr B ev2 xs2
  m1 : Own wr B mv1 mac
  m2 : Own wr B mv2 mac
  bl : Below w.heap.size w wr
theorem Kp.set {w wr : World} {g p q B : Nat} {C1 C2 : Array Value} {cap : Nat} {ev1 ev2 mv1 mv2 : Value} {xs1 xs2 : List Xt} {mac : List Int} (h : Kp w wr g p q B C1 C2 cap ev1 ev2 mv1 mv2 xs1 xs2 mac) (hg : g < B) (hw : w.heap.size ≤ g) (hp : p ≠ g) (hq : q ≠ g) (j : Nat) (x : Value) : Kp w (wr.setCell ⟨g, j, none⟩ x) g p q B C1 C2 cap ev1 ev2 mv1 mv2 xs1 xs2 mac := by
  obtain ⟨⟨cur, h1, h2⟩, h3, h4, h5, h6, h7, h8, h9⟩ := h
  exact ⟨⟨_, h1.set x, by simp [h2]⟩, Bk.far (T := 29) h3 hp x, Bk.far (T := 29) h4 hq x, h5.low hg, h6.low hg, h7.low hg, h8.low hg, h9.setCell (p := ⟨g, j, none⟩) hw _⟩
set_option maxRecDepth 20000 in
set_option maxHeartbeats 8000000 in
theorem decodes_main (v : Value) (bs : List Int) (w : World) (h : Sv w.heap.size w v bs) (hl : bs.length ≤ 1048576) :
    Calls Try.prog 4 #[v] w fun e' w' => e' = .returned (.bool true) ∧ Below w.heap.size w w' := by
  have H : Hid (Sv w.heap.size w v bs) := h
  have hok : okb bs := by obtain ⟨_, _, _, _, _, _, q⟩ := h; exact q
  have HOK : Hid (okb bs ∧ okb (bs ++ [115, 116])) := ⟨hok, fun b hb => by rw [List.mem_append] at hb; rcases hb with hb | hb; exact hok b hb; simp at hb; omega⟩
  obtain ⟨ao, cap0, rfl, -⟩ := h
  obtain ⟨L, hL⟩ : ∃ L, L = bs.length := ⟨_, rfl⟩
  have HL : Hid (L = bs.length) := hL
  rw [← hL] at H ⊢
  obtain ⟨LI, hLI⟩ : ∃ x : Int, (L : Int) = x := ⟨_, rfl⟩
  have HLI : Hid ((L : Int) = LI) := hLI
  have hLi : LI ≤ 1048576 := by omega
  have hL0 : 0 ≤ LI := by omega
  obtain ⟨M, hM⟩ := lmode_any w.heap.size ao L cap0 bs w H.out
  have HM : Hid _ := hM
  have HR : Hid (∀ v, Below w.heap.size w v → w.heap.size ≤ v.heap.size → Calls Try.prog 18 #[.slice ao L cap0] v fun e' w' => DcR bs v e' w') := fun v hb hs => rdecode_any _ bs v ((H.out.below hb (Nat.le_refl _)).mono hs)
  obtain ⟨E, hE⟩ : ∃ E, E = dcE bs := ⟨_, rfl⟩
  have HE : Hid (dcE bs = E) := hE.symm
  clear hL hl hok hM hE
  go_enter Try.func4, Try.ntmps4
  go_wp2_with fail
  refine (lent_any w.heap.size _ bs _ (by have := HL.out; have := HLI.out; omega) H.out (Nat.le_refl _)).mono ?_
  rintro e' w1 ⟨xv, rfl, hb1, ho1⟩
  have SX : Sv w1.heap.size w1 xv (bs ++ [115, 116]) := ho1.sv HOK.out.2
  obtain ⟨g, cap, cur, hxv, hwg, hbk, hlc, hcm, hcs, hcu⟩ := own_row ho1 (by simp)
  obtain ⟨LX, hLX⟩ : ∃ n, n = (bs ++ [115, 116]).length := ⟨_, rfl⟩
  rw [← hLX] at hxv hlc
  subst hxv
  have hLX2 : LX = L + 2 := by rw [hLX, HL.out]; simp
  have lx : (LX : Int) = LI + 2 := by have := HLI.out; omega
  have hcapI : LI + 2 ≤ (cap : Int) := by omega
  obtain ⟨s, rs, qs⟩ := sub_take SX L LI HLI.out (by rw [List.length_append]; have := HL.out; omega)
  have e9 : (bs ++ [115, 116]).take L = bs := by rw [HL.out]; simp
  rw [e9] at qs
  have KB : Hid (Below w.heap.size w w1 ∧ w.heap.size ≤ g ∧ g < w1.heap.size ∧ Bk g w1 cur 5 ∧ cur.size = cap ∧ LX = L + 2 ∧ LX ≤ cap ∧ cur[L]? = some (.int .u8 115) ∧ cur[L + 1]? = some (.int .u8 116) ∧ Sv w1.heap.size w1 s bs) := by
    refine ⟨hb1, hwg, hbk.lt, hbk, hcs, hLX2, hlc, ?_, ?_, qs⟩
    · rw [hcu L (by simp; have := HL.out; omega), HL.out]; simp
    · rw [hcu (L + 1) (by simp; have := HL.out; omega), HL.out]; simp
  clear hb1 ho1 SX hwg hbk hlc hcm hcs hcu hLX qs hLX2
  go_wp2_with fail
  refine (decode_any s bs _ (by have := HL.out; have := HLI.out; omega) KB.out.2.2.2.2.2.2.2.2.2).mono ?_
  rintro e' w2 ⟨h1, ev1, xs1, key1, nak1, mv1, mac1, rfl, hb2, hox1, hom1, hdv1, hz1⟩
  rw [HE.out]
  have HV1 : Hid _ := And.intro hdv1 hz1
  have ok1 := dec_ok HOK.out.1 hdv1 hz1
  have HK1 : Hid _ := ok1
  obtain ⟨ea1, ec1, hev1, -⟩ := hox1.es ok1.1
  obtain ⟨ma1, mc1, hmv1, -⟩ := hom1.sv ok1.2.1
  have HO1 : Hid (OX w2 w1.heap.size ev1 xs1 ∧ Own w2 w1.heap.size mv1 mac1 ∧ Below w1.heap.size w1 w2) := ⟨hox1, hom1, hb2⟩
  obtain ⟨en1, hen1⟩ : ∃ n, n = xs1.length := ⟨_, rfl⟩
  obtain ⟨mn1, hmn1⟩ : ∃ n, n = mac1.length := ⟨_, rfl⟩
  rw [← hen1] at hev1
  rw [← hmn1] at hmv1
  have HN1 : Hid (en1 = xs1.length ∧ mn1 = mac1.length) := ⟨hen1, hmn1⟩
  have hP1 : pkV h1 ev1 key1 nak1 mv1 = .agg #[.int .i64 h1.leap, .int .i64 h1.ver, .int .i64 h1.mode, .int .i64 h1.str, .int .i64 h1.poll, .int .i64 h1.prec, .int .i64 h1.del, .int .i64 h1.dis, .int .u32 h1.rid, .int .u64 h1.t0, .int .u64 h1.t1, .int .u64 h1.t2, .int .u64 h1.t3, .slice ea1 en1 ec1, .int .i64 key1, .bool nak1, .slice ma1 mn1 mc1] := by rw [hev1, hmv1]; rfl
  have HP1 : Hid (ev1 = .slice ea1 en1 ec1 ∧ mv1 = .slice ma1 mn1 mc1) := ⟨hev1, hmv1⟩
  rw [hP1]
  obtain ⟨C1, hC1⟩ : ∃ C : Array Value, C = #[.int .i64 h1.leap, .int .i64 h1.ver, .int .i64 h1.mode, .int .i64 h1.str, .int .i64 h1.poll, .int .i64 h1.prec, .int .i64 h1.del, .int .i64 h1.dis, .int .u32 h1.rid, .int .u64 h1.t0, .int .u64 h1.t1, .int .u64 h1.t2, .int .u64 h1.t3, .slice ea1 en1 ec1, .int .i64 key1, .bool nak1, .slice ma1 mn1 mc1] := ⟨_, rfl⟩
  have hS1 : C1.size = 17 := by rw [hC1]; rfl
  have HC1 : Hid (C1 = #[.int .i64 h1.leap, .int .i64 h1.ver, .int .i64 h1.mode, .int .i64 h1.str, .int .i64 h1.poll, .int .i64 h1.prec, .int .i64 h1.del, .int .i64 h1.dis, .int .u32 h1.rid, .int .u64 h1.t0, .int .u64 h1.t1, .int .u64 h1.t2, .int .u64 h1.t3, .slice ea1 en1 ec1, .int .i64 key1, .bool nak1, .slice ma1 mn1 mc1]) := hC1
  have HQ1 : Hid (pkV h1 ev1 key1 nak1 mv1 = .agg C1) := by show _ = _; rw [hP1, hC1]
  clear hb2 hox1 hom1 hdv1 hz1 ok1 hev1 hmv1 hen1 hmn1 hP1 hC1
  have B2 : Hid (Below w.heap.size w w2) := KB.out.1.trans (HO1.out.2.2.mono KB.out.1.size)
  have sz2 : w.heap.size ≤ w2.heap.size := B2.out.size
  go_wp2_with fail
  rw [← HC1.out]
  refine (HR.out _ (by repeat' (first | with_reducible exact Below.refl _ _ | with_reducible exact B2.out | with_reducible refine Below.setCell ?_ (by first | (simp; done) | (simp; omega) | omega) _ | with_reducible refine below_drewN ?_ _ | with_reducible refine Below.drew ?_ | with_reducible refine Below.alloc ?_ (by first | (simp; done) | (simp; omega) | omega) _)) (by have := B2.out.size; simp; omega)).mono ?_
  rintro e' w3 ⟨h2, ev2, xs2, key2, nak2, mv2, mac2, rfl, hb3, hox2, hom2, hdv2, hz2⟩
  rw [HE.out]
  have ok2 := dec_ok HOK.out.1 hdv2 hz2
  obtain ⟨rfl, hpp, rfl, rfl, rfl⟩ := dec_same HV1.out.1 HV1.out.2 hdv2 hz2
  have HPP : Hid (prsx xs1 = prsx xs2) := hpp
  have hb3' : Below w2.heap.size (w2.alloc (.cells C1 29)) w3 := hb3.mono (by simp)
  have B3 : Hid (Below w.heap.size w w3 ∧ Below w2.heap.size w2 w3) := ⟨Below.trans (by repeat' (first | with_reducible exact Below.refl _ _ | with_reducible exact B2.out | with_reducible refine Below.setCell ?_ (by first | (simp; done) | (simp; omega) | omega) _ | with_reducible refine below_drewN ?_ _ | with_reducible refine Below.drew ?_ | with_reducible refine Below.alloc ?_ (by first | (simp; done) | (simp; omega) | omega) _)) (hb3.mono (by have := B2.out.size; simp; omega)), Below.trans (by repeat' (first | with_reducible exact Below.refl _ _ | with_reducible refine Below.setCell ?_ (by first | (simp; done) | (simp; omega) | omega) _ | with_reducible refine below_drewN ?_ _ | with_reducible refine Below.drew ?_ | with_reducible refine Below.alloc ?_ (by first | (simp; done) | (simp; omega) | omega) _)) hb3'⟩
  have K3 : Hid (Pb w2.heap.size w3 C1) := (Pb.new w2 _).below hb3 (by simp)
  have HO2 : Hid (OX w3 w1.heap.size ev2 xs2 ∧ Own w3 w1.heap.size mv2 mac2) := ⟨hox2.mono (by have := HO1.out.2.2.size; simp; omega), hom2.mono (by have := HO1.out.2.2.size; simp; omega)⟩
  obtain ⟨ea2, ec2, hev2, -⟩ := hox2.es ok2.1
  obtain ⟨ma2, mc2, hmv2, -⟩ := hom2.sv ok2.2.1
  rw [show xs2.length = en1 by rw [HN1.out.1, (prsx_at hpp).1]] at hev2
  rw [← HN1.out.2] at hmv2
  have HK2 : Hid _ := ok2
  have hP2 : pkV h2 ev2 key2 nak2 mv2 = .agg #[.int .i64 h2.leap, .int .i64 h2.ver, .int .i64 h2.mode, .int .i64 h2.str, .int .i64 h2.poll, .int .i64 h2.prec, .int .i64 h2.del, .int .i64 h2.dis, .int .u32 h2.rid, .int .u64 h2.t0, .int .u64 h2.t1, .int .u64 h2.t2, .int .u64 h2.t3, .slice ea2 en1 ec2, .int .i64 key2, .bool nak2, .slice ma2 mn1 mc2] := by rw [hev2, hmv2]; rfl
  rw [hP2]
  obtain ⟨C2, hC2⟩ : ∃ C : Array Value, C = #[.int .i64 h2.leap, .int .i64 h2.ver, .int .i64 h2.mode, .int .i64 h2.str, .int .i64 h2.poll, .int .i64 h2.prec, .int .i64 h2.del, .int .i64 h2.dis, .int .u32 h2.rid, .int .u64 h2.t0, .int .u64 h2.t1, .int .u64 h2.t2, .int .u64 h2.t3, .slice ea2 en1 ec2, .int .i64 key2, .bool nak2, .slice ma2 mn1 mc2] := ⟨_, rfl⟩
  have hS2 : C2.size = 17 := by rw [hC2]; rfl
  have HC2 : Hid (C2 = #[.int .i64 h2.leap, .int .i64 h2.ver, .int .i64 h2.mode, .int .i64 h2.str, .int .i64 h2.poll, .int .i64 h2.prec, .int .i64 h2.del, .int .i64 h2.dis, .int .u32 h2.rid, .int .u64 h2.t0, .int .u64 h2.t1, .int .u64 h2.t2, .int .u64 h2.t3, .slice ea2 en1 ec2, .int .i64 key2, .bool nak2, .slice ma2 mn1 mc2]) := hC2
  have HQ2 : Hid (pkV h2 ev2 key2 nak2 mv2 = .agg C2) := by show _ = _; rw [hP2, hC2]
  clear hb3 hb3' hox2 hom2 hdv2 hz2 ok2 hev2 hmv2 hP2 hC2 hpp HR HV1
  -- both packets stay as long as what they reach does
  have HS : Hid (∀ u, OX u w1.heap.size ev1 xs1 → Own u w1.heap.size mv1 mac2 → OX u w1.heap.size ev2 xs2 → Own u w1.heap.size mv2 mac2 → Calls Try.prog 14 #[.agg C1, .agg C2] u fun e w' => e = .returned (.bool true) ∧ Below u.heap.size u w') := fun u o1 m1 o2 m2 => by
    have := lsame_any u.heap.size h2 ev1 ev2 xs1 xs2 key2 nak2 mv1 mv2 mac2 u (o1.es HK1.out.1) (o2.es HK2.out.1) (m1.sv HK2.out.2.1) (m2.sv HK2.out.2.1) HPP.out (Nat.le_refl _) HK1.out.2.2
    rw [HQ1.out, HQ2.out] at this
    exact this
  have hS12 : C1.size = 17 ∧ C2.size = 17 := ⟨hS1, hS2⟩
  go_wp2_with (first | (refine step_pk (by rfl) _ (by rfl) _ (by rfl) _ (by first | rfl | exact hS1) (K3.out.below ((Below.refl w3.heap.size w3).alloc (Nat.le_refl _) _) K3.out.lt) ?_) | (refine step_pk (by rfl) _ (by rfl) _ (by rfl) _ (by first | rfl | exact hS2) (Pb.new w3 _) ?_))
  rw [← HC2.out]
  obtain ⟨q, hq⟩ : ∃ q, q = w3.heap.size := ⟨_, rfl⟩
  obtain ⟨p, hp⟩ : ∃ p, p = w2.heap.size := ⟨_, rfl⟩
  obtain ⟨W3, hW3⟩ : ∃ W, W = w3.alloc (.cells C2 29) := ⟨_, rfl⟩
  have KP : Hid (Kp w W3 g p q w1.heap.size C1 C2 cap ev1 ev2 mv1 mv2 xs1 xs2 mac2 ∧ Below w1.heap.size w1 W3) := by
    have hb : Below w2.heap.size w2 W3 := by rw [hW3]; exact B3.out.2.alloc B3.out.2.size _
    have hb1 : Below w1.heap.size w1 W3 := HO1.out.2.2.trans (hb.mono HO1.out.2.2.size)
    have ha : Below w3.heap.size w3 W3 := by rw [hW3]; exact (Below.refl _ _).alloc (Nat.le_refl _) _
    refine ⟨⟨⟨cur, KB.out.2.2.2.1.below hb1 KB.out.2.2.1, KB.out.2.2.2.2.1⟩, ?_, ?_, HO1.out.1.below hb (Nat.le_refl _), HO2.out.1.below ha (Nat.le_refl _), HO1.out.2.1.below hb (Nat.le_refl _), HO2.out.2.below ha (Nat.le_refl _), KB.out.1.trans (hb1.mono KB.out.1.size)⟩, hb1⟩
    · rw [hp]; exact K3.out.below ha K3.out.lt
    · rw [hq, hW3]; exact Pb.new w3 _
  have HPQ : Hid (g < w1.heap.size ∧ w.heap.size ≤ g ∧ p ≠ g ∧ q ≠ g) := ⟨KB.out.2.2.1, KB.out.2.1, by have h1 := KB.out.2.2.1; have h2 := HO1.out.2.2.size; omega, by have h1 := KB.out.2.2.1; have h2 := HO1.out.2.2.size; have h3 := B3.out.2.size; omega⟩
  try rw [← hp]
  try rw [← hq]
  rw [← hW3]
  clear hW3 hp hq K3 B3 HO1 HO2 B2
  refine (HS.out _ KP.out.1.o1 KP.out.1.m1 KP.out.1.o2 KP.out.1.m2).mono ?_
  rintro e' w4 ⟨rfl, hb4⟩
  have KP4 : Hid (Kp w w4 g p q w1.heap.size C1 C2 cap ev1 ev2 mv1 mv2 xs1 xs2 mac2 ∧ Below w1.heap.size w1 w4) := by
    have hs := KP.out.2.size
    refine ⟨⟨?_, KP.out.1.p1.below hb4 KP.out.1.p1.lt, KP.out.1.p2.below hb4 KP.out.1.p2.lt, KP.out.1.o1.below hb4 (Nat.le_refl _), KP.out.1.o2.below hb4 (Nat.le_refl _), KP.out.1.m1.below hb4 (Nat.le_refl _), KP.out.1.m2.below hb4 (Nat.le_refl _), KP.out.1.bl.trans (hb4.mono KP.out.1.bl.size)⟩, KP.out.2.trans (hb4.mono hs)⟩
    obtain ⟨cur, h1, h2⟩ := KP.out.1.row
    exact ⟨cur, h1.below hb4 h1.lt, h2⟩
  clear hb4 KP
  have HI : Hid (∀ (k : Nat) (KI : Int), KI = (k : Int) → k < LX → ∀ u, Sem.run Try.prog (Instr.indexAt 27 (.slice (some ⟨g, 0, none⟩) LX cap) (.int .i64 KI)) u = .ok (.pointer (some ⟨g, k, none⟩)) u) := fun k KI e hk u => by
    have := idx_run (ao := some ⟨g, 0, none⟩) LX cap k rfl (by omega) u
    rw [e, this, add_own]
  obtain ⟨L1, hL1⟩ : ∃ x : Int, x = LI + 1 := ⟨_, rfl⟩
  have e1 : IntKind.i64.wrap (LI + 1) = L1 := by rw [hL1, IntKind.wrap_i64]; omega
  have i0 := HI.out L LI HLI.out.symm (by have := KB.out.2.2.2.2.2.1; omega)
  have i1 := HI.out (L + 1) L1 (by rw [hL1]; have := HLI.out; omega) (by have := KB.out.2.2.2.2.2.1; omega)
  have j0 : w4.cell? ⟨g, L, none⟩ = some (.int .u8 115) := by rw [(KB.out.2.2.2.1.below KP4.out.2 KB.out.2.2.1).cell L]; exact KB.out.2.2.2.2.2.2.2.1
  have j1 : w4.cell? ⟨g, L + 1, none⟩ = some (.int .u8 116) := by rw [(KB.out.2.2.2.1.below KP4.out.2 KB.out.2.2.1).cell (L + 1)]; exact KB.out.2.2.2.2.2.2.2.2.1
  have hL10 : 0 ≤ L1 := by omega
  have hL11 : L1 < LI + 2 := by omega
  have HBy : Hid (Calls Try.prog 13 #[s, .slice ao L cap0] w4 fun e w' => e = .returned (.bool true) ∧ w' = w4) := lbytes_eq w1.heap.size w.heap.size _ _ bs w4 (KB.out.2.2.2.2.2.2.2.2.2.below KP4.out.2 (Nat.le_refl _)) (H.out.below KP4.out.1.bl (Nat.le_refl _))
  clear hL1
  go_wp2_with (first
    | (go_at_call 19; refine ((HM.out _ KP4.out.1.bl).1).mono ?_; rintro e' w9 ⟨rfl, hw9⟩; rw [hw9]; clear hw9)
    | (go_at_call 20; refine ((HM.out _ KP4.out.1.bl).2).mono ?_; rintro e' w9 ⟨rfl, hw9⟩; rw [hw9]; clear hw9)
    | (go_at_call 13; refine HBy.out.mono ?_; rintro e' w9 ⟨rfl, hw9⟩; rw [hw9]; clear hw9))
  clear i0 i1 j0 j1
  go_loopw [8] (fun i wr => ∃ (k : Nat) (KI : Int), i = .int .i64 KI ∧ 0 ≤ KI ∧ KI ≤ LI + 2 ∧ Hid (KI = (k : Int) ∧ Kp w wr g p q w1.heap.size C1 C2 cap ev1 ev2 mv1 mv2 xs1 xs2 mac2)) (fun i _ => (LI + 2 - intOf i).toNat)
  case atStart => exact ⟨0, 0, rfl, by omega, by omega, rfl, KP4.out.1⟩
  case round =>
    obtain ⟨k, KI, rfl, k0, k1, hK⟩ := hrel
    clear KP4 HBy HM
    by_cases hlt : KI < LI + 2
    · have hkn : k < LX := by have := hK.out.1; have := KB.out.2.2.2.2.2.1; have := HLI.out; omega
      have ik := HI.out k KI hK.out.1 hkn
      obtain ⟨cu, h1, h2⟩ := hK.out.2.row
      have jk := h1.cell k
      rw [Array.getElem?_eq_getElem (show k < cu.size by have := KB.out.2.2.2.2.2.2.1; omega)] at jk
      have fk := h1.frozen k
      obtain ⟨yk, hyk⟩ : ∃ y, y = cu[k]'(show k < cu.size by have := KB.out.2.2.2.2.2.2.1; omega) := ⟨_, rfl⟩
      rw [← hyk] at jk
      clear hyk h1 h2 hkn
      go_wp2_with fail
      exact ⟨⟨k + 1, KI + 1, rfl, by omega, by omega, by have := hK.out.1; omega, hK.out.2.set HPQ.out.1 HPQ.out.2.1 HPQ.out.2.2.1 HPQ.out.2.2.2 k _⟩, by simp [intOf]; omega⟩
    · have KE : Hid (Kp w wr g p q w1.heap.size C1 C2 cap ev1 ev2 mv1 mv2 xs1 xs2 mac2) := hK.out.2
      clear hK
      go_wp2_with (first | (refine step_pk (by rfl) _ (by rfl) _ (by rfl) _ (by exact hS12.1) (KE.out.p1) ?_) | (refine step_pk (by rfl) _ (by rfl) _ (by rfl) _ (by exact hS12.2) (KE.out.p2) ?_))
      refine (HS.out _ KE.out.o1 KE.out.m1 KE.out.o2 KE.out.m2).mono ?_
      rintro e' w5 ⟨rfl, hb5⟩
      have BE : Hid (Below w.heap.size w w5) := KE.out.bl.trans (hb5.mono KE.out.bl.size)
      clear hb5
      go_wp2_with fail
      go_ret
      exact ⟨rfl, BE.out⟩
set_option maxHeartbeats 400000 in
theorem decodes_long (v : Value) (bs : List Int) (w : World) (h : Sv w.heap.size w v bs) (hl : ¬ bs.length ≤ 1048576) :
    Calls Try.prog 4 #[v] w fun e' w' => e' = .returned (.bool true) ∧ Below w.heap.size w w' := by
  obtain ⟨ao, cap, rfl, -⟩ := h
  obtain ⟨L, hL⟩ : ∃ L, L = bs.length := ⟨_, rfl⟩
  rw [← hL]
  have hLi : (1048576 : Int) < L := by omega
  clear hL hl
  go_enter Try.func4, Try.ntmps4
  go_wp2_with fail
  go_ret
  exact ⟨rfl, Below.refl _ _⟩
theorem WireDecodes_row (v : Value) (bs : List Int) (w : World) (h : Sv w.heap.size w v bs) (_l : bs.length ≤ maxLen) :
    Calls Try.prog 4 #[v] w fun e' w' => e' = .returned (.bool true) ∧ Below w.heap.size w w' := by
  by_cases hl : bs.length ≤ 1048576
  · exact decodes_main v bs w h hl
  · exact decodes_long v bs w h hl
end Go.Proofs.Ytdobghhjlfffpaa
