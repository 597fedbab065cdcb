/- copied of the laws' package of layer 3: a packet with lists of its own. -/
import Derived.Test.YtdobghhjlfffpaaZB
import Derived.Test.YtdobghhjlfffpaaZA
import Derived.Test.YtdobghhjlfffpaaYG
import Derived.Test.YtdobghhjlfffpaaYE
import Derived.Test.YtdobghhjlfffpaaXM
import Derived.Deep.RegionHeldLaw
namespace Go.Proofs.Ytdobghhjlfffpaa
open Go.RowKit
set_option linter.unusedVariables false
theorem own_row6 {w : World} {B : Nat} {v : Value} {bs : List Int} (h : Own w B v bs) (h0 : bs ≠ []) : ∃ g cap cur, v = .slice (some ⟨g, 0, none⟩) bs.length cap ∧ B ≤ g ∧ Bk g w cur 5 ∧ bs.length ≤ cap ∧ cap ≤ maxLen ∧ cur.size = cap := by
  obtain ⟨hl, h | ⟨g, cap, cur, rfl, h1, h2, h3, h4, h5, h6⟩⟩ := h
  · exact absurd (by have := h.2; unfold U at this; simpa using this) h0
  · exact ⟨g, cap, cur, rfl, h1, h2, h3, h4, by omega⟩
/-- the beginning of a row of one's own -/
theorem own_pre {w : World} {B g n cap : Nat} {bs : List Int} (h : Own w B (.slice (some ⟨g, 0, none⟩) n cap) bs) (r : Nat) (hr : r ≤ bs.length) : Own w B (.slice (some ⟨g, 0, none⟩) r cap) (bs.take r) := by
  have hlen : (bs.take r).length = r := by rw [List.length_take]; omega
  obtain ⟨hl, h | ⟨g', cap', cur, hv, h1, h2, h3, h4, h5, h6⟩⟩ := h
  · exact absurd h.1 (by simp)
  · injection hv with e1 e2 e3
    injection e1 with e1
    injection e1 with e1 _ _
    subst e1 e3
    refine ⟨by simp [U], .inr ⟨g, cap, cur, by rw [hlen], h1, h2, by rw [hlen]; omega, h4, h5, ?_⟩⟩
    have e := congrArg (List.take r) h6
    rw [List.take_take] at e
    rw [hlen, show r * 1 = min r (bs.length * 1) by omega, e]
    unfold U
    rw [List.map_take]
theorem sub_own {g n cap r : Nat} {R : Int} (hR : (r : Int) = R) (h : r ≤ cap) (u : World) : (Instr.slice 27 (.slice (some ⟨g, 0, none⟩) n cap) none (some (.int .i64 R)) none).run Try.prog u = .ok (.slice (some ⟨g, 0, none⟩) r cap) u := by
  subst hR
  by_cases hc : cap = 0
  · simp [Instr.slice, Instr.sliceBounds, Instr.sliceBound, asIntOf, run_underlying Try.underlying27, hc, Addr.add]
    omega
  · simp [Instr.slice, Instr.sliceBounds, Instr.sliceBound, asIntOf, run_underlying Try.underlying27, h, Addr.add]
theorem step_appx6 {w : World} {ops : Array Oper} {o : Oper} {a : Act} {K : Act → World → Prop} {Q : Exit → Act → World → Prop} {E : Prop} (hgd : o.guard = none) (s x : Operand)
    (ho : o.op = .call { callee := .builtin .append, args := #[s, x], argTypes := #[26, 26] })
    (B : Nat) (v : Value) (n : Nat) (xs : List Value) (hs : a.eval s = v) (hown : w.ownsRow B 49 2 v n xs) (g : Nat) (y0 y1 : Value) (hx : a.eval x = .slice (some ⟨g, 0, none⟩) 1 1) (hb : Bk g w #[y0, y1] 49) (o0 : y0.oneCell' = true) (o1 : y1.oneCell' = true) (hl : n ≤ 100000) (hbase : B ≤ w.heap.size)
    (h : ∀ v' w', w'.ownsRow B 49 2 v' (n + 1) (xs ++ [y0, y1]) → w.grownBy w' v.ownBlock → K (a.put o.dst v') w') :
    if Region.wanted o (yielded ops a.tmps) = true then Oper.wp Try.prog o a w K Q else E := by
  have hw : Region.wanted o (yielded ops a.tmps) = true := by simp [Region.wanted, hgd]
  rw [if_pos hw]
  obtain ⟨i, hi, hz, h2, h3⟩ := infoX_parts
  refine wp_append_own w s x 26 ho B 49 i _ 2 32 Try.underlying26 hi hz h2 h3 (by kernel_rfl) (by decide) v n xs hs hown ⟨g, 0, none⟩ 1 1 [y0, y1] hx rfl ?_ ?_ (by unfold maxLen; omega) (by omega) hbase (fun v' w' a1 a2 _ => h v' w' a1 a2)
  · intro j u hj
    rw [add_own, hb.cell j]
    have : (#[y0, y1] : Array Value)[j]? = [y0, y1][j]? := by simp
    rw [this]
    exact hj
  · intro u hu
    simp at hu
    rcases hu with rfl | rfl
    · exact o0
    · exact o1
theorem ox_fresh (w : World) (B : Nat) (hB : B ≤ w.heap.size) : OX (w.alloc (.cells #[] 49)) B (.slice (some ⟨w.heap.size, 0, none⟩) 0 0) [] := by
  refine ⟨⟨by simp [XU], .inr ⟨w.heap.size, 0, #[], rfl, hB, heap_alloc_new w _, Nat.le_refl _, Nat.zero_le _, rfl, by simp [XU]⟩⟩, fun x hx => by cases hx⟩
/-- what copied has made so far -/
structure Cq (w wr : World) (CS : Array Value) (lv : Value) (ys : List Xt) (mv : Value) (mac : List Int) : Prop where
  pk : Pb w.heap.size wr CS
  pr : Pb (w.heap.size + 1) wr #[.int .i64 0, .int .i64 0, .int .i64 0, .int .i64 0, .int .i64 0, .int .i64 0, .int .i64 0, .int .i64 0, .int .u32 0, .int .u64 0, .int .u64 0, .int .u64 0, .int .u64 0, .slice none 0 0, .int .i64 0, .bool false, .slice none 0 0]
  ox : OX wr (w.heap.size + 2) lv ys
  mo : Own wr (w.heap.size + 2) mv mac
  bl : Below w.heap.size w wr
theorem Cq.below {w wr w' : World} {CS : Array Value} {lv mv : Value} {ys : List Xt} {mac : List Int} (h : Cq w wr CS lv ys mv mac) (hb : Below wr.heap.size wr w') : Cq w w' CS lv ys mv mac :=
  ⟨h.pk.below hb h.pk.lt, h.pr.below hb h.pr.lt, h.ox.below hb (Nat.le_refl _), h.mo.below hb (Nat.le_refl _), h.bl.trans (hb.mono h.bl.size)⟩
theorem Cq.app {w w1 w2 : World} {CS : Array Value} {ea : Option Addr} {en ec : Nat} {v8 mv : Value} {ys : List Xt} {mac : List Int} {ty : Int} {dv : Value} {dat : List Int} (h : Cq w w1 CS (.slice ea en ec) ys mv mac) (od : Own w1 (w.heap.size + 2) dv dat) (hr : w2.ownsRow (w.heap.size + 2) 49 2 v8 (en + 1) (XU ys ++ [.int .i64 ty, dv])) (hg : w1.grownBy w2 (Value.slice ea en ec).ownBlock) :
    ∃ a n c, v8 = .slice a n c ∧ Cq w w2 CS (.slice a n c) (ys ++ [⟨ty, dv, dat⟩]) mv mac := by
  have hen := h.ox.len
  rw [hen] at hr
  have ho := h.ox.kept (x := ⟨ty, dv, dat⟩) (by rw [hen] at *; exact hr) hg od
  have hb : Below (w.heap.size + 2) w1 w2 := (Below.refl _ _).grown hg h.pr.lt (fun k e => (h.ox.row.lt k e).1)
  obtain ⟨a, n, c, hv⟩ : ∃ a n c, v8 = .slice a n c := by
    rcases hr.2 with ⟨k1, _⟩ | ⟨g, cap, cur, k1, _⟩
    · exact ⟨_, _, _, k1⟩
    · exact ⟨_, _, _, k1⟩
  subst hv
  exact ⟨a, n, c, rfl, h.pk.below hb (by omega), h.pr.below hb (by omega), ho, World.ownsRow.kept h.mo hg (apart h.ox.row h.mo), h.bl.trans (hb.mono (by omega))⟩
theorem prsx_take {xs ys : List Xt} {k : Nat} (h : prsx ys = (prsx xs).take k) (hk : k < xs.length) (dv : Value) : prsx (ys ++ [⟨xs[k].ty, dv, xs[k].dat⟩]) = (prsx xs).take (k + 1) := by
  have e : (prsx xs)[k]? = some (xs[k].ty, xs[k].dat) := by
    unfold prsx
    rw [List.getElem?_map, List.getElem?_eq_getElem hk]
    rfl
  rw [List.take_add_one, e, ← h]
  unfold prsx
  rw [List.map_append]
  rfl
set_option maxRecDepth 20000 in
set_option maxHeartbeats 8000000 in
theorem copied_any (h : Hd) (ev : Value) (xs : List Xt) (key : Int) (nak : Bool) (mv : Value) (mac : List Int) (w : World) (he : Es w.heap.size w ev xs) (hm : Sv w.heap.size w mv mac) (hl : xs.length ≤ 65536) (hx : ∀ x ∈ xs, x.dat.length ≤ 65536) (hml : mac.length ≤ 65536) :
    Calls Try.prog 7 #[pkV h ev key nak mv] w fun e w' => ∃ ev' xs' mv', e = .returned (pkV h ev' key nak mv') ∧ prsx xs' = prsx xs ∧ Below w.heap.size w w' ∧ OX w' w.heap.size ev' xs' ∧ Own w' w.heap.size mv' mac := by
  have H : Hid (Es w.heap.size w ev xs) := he
  have HM : Hid (Sv w.heap.size w mv mac) := hm
  have hokm : okb mac := by obtain ⟨_, _, _, _, _, _, q⟩ := hm; exact q
  obtain ⟨ea, ec, rfl, -⟩ := he
  obtain ⟨ma, mc, rfl, -⟩ := hm
  obtain ⟨en, hen⟩ : ∃ L, L = xs.length := ⟨_, rfl⟩
  obtain ⟨mn, hmn⟩ : ∃ L, L = mac.length := ⟨_, rfl⟩
  rw [← hen] at H ⊢
  rw [← hmn] at HM ⊢
  have HL : Hid (en = xs.length ∧ mn = mac.length ∧ xs.length ≤ 65536 ∧ mac.length ≤ 65536) := ⟨hen, hmn, hl, hml⟩
  have HXL : Hid (∀ x ∈ xs, x.dat.length ≤ 65536) := hx
  obtain ⟨EN, hEN⟩ : ∃ x : Int, (en : Int) = x := ⟨_, rfl⟩
  have HEN : Hid ((en : Int) = EN) := hEN
  have l1 : EN ≤ 65536 := by omega
  have l0 : 0 ≤ EN := by omega
  obtain ⟨MN, hMN⟩ : ∃ x : Int, (mn : Int) = x := ⟨_, rfl⟩
  have HMN : Hid ((mn : Int) = MN) := hMN
  have m1 : MN ≤ 65536 := by omega
  have m0 : 0 ≤ MN := by omega
  clear hl hx hml hen hmn hokm
  unfold pkV
  go_enter Try.func7, Try.ntmps7
  refine code_hid3 fun R1 hR1 => ?_
  go_wp2_with fail
  obtain ⟨W0, hW0⟩ : ∃ W, W = (w.alloc (.cells #[.int .i64 h.leap, .int .i64 h.ver, .int .i64 h.mode, .int .i64 h.str, .int .i64 h.poll, .int .i64 h.prec, .int .i64 h.del, .int .i64 h.dis, .int .u32 h.rid, .int .u64 h.t0, .int .u64 h.t1, .int .u64 h.t2, .int .u64 h.t3, .slice ea en ec, .int .i64 key, .bool nak, .slice ma mn mc] 29)).alloc (.cells #[.int .i64 0, .int .i64 0, .int .i64 0, .int .i64 0, .int .i64 0, .int .i64 0, .int .i64 0, .int .i64 0, .int .u32 0, .int .u64 0, .int .u64 0, .int .u64 0, .int .u64 0, .slice none 0 0, .int .i64 0, .bool false, .slice none 0 0] 29) := ⟨_, rfl⟩
  have K0 : Hid (Pb w.heap.size W0 #[.int .i64 h.leap, .int .i64 h.ver, .int .i64 h.mode, .int .i64 h.str, .int .i64 h.poll, .int .i64 h.prec, .int .i64 h.del, .int .i64 h.dis, .int .u32 h.rid, .int .u64 h.t0, .int .u64 h.t1, .int .u64 h.t2, .int .u64 h.t3, .slice ea en ec, .int .i64 key, .bool nak, .slice ma mn mc] ∧ Below w.heap.size w W0 ∧ Pb (w.heap.size + 1) W0 #[.int .i64 0, .int .i64 0, .int .i64 0, .int .i64 0, .int .i64 0, .int .i64 0, .int .i64 0, .int .i64 0, .int .u32 0, .int .u64 0, .int .u64 0, .int .u64 0, .int .u64 0, .slice none 0 0, .int .i64 0, .bool false, .slice none 0 0]) := by
    rw [hW0]
    refine ⟨(Pb.new w _).below ((Below.refl _ _).alloc (Nat.le_refl _) _) (by simp), ((Below.refl _ _).alloc (Nat.le_refl _) _).alloc (by simp) _, ?_⟩
    have := Pb.new (w.alloc (.cells #[.int .i64 h.leap, .int .i64 h.ver, .int .i64 h.mode, .int .i64 h.str, .int .i64 h.poll, .int .i64 h.prec, .int .i64 h.del, .int .i64 h.dis, .int .u32 h.rid, .int .u64 h.t0, .int .u64 h.t1, .int .u64 h.t2, .int .u64 h.t3, .slice ea en ec, .int .i64 key, .bool nak, .slice ma mn mc] 29)) #[.int .i64 0, .int .i64 0, .int .i64 0, .int .i64 0, .int .i64 0, .int .i64 0, .int .i64 0, .int .i64 0, .int .u32 0, .int .u64 0, .int .u64 0, .int .u64 0, .int .u64 0, .slice none 0 0, .int .i64 0, .bool false, .slice none 0 0]
    simpa using this
  rw [← hW0, hR1.out]
  clear hW0 hR1
  have c16 : W0.cell? ⟨w.heap.size, 16, none⟩ = some (.slice ma mn mc) := by obtain ⟨_, _, _, _, _, _, _, _, _, _, _, _, _, _, _, _, q⟩ := K0.out.1.ck.c17; exact q
  go_wp2_with fail
  refine (lent_any w.heap.size _ mac _ (by have := HL.out; omega) (HM.out.below K0.out.2.1 (Nat.le_refl _)) K0.out.2.1.size).mono ?_
  rintro e' w1 ⟨xv, rfl, hb1, ho1⟩
  obtain ⟨gm, cm, cur, hxv, hwg, hbk, hlc, hcm, hcs⟩ := own_row6 ho1 (by simp)
  obtain ⟨LX, hLX⟩ : ∃ n, n = (mac ++ [115, 116]).length := ⟨_, rfl⟩
  rw [← hLX] at hxv hlc
  subst hxv
  have hLX2 : LX = mn + 2 := by rw [hLX, HL.out.2.1]; simp
  have rs : ∀ u, (Instr.slice 27 (.slice (some ⟨gm, 0, none⟩) LX cm) none (some (.int .i64 MN)) none).run Try.prog u = .ok (.slice (some ⟨gm, 0, none⟩) mn cm) u := fun u => sub_own HMN.out (by omega) u
  have K1 : Hid (Pb w.heap.size w1 #[.int .i64 h.leap, .int .i64 h.ver, .int .i64 h.mode, .int .i64 h.str, .int .i64 h.poll, .int .i64 h.prec, .int .i64 h.del, .int .i64 h.dis, .int .u32 h.rid, .int .u64 h.t0, .int .u64 h.t1, .int .u64 h.t2, .int .u64 h.t3, .slice ea en ec, .int .i64 key, .bool nak, .slice ma mn mc] ∧ Below w.heap.size w w1 ∧ Own w1 (w.heap.size + 2) (.slice (some ⟨gm, 0, none⟩) mn cm) mac ∧ Pb (w.heap.size + 1) w1 #[.int .i64 0, .int .i64 0, .int .i64 0, .int .i64 0, .int .i64 0, .int .i64 0, .int .i64 0, .int .i64 0, .int .u32 0, .int .u64 0, .int .u64 0, .int .u64 0, .int .u64 0, .slice none 0 0, .int .i64 0, .bool false, .slice none 0 0]) := by
    have hp := own_pre ho1 mn (by rw [← hLX]; omega)
    have e9 : (mac ++ [115, 116]).take mn = mac := by rw [HL.out.2.1]; simp
    rw [e9] at hp
    exact ⟨K0.out.1.below hb1 K0.out.1.lt, K0.out.2.1.trans (hb1.mono K0.out.2.1.size), hp.mono K0.out.2.2.lt, K0.out.2.2.below hb1 K0.out.2.2.lt⟩
  clear c16 hb1 ho1 hwg hbk hlc hcm hcs hLX hLX2 K0
  have c16 : w1.cell? ⟨w.heap.size, 16, none⟩ = some (.slice ma mn mc) := by obtain ⟨_, _, _, _, _, _, _, _, _, _, _, _, _, _, _, _, q⟩ := K1.out.1.ck.c17; exact q
  have f16 : w1.frozen? ⟨w.heap.size, 16, none⟩ = false := Bk.frozen (T := 29) K1.out.1 16
  go_wp2_with fail
  obtain ⟨W1, hW1⟩ : ∃ W, W = w1.setCell ⟨w.heap.size, 16, none⟩ (.slice (some ⟨gm, 0, none⟩) mn cm) := ⟨_, rfl⟩
  rw [← hW1]
  have K2 : Hid (Cq w (W1.alloc (.cells #[] 49)) #[.int .i64 h.leap, .int .i64 h.ver, .int .i64 h.mode, .int .i64 h.str, .int .i64 h.poll, .int .i64 h.prec, .int .i64 h.del, .int .i64 h.dis, .int .u32 h.rid, .int .u64 h.t0, .int .u64 h.t1, .int .u64 h.t2, .int .u64 h.t3, .slice ea en ec, .int .i64 key, .bool nak, .slice (some ⟨gm, 0, none⟩) mn cm] (.slice (some ⟨w1.heap.size, 0, none⟩) 0 0) [] (.slice (some ⟨gm, 0, none⟩) mn cm) mac) := by
    have e : W1.heap.size = w1.heap.size := by rw [hW1]; simp
    have hs : w.heap.size + 2 ≤ W1.heap.size := by rw [hW1]; simp; exact K1.out.2.2.2.lt
    have hp : Pb w.heap.size W1 #[.int .i64 h.leap, .int .i64 h.ver, .int .i64 h.mode, .int .i64 h.str, .int .i64 h.poll, .int .i64 h.prec, .int .i64 h.del, .int .i64 h.dis, .int .u32 h.rid, .int .u64 h.t0, .int .u64 h.t1, .int .u64 h.t2, .int .u64 h.t3, .slice ea en ec, .int .i64 key, .bool nak, .slice (some ⟨gm, 0, none⟩) mn cm] := by rw [hW1]; exact Bk.set (T := 29) (j := 16) K1.out.1 (.slice (some ⟨gm, 0, none⟩) mn cm)
    have hb : Below w.heap.size w W1 := by rw [hW1]; exact K1.out.2.1.setCell (p := ⟨w.heap.size, 16, none⟩) (Nat.le_refl _) _
    have hr : Pb (w.heap.size + 1) W1 #[.int .i64 0, .int .i64 0, .int .i64 0, .int .i64 0, .int .i64 0, .int .i64 0, .int .i64 0, .int .i64 0, .int .u32 0, .int .u64 0, .int .u64 0, .int .u64 0, .int .u64 0, .slice none 0 0, .int .i64 0, .bool false, .slice none 0 0] := by rw [hW1]; exact Bk.far (T := 29) K1.out.2.2.2 (by omega) _
    have hm : Own W1 (w.heap.size + 2) (.slice (some ⟨gm, 0, none⟩) mn cm) mac := by rw [hW1]; exact K1.out.2.2.1.low (by omega)
    have ha : Below W1.heap.size W1 (W1.alloc (.cells #[] 49)) := (Below.refl _ _).alloc (Nat.le_refl _) _
    exact ⟨hp.below ha hp.lt, hr.below ha hr.lt, by rw [← e]; exact ox_fresh W1 _ hs, hm.below ha (Nat.le_refl _), hb.trans (ha.mono (by omega))⟩
  clear c16 f16 hW1 K1
  go_loopw [4, 5] (fun l i wr => ∃ (k : Nat) (KI : Int) (la : Option Addr) (ln lc : Nat) (ys : List Xt), l = .slice la ln lc ∧ i = .int .i64 KI ∧ 0 ≤ KI ∧ KI ≤ EN ∧ Hid (KI = (k : Int) ∧ prsx ys = (prsx xs).take k ∧ Cq w wr #[.int .i64 h.leap, .int .i64 h.ver, .int .i64 h.mode, .int .i64 h.str, .int .i64 h.poll, .int .i64 h.prec, .int .i64 h.del, .int .i64 h.dis, .int .u32 h.rid, .int .u64 h.t0, .int .u64 h.t1, .int .u64 h.t2, .int .u64 h.t3, .slice ea en ec, .int .i64 key, .bool nak, .slice (some ⟨gm, 0, none⟩) mn cm] (.slice la ln lc) ys (.slice (some ⟨gm, 0, none⟩) mn cm) mac)) (fun _ i _ => (EN - intOf i).toNat)
  case atStart => exact ⟨0, 0, _, 0, 0, [], rfl, rfl, by omega, l0, rfl, rfl, K2.out⟩
  case round =>
    clear K2
    obtain ⟨k, KI, la, ln, lc, ys, rfl, rfl, k0, k1, hK⟩ := hrel
    have c13 : wr.cell? ⟨w.heap.size, 13, none⟩ = some (.slice ea en ec) := by obtain ⟨_, _, _, _, _, _, _, _, _, _, _, _, _, q, _⟩ := hK.out.2.2.pk.ck.c17; exact q
    have f13 : wr.frozen? ⟨w.heap.size, 13, none⟩ = false := Bk.frozen (T := 29) hK.out.2.2.pk 13
    by_cases hlt : KI < EN
    · have hkx : k < xs.length := by have := HL.out; have := HEN.out; have := hK.out.1; omega
      obtain ⟨ad, g1, g2, g3, g4, -⟩ := (H.out.below hK.out.2.2.bl (Nat.le_refl _)).at k hkx
      obtain ⟨ad2, q1, _, _, q5, q6⟩ := H.out.at k hkx
      have hix : ∀ w, Sem.run Try.prog (Instr.indexAt 26 (.slice ea en ec) (.int .i64 KI)) w = .ok (.pointer (some (ad.add (k * 2)))) w := by rw [hK.out.1]; exact xidx_run en ec k g1.out (by have := HEN.out; have := hK.out.1; omega)
      obtain ⟨A, hA0⟩ : ∃ A, A = ad.add (k * 2) := ⟨_, rfl⟩
      rw [← hA0] at hix g2 g3
      obtain ⟨ty, hty⟩ : ∃ t, t = xs[k].ty := ⟨_, rfl⟩
      obtain ⟨dv, hdv⟩ : ∃ d, d = xs[k].dv := ⟨_, rfl⟩
      obtain ⟨dat, hdat⟩ : ∃ d, d = xs[k].dat := ⟨_, rfl⟩
      rw [← hty] at g2
      rw [← hdv] at g3 g4 q5
      rw [← hdat] at g4 q5
      have hdl : dat.length ≤ 65536 := by rw [hdat]; exact HXL.out _ (List.getElem_mem hkx)
      have HX : Hid (Sv w.heap.size w dv dat ∧ A.block < w.heap.size ∧ dat.length ≤ 65536 ∧ ty = xs[k].ty ∧ dat = xs[k].dat) := by
        refine ⟨q5, ?_, hdl, hty, hdat⟩
        have e2 := Option.some.inj (g1.out.symm.trans q1.out)
        rw [hA0, add_block, e2]
        exact q6
      obtain ⟨da, dc, hd, -⟩ := g4
      obtain ⟨dn, hdn⟩ : ∃ n, n = dat.length := ⟨_, rfl⟩
      rw [← hdn] at hd
      subst hd
      have g3' : wr.cell? { block := A.block, off := A.off + 1 } = some (.slice da dn dc) := by simpa [Addr.add] using g3
      have HGw : Hid (w.cell? A = some (.int .i64 ty) ∧ w.cell? { block := A.block, off := A.off + 1 } = some (.slice da dn dc)) := ⟨(hK.out.2.2.bl.cell (p := A) HX.out.2.1).symm.trans g2, (hK.out.2.2.bl.cell (p := { block := A.block, off := A.off + 1 }) HX.out.2.1).symm.trans g3'⟩
      have HG : Hid (wr.cell? A = some (.int .i64 ty) ∧ wr.cell? { block := A.block, off := A.off + 1 } = some (.slice da dn dc)) := ⟨g2, g3'⟩
      obtain ⟨DN, hDN⟩ : ∃ x : Int, (dn : Int) = x := ⟨_, rfl⟩
      have HDN : Hid (dn = dat.length ∧ (dn : Int) = DN) := ⟨hdn, hDN⟩
      have d0 : 0 ≤ DN := by omega
      have d1 : DN ≤ 65536 := by omega
      clear hA0 hdv hdat hty g1 g3 q1 q5 q6 hdl hdn
      go_wp2_with fail
      refine (lent_any w.heap.size _ dat _ (by have := HX.out.2.2.1; omega) (HX.out.1.below hK.out.2.2.bl (Nat.le_refl _)) hK.out.2.2.bl.size).mono ?_
      rintro e' w2 ⟨yv, rfl, hb2, ho2⟩
      obtain ⟨gy, cy, cur, hyv, hwg, hbk, hlc, hcm, hcs⟩ := own_row6 ho2 (by simp)
      obtain ⟨LY, hLY⟩ : ∃ n, n = (dat ++ [115, 116]).length := ⟨_, rfl⟩
      rw [← hLY] at hyv hlc
      subst hyv
      have hLY2 : LY = dn + 2 := by rw [hLY, HDN.out.1]; simp
      have rs2 : ∀ u, (Instr.slice 27 (.slice (some ⟨gy, 0, none⟩) LY cy) none (some (.int .i64 DN)) none).run Try.prog u = .ok (.slice (some ⟨gy, 0, none⟩) dn cy) u := fun u => sub_own HDN.out.2 (by omega) u
      have K3 : Hid (Cq w w2 #[.int .i64 h.leap, .int .i64 h.ver, .int .i64 h.mode, .int .i64 h.str, .int .i64 h.poll, .int .i64 h.prec, .int .i64 h.del, .int .i64 h.dis, .int .u32 h.rid, .int .u64 h.t0, .int .u64 h.t1, .int .u64 h.t2, .int .u64 h.t3, .slice ea en ec, .int .i64 key, .bool nak, .slice (some ⟨gm, 0, none⟩) mn cm] (.slice la ln lc) ys (.slice (some ⟨gm, 0, none⟩) mn cm) mac ∧ Own w2 (w.heap.size + 2) (.slice (some ⟨gy, 0, none⟩) dn cy) dat ∧ ln = ys.length ∧ ln ≤ 65536 ∧ w.heap.size + 2 ≤ w2.heap.size) := by
        have hp := own_pre ho2 dn (by rw [← hLY]; omega)
        have e9 : (dat ++ [115, 116]).take dn = dat := by rw [HDN.out.1]; simp
        rw [e9] at hp
        refine ⟨hK.out.2.2.below hb2, hp.mono hK.out.2.2.pr.lt, hK.out.2.2.ox.len, ?_, Nat.le_trans hK.out.2.2.pr.lt hb2.size⟩
        have e1 := hK.out.2.2.ox.len
        have e2 := congrArg List.length hK.out.2.1
        unfold prsx at e2
        simp only [List.length_map, List.length_take] at e2
        have := HL.out
        omega
      have c13 : w2.cell? ⟨w.heap.size, 13, none⟩ = some (.slice ea en ec) := by obtain ⟨_, _, _, _, _, _, _, _, _, _, _, _, _, q, _⟩ := K3.out.1.pk.ck.c17; exact q
      have g2a : w2.cell? A = some (.int .i64 ty) := (hb2.cell (p := A) (Nat.lt_of_lt_of_le HX.out.2.1 hK.out.2.2.bl.size)).trans HG.out.1
      have g3a : w2.cell? { block := A.block, off := A.off + 1 } = some (.slice da dn dc) := (hb2.cell (p := { block := A.block, off := A.off + 1 }) (Nat.lt_of_lt_of_le HX.out.2.1 hK.out.2.2.bl.size)).trans HG.out.2
      clear hb2 ho2 hwg hbk hlc hcm hcs hLY hLY2 g2 g3' f13
      go_wp2_with fail
      go_region_held_law (fun w' => w'.cell? ⟨w.heap.size, 13, none⟩ = some (.slice ea en ec) ∧ w'.cell? A = some (.int .i64 ty) ∧ w'.cell? { block := A.block, off := A.off + 1 } = some (.slice da dn dc)) (first | exact ⟨c13, g2a, g3a⟩ | exact ⟨c13e, g2e, g3e⟩ | go_keep) ((refine step_appx6 (by rfl) _ _ (by rfl) (w.heap.size + 2) (.slice la ln lc) ln (XU ys) (by rfl) (by first | exact (K3.out.1.ox.alloc _).rowN | exact (K3.out.1.ox.alloc _).drew.rowN | exact (K3.out.1.ox.drew.alloc _).rowN) w2.heap.size (.int .i64 ty) (.slice (some ⟨gy, 0, none⟩) dn cy) (by rfl) (by first | exact Bk.new _ _ _ | exact (Bk.new _ _ _).drew) rfl rfl (by have := K3.out; omega) (by have := K3.out.2.2.2.2; simp; omega) ?_; intro v8 w8 hr8 hg8; have F8 : Hid (∃ a n c, v8 = .slice a n c ∧ Cq w w8 #[.int .i64 h.leap, .int .i64 h.ver, .int .i64 h.mode, .int .i64 h.str, .int .i64 h.poll, .int .i64 h.prec, .int .i64 h.del, .int .i64 h.dis, .int .u32 h.rid, .int .u64 h.t0, .int .u64 h.t1, .int .u64 h.t2, .int .u64 h.t3, .slice ea en ec, .int .i64 key, .bool nak, .slice (some ⟨gm, 0, none⟩) mn cm] (.slice a n c) (ys ++ [⟨ty, .slice (some ⟨gy, 0, none⟩) dn cy, dat⟩]) (.slice (some ⟨gm, 0, none⟩) mn cm) mac) := (by first | exact (K3.out.1.below ((Below.refl _ _).alloc (Nat.le_refl _) _)).app (K3.out.2.1.below ((Below.refl w2.heap.size w2).alloc (Nat.le_refl _) _) (Nat.le_refl _)) hr8 hg8 | exact (K3.out.1.below (((Below.refl _ _).alloc (Nat.le_refl _) _).drew)).app (K3.out.2.1.below (((Below.refl w2.heap.size w2).alloc (Nat.le_refl _) _).drew) (Nat.le_refl _)) hr8 hg8 | exact (K3.out.1.below (((Below.refl _ _).drew.alloc (Nat.le_refl _) _))).app (K3.out.2.1.below (((Below.refl w2.heap.size w2).drew.alloc (Nat.le_refl _) _)) (Nat.le_refl _)) hr8 hg8); have c13e : w8.cell? ⟨w.heap.size, 13, none⟩ = some (.slice ea en ec) := (by obtain ⟨_, _, _, _, K⟩ := F8.out; obtain ⟨_, _, _, _, _, _, _, _, _, _, _, _, _, q, _⟩ := K.pk.ck.c17; exact q); have g2e : w8.cell? A = some (.int .i64 ty) := (by obtain ⟨_, _, _, _, K⟩ := F8.out; exact (K.bl.cell (p := A) HX.out.2.1).trans HGw.out.1); have g3e : w8.cell? { block := A.block, off := A.off + 1 } = some (.slice da dn dc) := (by obtain ⟨_, _, _, _, K⟩ := F8.out; exact (K.bl.cell (p := { block := A.block, off := A.off + 1 }) HX.out.2.1).trans HGw.out.2); clear hr8 hg8))
      all_goals
        obtain ⟨a8, n8, c8, hv8, K8⟩ := F8.out
        subst hv8
        have K8 : Hid _ := K8
        clear F8
        go_wp2_with fail
        exact ⟨⟨k + 1, KI + 1, a8, n8, c8, _, rfl, rfl, by omega, by omega, by have := hK.out.1; omega, by have := prsx_take hK.out.2.1 hkx (.slice (some ⟨gy, 0, none⟩) dn cy); rw [HX.out.2.2.2.1, HX.out.2.2.2.2]; exact this, K8.out⟩, by simp [intOf]; omega⟩
    · have KE : Hid (Pb w.heap.size (wr.setCell ⟨w.heap.size, 13, none⟩ (.slice la ln lc)) #[.int .i64 h.leap, .int .i64 h.ver, .int .i64 h.mode, .int .i64 h.str, .int .i64 h.poll, .int .i64 h.prec, .int .i64 h.del, .int .i64 h.dis, .int .u32 h.rid, .int .u64 h.t0, .int .u64 h.t1, .int .u64 h.t2, .int .u64 h.t3, .slice la ln lc, .int .i64 key, .bool nak, .slice (some ⟨gm, 0, none⟩) mn cm] ∧ prsx ys = prsx xs ∧ Below w.heap.size w (wr.setCell ⟨w.heap.size, 13, none⟩ (.slice la ln lc)) ∧ OX (wr.setCell ⟨w.heap.size, 13, none⟩ (.slice la ln lc)) (w.heap.size + 2) (.slice la ln lc) ys ∧ Own (wr.setCell ⟨w.heap.size, 13, none⟩ (.slice la ln lc)) (w.heap.size + 2) (.slice (some ⟨gm, 0, none⟩) mn cm) mac ∧ Pb (w.heap.size + 1) (wr.setCell ⟨w.heap.size, 13, none⟩ (.slice la ln lc)) #[.int .i64 0, .int .i64 0, .int .i64 0, .int .i64 0, .int .i64 0, .int .i64 0, .int .i64 0, .int .i64 0, .int .u32 0, .int .u64 0, .int .u64 0, .int .u64 0, .int .u64 0, .slice none 0 0, .int .i64 0, .bool false, .slice none 0 0]) := by
        refine ⟨Bk.set (T := 29) (j := 13) hK.out.2.2.pk (.slice la ln lc), ?_, hK.out.2.2.bl.setCell (p := ⟨w.heap.size, 13, none⟩) (Nat.le_refl _) _, hK.out.2.2.ox.low (by omega), hK.out.2.2.mo.low (by omega), Bk.far (T := 29) hK.out.2.2.pr (by omega) _⟩
        rw [hK.out.2.1, List.take_of_length_le]
        unfold prsx
        rw [List.length_map]
        have := HL.out; have := HEN.out; have := hK.out.1
        omega
      clear hK
      go_wp2_with (first | (refine step_pk (by rfl) _ (by rfl) _ (by rfl) _ (by rfl) KE.out.1 ?_) | (refine step_spk (by rfl) _ _ (by rfl) (w.heap.size + 1) #[.int .i64 h.leap, .int .i64 h.ver, .int .i64 h.mode, .int .i64 h.str, .int .i64 h.poll, .int .i64 h.prec, .int .i64 h.del, .int .i64 h.dis, .int .u32 h.rid, .int .u64 h.t0, .int .u64 h.t1, .int .u64 h.t2, .int .u64 h.t3, .slice la ln lc, .int .i64 key, .bool nak, .slice (some ⟨gm, 0, none⟩) mn cm] (by rfl) (by rfl) #[.int .i64 0, .int .i64 0, .int .i64 0, .int .i64 0, .int .i64 0, .int .i64 0, .int .i64 0, .int .i64 0, .int .u32 0, .int .u64 0, .int .u64 0, .int .u64 0, .int .u64 0, .slice none 0 0, .int .i64 0, .bool false, .slice none 0 0] ?_ (by rfl) (by rfl) (by kernel_rfl) ?_; exact KE.out.2.2.2.2.2))
      refine bodyPost_ret (v := .agg #[.int .i64 h.leap, .int .i64 h.ver, .int .i64 h.mode, .int .i64 h.str, .int .i64 h.poll, .int .i64 h.prec, .int .i64 h.del, .int .i64 h.dis, .int .u32 h.rid, .int .u64 h.t0, .int .u64 h.t1, .int .u64 h.t2, .int .u64 h.t3, .slice la ln lc, .int .i64 key, .bool nak, .slice (some ⟨gm, 0, none⟩) mn cm]) (res_pk Try.results7 _ _ (w.heap.size + 1) _ (by rfl) (Bk.row (T := 29) KE.out.2.2.2.2.2) (by rfl)) rfl ⟨_, ys, _, rfl, KE.out.2.1, below_mod KE.out.2.2.1 (mod_row _ _ _) (by have := KE.out.1.lt; omega) (by omega), ?_, ?_⟩
      · exact OX.mono (OX.mod KE.out.2.2.2.1 (mod_row _ _ _) (by omega)) (by omega)
      · exact Own.mono (Own.mod KE.out.2.2.2.2.1 (mod_row _ _ _) (by omega)) (by omega)
end Go.Proofs.Ytdobghhjlfffpaa
