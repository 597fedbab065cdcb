/- spoil of the laws' package of layer 3: it writes over a packet's lists, and over nothing else. -/
import Derived.Test.YtdobghhjlfffpaaZB
import Derived.Test.YtdobghhjlfffpaaYG
namespace Go.Proofs.Ytdobghhjlfffpaa
open Go.RowKit
set_option linter.unusedVariables false
/-- nothing but blocks from B to D may be other ones, or new -/
structure Gap (B D : Nat) (w w' : World) : Prop where
  os : w'.os = w.os
  tape : w'.tape = w.tape
  output : w'.output = w.output
  size : w.heap.size ≤ w'.heap.size
  block : ∀ k, k < w.heap.size → k < B ∨ D ≤ k → w'.heap[k]? = w.heap[k]?
theorem Gap.set {B D : Nat} {w v : World} (h : Gap B D w v) {g : Nat} (hB : B ≤ g) (hD : g < D) (j : Nat) (x : Value) : Gap B D w (v.setCell ⟨g, j, none⟩ x) :=
  ⟨h.os, h.tape, h.output, by simpa using h.size, fun k hk hn => by rw [Below.heap_setCell _ _ _ _ (show k ≠ g by omega)]; exact h.block k hk hn⟩
theorem Gap.below {B D : Nat} {w v : World} (h : Gap B D w v) (hB : B ≤ w.heap.size) : Below B w v := ⟨h.os, h.tape, h.output, h.size, fun k hk => h.block k (by omega) (.inl hk)⟩
theorem Gap.own {B D : Nat} {w v : World} {u : Value} {bs : List Int} (h : Gap B D w v) (ho : Own w D u bs) : Own v D u bs := by
  obtain ⟨hl, h1 | ⟨g, cap, cur, e1, e2, e3, e4⟩⟩ := ho
  · exact ⟨hl, .inl h1⟩
  · refine ⟨hl, .inr ⟨g, cap, cur, e1, e2, ?_, e4⟩⟩
    have hlt : g < w.heap.size := by
      rcases Nat.lt_or_ge g w.heap.size with q | q
      · exact q
      · rw [Array.getElem?_eq_none q] at e3; cases e3
    rw [h.block g hlt (.inr e2)]
    exact e3
/-- so many bytes that may be written over -/
def Dw (B D : Nat) (wr : World) (v : Value) (n : Nat) : Prop := ∃ ao cap, v = .slice ao n cap ∧ (n ≠ 0 → ∃ g cu, ao = some ⟨g, 0, none⟩ ∧ B ≤ g ∧ g < D ∧ Bk g wr cu 5 ∧ cu.size = cap ∧ n ≤ cap)
theorem Dw.set {B D : Nat} {wr : World} {v : Value} {n : Nat} (h : Dw B D wr v n) (g j : Nat) (x : Value) : Dw B D (wr.setCell ⟨g, j, none⟩ x) v n := by
  obtain ⟨ao, cap, h1, h2⟩ := h
  refine ⟨ao, cap, h1, fun hn => ?_⟩
  obtain ⟨g2, cu, e1, e2, e3, e4, e5, e6⟩ := h2 hn
  by_cases hg : g2 = g
  · subst hg
    exact ⟨g2, _, e1, e2, e3, e4.set x, by simpa using e5, e6⟩
  · exact ⟨g2, cu, e1, e2, e3, e4.far hg x, e5, e6⟩
theorem Dw.below {B D : Nat} {w1 w : World} {v : Value} {n : Nat} (h : Dw B D w1 v n) (hb : Below D w1 w) : Dw B D w v n := by
  obtain ⟨ao, cap, h1, h2⟩ := h
  refine ⟨ao, cap, h1, fun hn => ?_⟩
  obtain ⟨g2, cu, e1, e2, e3, e4, e5, e6⟩ := h2 hn
  exact ⟨g2, cu, e1, e2, e3, e4.below hb e3, e5, e6⟩
theorem Dw.of {B : Nat} {w : World} {v : Value} {bs : List Int} (h : Own w B v bs) : Dw B w.heap.size w v bs.length := by
  obtain ⟨hl, h | ⟨g, cap, cur, rfl, h1, h2, h3, h4, h5, h6⟩⟩ := h
  · exact ⟨none, 0, by rw [h.2]; exact h.1, fun hn => absurd h.2 hn⟩
  · exact ⟨_, cap, rfl, fun _ => ⟨g, cur, rfl, h1, Bk.lt (T := 5) h2, h2, by omega, h3⟩⟩
/-- fields that may be written over, those from k on as they were -/
def Ew (B D : Nat) (wr : World) (v : Value) (xs : List Xt) (k : Nat) : Prop := ∃ ao cap, v = .slice ao xs.length cap ∧ (xs.length ≠ 0 → ∃ g cu, ao = some ⟨g, 0, none⟩ ∧ B ≤ g ∧ g < D ∧ Bk g wr cu 49 ∧ cu.size = cap * 2 ∧ xs.length ≤ cap ∧ ∀ j (hj : j < xs.length), k ≤ j → cu[2 * j]? = some (.int .i64 xs[j].ty) ∧ cu[2 * j + 1]? = some xs[j].dv)
theorem Ew.of {B : Nat} {w : World} {v : Value} {xs : List Xt} (h : OX w B v xs) : Ew B w.heap.size w v xs 0 := by
  obtain ⟨hl, h | ⟨g, cap, cur, rfl, h1, h2, h3, h4, h5, h6⟩⟩ := h.row
  · exact ⟨none, 0, by rw [h.2]; exact h.1, fun hn => absurd h.2 hn⟩
  · refine ⟨_, cap, rfl, fun _ => ⟨g, cur, rfl, h1, Bk.lt (T := 49) h2, h2, h5, h3, fun j hj _ => ?_⟩⟩
    have hx := XU_get xs j hj
    have e : ∀ i, i < xs.length * 2 → cur[i]? = (XU xs)[i]? := fun i hi => by
      have := congrArg (fun l => l[i]?) h6
      simp only [List.getElem?_take, hi, if_true, Array.getElem?_toList] at this
      exact this
    exact ⟨(e _ (by omega)).trans hx.1, (e _ (by omega)).trans hx.2⟩
theorem Ew.below {B D : Nat} {w1 w : World} {v : Value} {xs : List Xt} {k : Nat} (h : Ew B D w1 v xs k) (hb : Below D w1 w) : Ew B D w v xs k := by
  obtain ⟨ao, cap, h1, h2⟩ := h
  refine ⟨ao, cap, h1, fun hn => ?_⟩
  obtain ⟨g2, cu, e1, e2, e3, e4, e5⟩ := h2 hn
  exact ⟨g2, cu, e1, e2, e3, e4.below hb e3, e5⟩
theorem bk_ty {g : Nat} {w : World} {c1 c2 : Array Value} {S T : TypeId} (h1 : Bk g w c1 S) (h2 : Bk g w c2 T) : S = T := by
  unfold Bk at h1 h2
  rw [h1] at h2
  injection h2 with h2
  injection h2
structure Sp (B D : Nat) (w wr : World) (pb : Nat) (CS : Array Value) (ev : Value) (xs : List Xt) (mv : Value) (mn : Nat) (k : Nat) : Prop where
  pk : Pb pb wr CS
  pd : D ≤ pb
  gp : Gap B D w wr
  ma : Dw B D wr mv mn
  ex : Ew B D wr ev xs k
  da : ∀ x ∈ xs, Dw B D wr x.dv x.dat.length
theorem Sp.data {B D : Nat} {w wr : World} {pb : Nat} {CS : Array Value} {ev mv : Value} {xs : List Xt} {mn k : Nat} (h : Sp B D w wr pb CS ev xs mv mn k) {g : Nat} {cu : Array Value} (hB : B ≤ g) (hD : g < D) (hb : Bk g wr cu 5) (j : Nat) (x : Value) : Sp B D w (wr.setCell ⟨g, j, none⟩ x) pb CS ev xs mv mn k := by
  obtain ⟨h1, h2, h3, h4, ⟨ao, cap, q1, q2⟩, h6⟩ := h
  refine ⟨Bk.far (T := 29) h1 (by omega) x, h2, h3.set hB hD j x, h4.set g j x, ⟨ao, cap, q1, fun hn => ?_⟩, fun y hy => (h6 y hy).set g j x⟩
  obtain ⟨g2, cu2, e1, e2, e3, e4, e5⟩ := q2 hn
  have hne : g2 ≠ g := by
    intro e
    subst e
    exact absurd (bk_ty e4 hb) (by decide)
  exact ⟨g2, cu2, e1, e2, e3, e4.far hne x, e5⟩
theorem Sp.elem {B D : Nat} {w wr : World} {pb : Nat} {CS : Array Value} {mv : Value} {xs : List Xt} {mn k g : Nat} {en ec : Nat} (h : Sp B D w wr pb CS (.slice (some ⟨g, 0, none⟩) en ec) xs mv mn k) (hk : k < xs.length) (x y : Value) : Sp B D w ((wr.setCell ⟨g, 2 * k, none⟩ x).setCell ⟨g, 2 * k + 1, none⟩ y) pb CS (.slice (some ⟨g, 0, none⟩) en ec) xs mv mn (k + 1) := by
  obtain ⟨h1, h2, h3, h4, ⟨ao, cap, q1, q2⟩, h6⟩ := h
  obtain ⟨g2, cu2, e1, e2, e3, e4, e5, e6, e7⟩ := q2 (by omega)
  injection q1 with a1 a2 a3
  rw [e1] at a1
  injection a1 with a1
  injection a1 with a1 _ _
  subst a1
  subst a3
  refine ⟨Bk.far (T := 29) (Bk.far (T := 29) h1 (by omega) x) (by omega) y, h2, (h3.set e2 e3 _ x).set e2 e3 _ y, (h4.set g _ x).set g _ y, ⟨ao, ec, by rw [e1, a2], fun hn => ⟨g, _, e1, e2, e3, (e4.set x).set y, by simpa using e5, e6, fun j hj hkj => ?_⟩⟩, fun z hz => ((h6 z hz).set g _ x).set g _ y⟩
  rw [Array.getElem?_setIfInBounds_ne (by omega), Array.getElem?_setIfInBounds_ne (by omega), Array.getElem?_setIfInBounds_ne (by omega), Array.getElem?_setIfInBounds_ne (by omega)]
  exact e7 j hj (by omega)
theorem Sp.at_ {B D : Nat} {w wr : World} {pb : Nat} {CS : Array Value} {mv : Value} {xs : List Xt} {mn k g : Nat} {en ec : Nat} (h : Sp B D w wr pb CS (.slice (some ⟨g, 0, none⟩) en ec) xs mv mn k) (hk : k < xs.length) : wr.cell? ⟨g, 2 * k, none⟩ = some (.int .i64 xs[k].ty) ∧ wr.cell? ⟨g, 2 * k + 1, none⟩ = some xs[k].dv ∧ wr.frozen? ⟨g, 2 * k, none⟩ = false ∧ wr.frozen? ⟨g, 2 * k + 1, none⟩ = false := by
  obtain ⟨ao, cap, q1, q2⟩ := h.ex
  obtain ⟨g2, cu2, e1, e2, e3, e4, e5, e6, e7⟩ := q2 (by omega)
  injection q1 with a1 a2 a3
  rw [e1] at a1
  injection a1 with a1
  injection a1 with a1 _ _
  subst a1
  obtain ⟨t0, t1⟩ := e7 k hk (Nat.le_refl _)
  exact ⟨(e4.cell _).trans t0, (e4.cell _).trans t1, e4.frozen _, e4.frozen _⟩
set_option maxRecDepth 20000 in
set_option maxHeartbeats 8000000 in
theorem spoil_any (B D : Nat) (h : Hd) (ev : Value) (xs : List Xt) (key : Int) (nak : Bool) (mv : Value) (mn : Nat) (w : World) (he : Ew B D w ev xs 0) (hm : Dw B D w mv mn) (hd : ∀ x ∈ xs, Dw B D w x.dv x.dat.length) (hD : D ≤ w.heap.size) (hl : xs.length ≤ 65536) (hx : ∀ x ∈ xs, x.dat.length ≤ 65536) (hml : mn ≤ 65536) :
    Calls Try.prog 15 #[pkV h ev key nak mv] w fun e w' => e = .returned (.tuple #[]) ∧ Gap B D w w' := by
  have H : Hid (Ew B D w ev xs 0 ∧ Dw B D w mv mn ∧ (∀ x ∈ xs, Dw B D w x.dv x.dat.length) ∧ D ≤ w.heap.size) := ⟨he, hm, hd, hD⟩
  obtain ⟨ea, ec, rfl, -⟩ := he
  obtain ⟨ma, mc, rfl, -⟩ := hm
  obtain ⟨en, hen⟩ : ∃ L, L = xs.length := ⟨_, rfl⟩
  rw [← hen] at H ⊢
  have HL : Hid (en = xs.length ∧ ∀ x ∈ xs, x.dat.length ≤ 65536) := ⟨hen, hx⟩
  obtain ⟨EN, hEN⟩ : ∃ x : Int, (en : Int) = x := ⟨_, rfl⟩
  have HEN : Hid ((en : Int) = EN) := hEN
  have l1 : EN ≤ 65536 := by omega
  have l0 : 0 ≤ EN := by omega
  obtain ⟨MN, hMN⟩ : ∃ x : Int, (mn : Int) = x := ⟨_, rfl⟩
  have HMN : Hid ((mn : Int) = MN) := hMN
  have m1 : MN ≤ 65536 := by omega
  have m0 : 0 ≤ MN := by omega
  clear hl hx hml hen hd hD
  unfold pkV
  go_enter Try.func15, Try.ntmps15
  refine code_hid3 fun R1 hR1 => ?_
  go_wp2_with fail
  obtain ⟨W0, hW0⟩ : ∃ W, W = w.alloc (.cells #[.int .i64 h.leap, .int .i64 h.ver, .int .i64 h.mode, .int .i64 h.str, .int .i64 h.poll, .int .i64 h.prec, .int .i64 h.del, .int .i64 h.dis, .int .u32 h.rid, .int .u64 h.t0, .int .u64 h.t1, .int .u64 h.t2, .int .u64 h.t3, .slice ea en ec, .int .i64 key, .bool nak, .slice ma mn mc] 29) := ⟨_, rfl⟩
  have K0 : Hid (Sp B D w W0 w.heap.size #[.int .i64 h.leap, .int .i64 h.ver, .int .i64 h.mode, .int .i64 h.str, .int .i64 h.poll, .int .i64 h.prec, .int .i64 h.del, .int .i64 h.dis, .int .u32 h.rid, .int .u64 h.t0, .int .u64 h.t1, .int .u64 h.t2, .int .u64 h.t3, .slice ea en ec, .int .i64 key, .bool nak, .slice ma mn mc] (.slice ea en ec) xs (.slice ma mn mc) mn 0) := by
    have ha : Below w.heap.size w W0 := by rw [hW0]; exact (Below.refl _ _).alloc (Nat.le_refl _) _
    have hg : Gap B D w W0 := ⟨ha.os, ha.tape, ha.output, ha.size, fun k hk _ => ha.block k hk⟩
    have hb := ha.mono H.out.2.2.2
    exact ⟨by rw [hW0]; exact Pb.new w _, H.out.2.2.2, hg, H.out.2.1.below hb, H.out.1.below hb, fun x hx => (H.out.2.2.1 x hx).below hb⟩
  rw [← hW0, hR1.out]
  clear hW0 hR1
  go_wp2_with fail
  go_loopw [2] (fun i wr => ∃ (k : Nat) (KI : Int), i = .int .i64 KI ∧ 0 ≤ KI ∧ KI ≤ MN ∧ Hid (KI = (k : Int) ∧ Sp B D w wr w.heap.size #[.int .i64 h.leap, .int .i64 h.ver, .int .i64 h.mode, .int .i64 h.str, .int .i64 h.poll, .int .i64 h.prec, .int .i64 h.del, .int .i64 h.dis, .int .u32 h.rid, .int .u64 h.t0, .int .u64 h.t1, .int .u64 h.t2, .int .u64 h.t3, .slice ea en ec, .int .i64 key, .bool nak, .slice ma mn mc] (.slice ea en ec) xs (.slice ma mn mc) mn 0)) (fun i _ => (MN - intOf i).toNat)
  case atStart => exact ⟨0, 0, rfl, by omega, m0, rfl, K0.out⟩
  case round =>
    clear K0
    obtain ⟨k, KI, rfl, k0, k1, hK⟩ := hrel
    have c16 : wr.cell? ⟨w.heap.size, 16, none⟩ = some (.slice ma mn mc) := by obtain ⟨_, _, _, _, _, _, _, _, _, _, _, _, _, _, _, _, q⟩ := hK.out.2.pk.ck.c17; exact q
    by_cases hlt : KI < MN
    · obtain ⟨ao, cap, hv, hg⟩ := hK.out.2.ma
      obtain ⟨g, cu, e1, e2, e3, e4, e5, e6⟩ := hg (by have := HMN.out; omega)
      injection hv with a1 a2 a3
      rw [e1] at a1
      have hix : ∀ u, Sem.run Try.prog (Instr.indexAt 27 (.slice ma mn mc) (.int .i64 KI)) u = .ok (.pointer (some ⟨g, k, none⟩)) u := fun u => by
        have := idx_run (ao := ma) mn mc k a1 (by have := hK.out.1; have := HMN.out; omega) u
        rw [hK.out.1, this, add_own]
      have hkc : k < cu.size := by have := hK.out.1; have := HMN.out; omega
      have jk := e4.cell k
      rw [Array.getElem?_eq_getElem hkc] at jk
      have fk := e4.frozen k
      obtain ⟨yk, hyk⟩ : ∃ y, y = cu[k] := ⟨_, rfl⟩
      rw [← hyk] at jk
      have KN : Hid (Sp B D w (wr.setCell ⟨g, k, none⟩ (.int .u8 63)) w.heap.size #[.int .i64 h.leap, .int .i64 h.ver, .int .i64 h.mode, .int .i64 h.str, .int .i64 h.poll, .int .i64 h.prec, .int .i64 h.del, .int .i64 h.dis, .int .u32 h.rid, .int .u64 h.t0, .int .u64 h.t1, .int .u64 h.t2, .int .u64 h.t3, .slice ea en ec, .int .i64 key, .bool nak, .slice ma mn mc] (.slice ea en ec) xs (.slice ma mn mc) mn 0) := hK.out.2.data e2 e3 e4 k _
      clear hyk hg e1 e2 e3 e4 e5 e6 a1 a2 a3 hkc
      go_wp2_with fail
      exact ⟨⟨k + 1, KI + 1, rfl, by omega, by omega, by have := hK.out.1; omega, KN.out⟩, by simp [intOf]; omega⟩
    · have K1 : Hid (Sp B D w wr w.heap.size #[.int .i64 h.leap, .int .i64 h.ver, .int .i64 h.mode, .int .i64 h.str, .int .i64 h.poll, .int .i64 h.prec, .int .i64 h.del, .int .i64 h.dis, .int .u32 h.rid, .int .u64 h.t0, .int .u64 h.t1, .int .u64 h.t2, .int .u64 h.t3, .slice ea en ec, .int .i64 key, .bool nak, .slice ma mn mc] (.slice ea en ec) xs (.slice ma mn mc) mn 0) := hK.out.2
      clear hK
      go_wp2_with fail
      go_loopw [3] (fun i w2 => ∃ (k : Nat) (KI : Int), i = .int .i64 KI ∧ 0 ≤ KI ∧ KI ≤ EN ∧ Hid (KI = (k : Int) ∧ Sp B D w w2 w.heap.size #[.int .i64 h.leap, .int .i64 h.ver, .int .i64 h.mode, .int .i64 h.str, .int .i64 h.poll, .int .i64 h.prec, .int .i64 h.del, .int .i64 h.dis, .int .u32 h.rid, .int .u64 h.t0, .int .u64 h.t1, .int .u64 h.t2, .int .u64 h.t3, .slice ea en ec, .int .i64 key, .bool nak, .slice ma mn mc] (.slice ea en ec) xs (.slice ma mn mc) mn k)) (fun i _ => (EN - intOf i).toNat)
      case atStart => exact ⟨0, 0, rfl, by omega, l0, rfl, K1.out⟩
      case round =>
        clear K1 c16
        obtain ⟨k2, K2, rfl, k20, k21, hK2⟩ := hrel
        obtain ⟨wa, rfl⟩ : ∃ wa, wa = wr := ⟨_, rfl⟩
        have c13 : wa.cell? ⟨w.heap.size, 13, none⟩ = some (.slice ea en ec) := by obtain ⟨_, _, _, _, _, _, _, _, _, _, _, _, _, q, _⟩ := hK2.out.2.pk.ck.c17; exact q
        by_cases hlt2 : K2 < EN
        · have hkx : k2 < xs.length := by have := HL.out.1; have := HEN.out; have := hK2.out.1; omega
          have HKX : Hid (k2 < xs.length) := hkx
          obtain ⟨g, hea⟩ : ∃ g, ea = some ⟨g, 0, none⟩ := by
            obtain ⟨ao, cap, hv, hg⟩ := hK2.out.2.ex
            obtain ⟨g, cu, e1, -⟩ := hg (by omega)
            injection hv with a1 a2 a3
            exact ⟨g, a1.trans e1⟩
          subst hea
          have hix : ∀ u, Sem.run Try.prog (Instr.indexAt 26 (.slice (some ⟨g, 0, none⟩) en ec) (.int .i64 K2)) u = .ok (.pointer (some ⟨g, 2 * k2, none⟩)) u := fun u => by
            have := xidx_run (ao := some ⟨g, 0, none⟩) en ec k2 rfl (by have := hK2.out.1; have := HEN.out; omega) u
            rw [hK2.out.1, this, add_own, Nat.mul_comm]
          obtain ⟨x, hx⟩ : ∃ x, x = xs[k2] := ⟨_, rfl⟩
          have HX : Hid (x = xs[k2] ∧ x ∈ xs) := ⟨hx, by rw [hx]; exact List.getElem_mem _⟩
          obtain ⟨da, dc, hdv, -⟩ := hK2.out.2.da x HX.out.2
          obtain ⟨dn, hdn⟩ : ∃ n, n = x.dat.length := ⟨_, rfl⟩
          rw [← hdn] at hdv
          have HDV : Hid (x.dv = .slice da dn dc ∧ dn = x.dat.length) := ⟨hdv, hdn⟩
          obtain ⟨DN, hDN⟩ : ∃ y : Int, (dn : Int) = y := ⟨_, rfl⟩
          have HDN : Hid ((dn : Int) = DN) := hDN
          have d1 : DN ≤ 65536 := by have := HL.out.2 x HX.out.2; omega
          have d0 : 0 ≤ DN := by omega
          have HK2 : Hid (K2 = (k2 : Int)) := hK2.out.1
          have S2 : Hid _ := hK2.out.2
          clear hdv hdn hx hkx hK2
          go_wp2_with fail
          go_loopw [4] (fun i w3 => ∃ (k : Nat) (KI : Int), i = .int .i64 KI ∧ 0 ≤ KI ∧ KI ≤ DN ∧ Hid (KI = (k : Int) ∧ Sp B D w w3 w.heap.size #[.int .i64 h.leap, .int .i64 h.ver, .int .i64 h.mode, .int .i64 h.str, .int .i64 h.poll, .int .i64 h.prec, .int .i64 h.del, .int .i64 h.dis, .int .u32 h.rid, .int .u64 h.t0, .int .u64 h.t1, .int .u64 h.t2, .int .u64 h.t3, .slice (some ⟨g, 0, none⟩) en ec, .int .i64 key, .bool nak, .slice ma mn mc] (.slice (some ⟨g, 0, none⟩) en ec) xs (.slice ma mn mc) mn k2)) (fun i _ => (DN - intOf i).toNat)
          case atStart => exact ⟨0, 0, rfl, by omega, d0, rfl, S2.out⟩
          case round =>
            clear S2 c13
            obtain ⟨k3, K3, rfl, k30, k31, hK3⟩ := hrel
            obtain ⟨wc, rfl⟩ : ∃ wc, wc = wr := ⟨_, rfl⟩
            have c13 : wc.cell? ⟨w.heap.size, 13, none⟩ = some (.slice (some ⟨g, 0, none⟩) en ec) := by obtain ⟨_, _, _, _, _, _, _, _, _, _, _, _, _, q, _⟩ := hK3.out.2.pk.ck.c17; exact q
            obtain ⟨t0', t1', f0, f1⟩ := hK3.out.2.at_ HKX.out
            have t0 : wc.cell? ⟨g, 2 * k2, none⟩ = some (.int .i64 x.ty) := by rw [HX.out.1]; exact t0'
            have t1 : wc.cell? ⟨g, 2 * k2 + 1, none⟩ = some (.slice da dn dc) := by rw [← HDV.out.1, HX.out.1]; exact t1'
            clear t0' t1'
            by_cases hlt3 : K3 < DN
            · obtain ⟨ao3, cap3, hv3, hg3⟩ := hK3.out.2.da x HX.out.2
              obtain ⟨g3, cu3, e1, e2, e3, e4, e5, e6⟩ := hg3 (by have := HDN.out; have := HDV.out.2; omega)
              rw [HDV.out.1] at hv3
              injection hv3 with a1 a2 a3
              rw [e1] at a1
              have hix3 : ∀ u, Sem.run Try.prog (Instr.indexAt 27 (.slice da dn dc) (.int .i64 K3)) u = .ok (.pointer (some ⟨g3, k3, none⟩)) u := fun u => by
                have := idx_run (ao := da) dn dc k3 a1 (by have := hK3.out.1; have := HDN.out; omega) u
                rw [hK3.out.1, this, add_own]
              have hkc : k3 < cu3.size := by have := hK3.out.1; have := HDN.out; have := HDV.out.2; omega
              have jk := e4.cell k3
              rw [Array.getElem?_eq_getElem hkc] at jk
              have fk := e4.frozen k3
              obtain ⟨yk, hyk⟩ : ∃ y, y = cu3[k3] := ⟨_, rfl⟩
              rw [← hyk] at jk
              have KN : Hid (Sp B D w (wc.setCell ⟨g3, k3, none⟩ (.int .u8 63)) w.heap.size #[.int .i64 h.leap, .int .i64 h.ver, .int .i64 h.mode, .int .i64 h.str, .int .i64 h.poll, .int .i64 h.prec, .int .i64 h.del, .int .i64 h.dis, .int .u32 h.rid, .int .u64 h.t0, .int .u64 h.t1, .int .u64 h.t2, .int .u64 h.t3, .slice (some ⟨g, 0, none⟩) en ec, .int .i64 key, .bool nak, .slice ma mn mc] (.slice (some ⟨g, 0, none⟩) en ec) xs (.slice ma mn mc) mn k2) := hK3.out.2.data e2 e3 e4 k3 _
              clear hyk hg3 e1 e2 e3 e4 e5 e6 a1 a2 a3 hkc t0 f0 f1
              go_wp2_with fail
              exact ⟨⟨k3 + 1, K3 + 1, rfl, by omega, by omega, by have := hK3.out.1; omega, KN.out⟩, by simp [intOf]; omega⟩
            · have KN : Hid (Sp B D w ((wc.setCell ⟨g, 2 * k2, none⟩ (.int .i64 (-5))).setCell ⟨g, 2 * k2 + 1, none⟩ (.slice none 0 0)) w.heap.size #[.int .i64 h.leap, .int .i64 h.ver, .int .i64 h.mode, .int .i64 h.str, .int .i64 h.poll, .int .i64 h.prec, .int .i64 h.del, .int .i64 h.dis, .int .u32 h.rid, .int .u64 h.t0, .int .u64 h.t1, .int .u64 h.t2, .int .u64 h.t3, .slice (some ⟨g, 0, none⟩) en ec, .int .i64 key, .bool nak, .slice ma mn mc] (.slice (some ⟨g, 0, none⟩) en ec) xs (.slice ma mn mc) mn (k2 + 1)) := hK3.out.2.elem HKX.out _ _
              clear hK3
              go_wp2_with fail
              exact ⟨⟨k2 + 1, K2 + 1, rfl, by omega, by omega, by have := HK2.out; omega, KN.out⟩, by simp [intOf]; omega⟩
        · have KE : Hid (Gap B D w wa) := hK2.out.2.gp
          clear hK2
          go_wp2_with fail
          go_end0
          exact ⟨rfl, KE.out⟩
end Go.Proofs.Ytdobghhjlfffpaa
