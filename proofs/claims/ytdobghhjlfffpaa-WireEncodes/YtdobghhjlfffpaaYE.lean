/- What Decode of package wire returns. -/
import Derived.Test.YtdobghhjlfffpaaYD
import Derived.Test.YtdobghhjlfffpaaWK
import Derived.Laws.ResultCell
namespace Go.Proofs.Ytdobghhjlfffpaa
open Go.RowKit
/-- may the version and the mode be? -/
def vmB (bs : List Int) : Bool := wiB (fv bs 0 1 / 8 % 8) 1 4 && wiB (fv bs 0 1 % 8) 1 5
/-- the error of Decode -/
def dcE (bs : List Int) : Int := if 512 < bs.length then 31 else if bs.length < 48 then 30 else if vmB bs = true then (if (dL 4 (bs.drop 48)).1 = 0 then enE (dL 4 (bs.drop 48)).2.2 0 else (dL 4 (bs.drop 48)).1) else 32
/-- what it has read -/
def dcV (bs : List Int) (h : Hd) (xs : List Xt) (key : Int) (nak : Bool) (mac : List Int) : Prop :=
  h = hdD bs ∧ prs xs = (dL 4 (bs.drop 48)).2.1 ∧ key = enK (dL 4 (bs.drop 48)).2.2 0 ∧ mac = enM (dL 4 (bs.drop 48)).2.2 0 ∧ nak = decide ((dL 4 (bs.drop 48)).2.2.length = 4)
/-- the loop's measure: what is left, if there is no error -/
def rdM (q : Nat) (w : World) : Nat := match w.cell? ⟨q, 0, none⟩, w.cell? ⟨q, 1, none⟩ with
  | some (.slice _ n _), some (.int _ e) => if e = 0 then n + 1 else 0
  | _, _ => 0
theorem rdM_eq {N q : Nat} {w : World} {bs : List Int} {er : Int} (h : RdX N q w bs er) : rdM q w = if er = 0 then bs.length + 1 else 0 := by
  obtain ⟨ao, cap, r⟩ := h
  unfold rdM
  rw [r.c0, r.c1]
/-- the loop's memory -/
structure DL (N q p : Nat) (w v : World) (h : Hd) (b1 : List Int) (er1 : Int) (ev : Value) (xs : List Xt) (bs : List Int) (er : Int) : Prop where
  rd : RdX N q v bs er
  z : Bk w.heap.size v #[.int .i64 0, .int .i64 0, .int .i64 0, .int .i64 0, .int .i64 0, .int .i64 0, .int .i64 0, .int .i64 0, .int .u32 0, .int .u64 0, .int .u64 0, .int .u64 0, .int .u64 0, .slice none 0 0, .int .i64 0, .bool false, .slice none 0 0] 29
  b : Bk p v #[.int .i64 h.leap, .int .i64 h.ver, .int .i64 h.mode, .int .i64 h.str, .int .i64 h.poll, .int .i64 h.prec, .int .i64 h.del, .int .i64 h.dis, .int .u32 h.rid, .int .u64 h.t0, .int .u64 h.t1, .int .u64 h.t2, .int .u64 h.t3, ev, .int .i64 0, .bool false, .slice none 0 0] 29
  ox : OX v (p + 1) ev xs
  bl : Below w.heap.size w v
  st : St b1 er1 xs bs er
  ln : bs.length ≤ 10000000
  nx : xs.length ≤ 5
theorem set13 (a0 a1 a2 a3 a4 a5 a6 a7 a8 a9 a10 a11 a12 a13 a14 a15 a16 x : Value) : (#[a0, a1, a2, a3, a4, a5, a6, a7, a8, a9, a10, a11, a12, a13, a14, a15, a16] : Array Value).setIfInBounds 13 x = (#[a0, a1, a2, a3, a4, a5, a6, a7, a8, a9, a10, a11, a12, x, a14, a15, a16] : Array Value) := by kernel_rfl
theorem set456 (a0 a1 a2 a3 a4 a5 a6 a7 a8 a9 a10 a11 a12 a13 a14 a15 a16 x y z : Value) : (((#[a0, a1, a2, a3, a4, a5, a6, a7, a8, a9, a10, a11, a12, a13, a14, a15, a16] : Array Value).setIfInBounds 14 x).setIfInBounds 16 y).setIfInBounds 15 z = (#[a0, a1, a2, a3, a4, a5, a6, a7, a8, a9, a10, a11, a12, a13, x, z, y] : Array Value) := by kernel_rfl
theorem res_pk2 {fn : Func} {p u : Tmp} (h : fn.results = #[.cell p 29, .tmp u]) (tmps : Array Value) (w : World) (g : Nat) (cs : Array Value) (x : Value) (hp : tmps.getD p undef = .pointer (some ⟨g, 0, none⟩)) (hu : tmps.getD u undef = x) (hB : Bk g w cs 29) (hs : cs.size = 17) : (results fn tmps).run Try.prog w = .ok (.tuple #[.agg cs, x]) w := by
  obtain ⟨fs, hun⟩ := pk_under
  have := run_loadVar_row (P := Try.prog) w g 29 29 cs (0, 0) _ hB hun rfl (by rw [hs]; exact pk_info)
  rw [results_cell_tmp h, hp, hu]
  simp [asAddr, this]
/-- a packet is stored into its block -/
theorem step_spk {ops : Array Oper} {rest : List Oper} {o : Oper} {a : Act} {w : World} {Q : Exit → Act → World → Prop} (hw : Region.wanted o (yielded ops a.tmps) = true) (x y : Operand) (ho : o.op = .store 29 x y)
    (g : Nat) (cells : Array Value) (hx : a.eval x = .pointer (some ⟨g, 0, none⟩)) (hy : a.eval y = .agg cells) (old : Array Value) (hB : Bk g w old 29) (hs : cells.size = 17) (hold : old.size = 17) (h1 : cells.all (·.oneCell') = true)
    (h : wpList Try.prog ops Q rest (a.put o.dst undef) (w.setRow g cells)) : wpList Try.prog ops Q (o :: rest) a w :=
  wpList_step fun K hK => by rw [if_pos hw]; exact wp_store_row _ x y ho g cells hx hy _ old hB (by rw [hs]; exact pk_info) (by rw [hs, hold]) h1 (hK _ _ h)
theorem mod_row (w : World) (g : Nat) (c : Array Value) : w.grownBy (w.setRow g c) (some g) := ⟨rfl, rfl, rfl, by simp, fun k _ hk => setRow_other w g k c (fun e => hk (by rw [e]))⟩
theorem Bk.row {p : Nat} {v : World} {cs c : Array Value} {T : TypeId} (h : Bk p v cs T) : Bk p (v.setRow p c) c T := setRow_heap v p cs c T (0, 0) h
theorem OX.len {w : World} {B : Nat} {ea : Option Addr} {en ec : Nat} {xs : List Xt} (h : OX w B (.slice ea en ec) xs) : en = xs.length := by
  rcases h.row.2 with ⟨h1, h2⟩ | ⟨g, cap, cur, h1, _⟩
  · injection h1 with _ h1 _; omega
  · injection h1 with _ h1 _
theorem dc_pure {bs b1 b2 : List Int} {h : Hd} {E0 er1 E1 er : Int} {C1 C2 : Bool} {xs : List Xt} (hE0 : E0 = rk (decide ((bs.length : Int) ≤ 512)) 0 31) (hpg : Pg 48 bs E0 48 b1 er1) (hh : er1 = 0 → h = hdD bs) (hE1 : E1 = rk (C1 && C2) er1 32) (hC1 : C1 = wiB h.ver 1 4) (hC2 : C2 = wiB h.mode 1 5)
    (s1 : E1 ≠ 0 → er = E1) (s2 : E1 = 0 → (dL 4 b1).1 = er ∧ (er = 0 → prs xs = (dL 4 b1).2.1 ∧ b2 = (dL 4 b1).2.2)) :
    enE b2 er = dcE bs ∧ (dcE bs = 0 → h = hdD bs ∧ prs xs = (dL 4 (bs.drop 48)).2.1 ∧ er = 0 ∧ b2 = (dL 4 (bs.drop 48)).2.2) := by
  rcases hpg with ⟨h1, h2, h3, h4⟩ | ⟨h1, h2, h3⟩ | ⟨h1, h2⟩
  · have hl : ¬ 512 < bs.length := fun x => by
      rw [rk_0, if_neg (by simp; omega)] at hE0
      omega
    have hhd := hh h2
    have hvm : (C1 && C2) = vmB bs := by rw [hC1, hC2, hhd]; rfl
    rw [hvm, h2, rk_0] at hE1
    subst h4
    unfold dcE
    rw [if_neg hl, if_neg (by omega)]
    by_cases hv : vmB bs = true
    · rw [if_pos hv] at hE1 ⊢
      obtain ⟨t1, t2⟩ := s2 hE1
      rw [t1]
      by_cases hz : er = 0
      · obtain ⟨t3, t4⟩ := t2 hz
        rw [if_pos hz, hz, ← t4]
        exact ⟨rfl, fun _ => ⟨hhd, t3, rfl, rfl⟩⟩
      · rw [if_neg hz]
        exact ⟨enE_ne hz, fun x => absurd x hz⟩
    · rw [if_neg hv] at hE1 ⊢
      have := s1 (by rw [hE1]; decide)
      rw [this, hE1]
      exact ⟨enE_ne (by decide), fun x => absurd x (by decide)⟩
  · have hl : ¬ 512 < bs.length := by omega
    rw [h2, rk_ne (by decide)] at hE1
    have := s1 (by rw [hE1]; decide)
    unfold dcE
    rw [if_neg hl, if_pos h3, this, hE1]
    exact ⟨enE_ne (by decide), fun x => absurd x (by decide)⟩
  · have hl : 512 < bs.length := by
      by_cases hc : 512 < bs.length
      · exact hc
      · exfalso
        apply h1
        rw [hE0, rk_0, if_pos (decide_eq_true (by omega))]
    have e31 : E0 = 31 := by rw [hE0, rk_0, if_neg (by simp; omega)]
    rw [h2, e31, rk_ne (by decide)] at hE1
    have := s1 (by rw [hE1]; decide)
    unfold dcE
    rw [if_pos hl, this, hE1]
    exact ⟨enE_ne (by decide), fun x => absurd x (by decide)⟩
theorem is_app {ops : Array Oper} {o : Oper} {a : Act} {w : World} {K : Act → World → Prop} {Q : Exit → Act → World → Prop} {E : Prop} (s x : Operand) (t : Array TypeId) (_ho : o.op = .call { callee := .builtin .append, args := #[s, x], argTypes := t }) (h : if Region.wanted o (yielded ops a.tmps) = true then Oper.wp Try.prog o a w K Q else E) : if Region.wanted o (yielded ops a.tmps) = true then Oper.wp Try.prog o a w K Q else E := h
theorem OX.rowN {w : World} {B : Nat} {ea : Option Addr} {en ec : Nat} {xs : List Xt} (h : OX w B (.slice ea en ec) xs) : w.ownsRow B 49 2 (.slice ea en ec) en (XU xs) := by
  have := h.len
  subst this
  exact h.row
/-- behind append -/
theorem DL.app {N q p : Nat} {w w7 w8 : World} {h : Hd} {ea : Option Addr} {en ec : Nat} {xs : List Xt} {ty : Int} {dao : Option Addr} {dn dcp : Nat} {dat b3 : List Int} {er3 : Int} {v8 : Value}
    (ox : OX w7 (p + 1) (.slice ea en ec) xs) (b : Bk p w7 #[.int .i64 h.leap, .int .i64 h.ver, .int .i64 h.mode, .int .i64 h.str, .int .i64 h.poll, .int .i64 h.prec, .int .i64 h.del, .int .i64 h.dis, .int .u32 h.rid, .int .u64 h.t0, .int .u64 h.t1, .int .u64 h.t2, .int .u64 h.t3, .slice ea en ec, .int .i64 0, .bool false, .slice none 0 0] 29) (z : Bk w.heap.size w7 #[.int .i64 0, .int .i64 0, .int .i64 0, .int .i64 0, .int .i64 0, .int .i64 0, .int .i64 0, .int .i64 0, .int .u32 0, .int .u64 0, .int .u64 0, .int .u64 0, .int .u64 0, .slice none 0 0, .int .i64 0, .bool false, .slice none 0 0] 29) (bl : Below w.heap.size w w7) (od : Own w7 (p + 1) (.slice dao dn dcp) dat) (rd : RdX N q w7 b3 er3) (hen : en = xs.length) (hq : w.heap.size < q) (hp : q < p)
    (hr8 : w8.ownsRow (p + 1) 49 2 v8 (en + 1) (XU xs ++ [.int .i64 ty, .slice dao dn dcp])) (hg8 : (w7.alloc (.cells #[.int .i64 ty, .slice dao dn dcp] 49)).grownBy w8 (Value.slice ea en ec).ownBlock) :
    ∃ ea8 en8 ec8, v8 = .slice ea8 en8 ec8 ∧ RdX N q w8 b3 er3 ∧ Bk w.heap.size w8 #[.int .i64 0, .int .i64 0, .int .i64 0, .int .i64 0, .int .i64 0, .int .i64 0, .int .i64 0, .int .i64 0, .int .u32 0, .int .u64 0, .int .u64 0, .int .u64 0, .int .u64 0, .slice none 0 0, .int .i64 0, .bool false, .slice none 0 0] 29 ∧ Bk p w8 #[.int .i64 h.leap, .int .i64 h.ver, .int .i64 h.mode, .int .i64 h.str, .int .i64 h.poll, .int .i64 h.prec, .int .i64 h.del, .int .i64 h.dis, .int .u32 h.rid, .int .u64 h.t0, .int .u64 h.t1, .int .u64 h.t2, .int .u64 h.t3, .slice ea en ec, .int .i64 0, .bool false, .slice none 0 0] 29 ∧ OX w8 (p + 1) v8 (xs ++ [⟨ty, .slice dao dn dcp, dat⟩]) ∧ Below w.heap.size w w8 := by
  have hpl := b.lt
  have ox' := ox.alloc (.cells #[.int .i64 ty, .slice dao dn dcp] 49)
  have hb8 : Below (p + 1) (w7.alloc (.cells #[.int .i64 ty, .slice dao dn dcp] 49)) w8 := (Below.refl _ _).grown hg8 (by simp; omega) (fun k e => (ox'.row.lt k e).1)
  obtain ⟨ea8, en8, ec8, hv8⟩ : ∃ a n c, v8 = .slice a n c := by
    rcases hr8.2 with ⟨k1, _⟩ | ⟨g, cap, cur, k1, _⟩
    · exact ⟨_, _, _, k1⟩
    · exact ⟨_, _, _, k1⟩
  refine ⟨ea8, en8, ec8, hv8, (rd.below ((Below.refl w7.heap.size w7).alloc (Nat.le_refl _) _) (by omega)).below hb8 (by omega), (z.alloc _).below hb8 (by omega), (b.alloc _).below hb8 (by omega), ?_, (bl.alloc (by omega) _).trans (hb8.mono (by omega))⟩
  rw [hen] at hr8
  exact ox'.kept hr8 hg8 (World.ownsRow.alloc od _)
/-- the next round's memory -/
theorem DL.next {N q p : Nat} {w v : World} {h : Hd} {b1 : List Int} {er1 : Int} {ev ev' : Value} {xs' : List Xt} {bs : List Int} {er : Int} (rd : RdX N q v bs er) (z : Bk w.heap.size v #[.int .i64 0, .int .i64 0, .int .i64 0, .int .i64 0, .int .i64 0, .int .i64 0, .int .i64 0, .int .i64 0, .int .u32 0, .int .u64 0, .int .u64 0, .int .u64 0, .int .u64 0, .slice none 0 0, .int .i64 0, .bool false, .slice none 0 0] 29)
    (b : Bk p v #[.int .i64 h.leap, .int .i64 h.ver, .int .i64 h.mode, .int .i64 h.str, .int .i64 h.poll, .int .i64 h.prec, .int .i64 h.del, .int .i64 h.dis, .int .u32 h.rid, .int .u64 h.t0, .int .u64 h.t1, .int .u64 h.t2, .int .u64 h.t3, ev, .int .i64 0, .bool false, .slice none 0 0] 29) (ox : OX v (p + 1) ev' xs') (bl : Below w.heap.size w v) (st : St b1 er1 xs' bs er) (ln : bs.length ≤ 10000000) (nx : xs'.length ≤ 5) (hq : w.heap.size < q) (hp : q < p) (hN : N = w.heap.size + 1) :
    DL N q p w (v.setCell ⟨p, 13, none⟩ ev') h b1 er1 ev' xs' bs er := by
  have b' := b.set (j := 13) ev'
  rw [set13] at b'
  exact ⟨rd.far (by omega) (by omega) _, z.far (by omega) _, b', ox.low (by omega), bl.setCell (by show w.heap.size ≤ p; omega) _, st, ln, nx⟩
/-- is nothing wrong ahead of what ends a packet? -/
def GG (bs : List Int) : Prop := 48 ≤ bs.length ∧ bs.length ≤ 512 ∧ vmB bs = true ∧ (dL 4 (bs.drop 48)).1 = 0
theorem gg_e1 {bs b1 : List Int} {h : Hd} {E0 er1 E1 : Int} {C1 C2 : Bool} (hE0 : E0 = rk (decide ((bs.length : Int) ≤ 512)) 0 31) (hpg : Pg 48 bs E0 48 b1 er1) (hh : er1 = 0 → h = hdD bs) (hE1 : E1 = rk (C1 && C2) er1 32) (hC1 : C1 = wiB h.ver 1 4) (hC2 : C2 = wiB h.mode 1 5) (g : GG bs) : E1 = 0 ∧ b1 = bs.drop 48 := by
  obtain ⟨g1, g2, g3, _⟩ := g
  rcases hpg with ⟨h1, h2, h3, h4⟩ | ⟨h1, h2, h3⟩ | ⟨h1, h2⟩
  · have hvm : (C1 && C2) = vmB bs := by rw [hC1, hC2, hh h2]; rfl
    exact ⟨by rw [hE1, hvm, g3, h2]; rfl, h4⟩
  · omega
  · exfalso; apply h1; rw [hE0, rk_0, if_pos (decide_eq_true (by omega))]
theorem gg_of {bs b1 : List Int} {h : Hd} {E0 er1 E1 er : Int} {C1 C2 : Bool} (hE0 : E0 = rk (decide ((bs.length : Int) ≤ 512)) 0 31) (hpg : Pg 48 bs E0 48 b1 er1) (hh : er1 = 0 → h = hdD bs) (hE1 : E1 = rk (C1 && C2) er1 32) (hC1 : C1 = wiB h.ver 1 4) (hC2 : C2 = wiB h.mode 1 5)
    (s1 : E1 ≠ 0 → er = E1) (s2 : E1 = 0 → (dL 4 b1).1 = er) (hz : er = 0) : GG bs := by
  by_cases he : E1 = 0
  · have hr := (rk_zero (by decide)).1 (hE1.symm.trans he)
    rcases hpg with ⟨h1, h2, h3, h4⟩ | ⟨h1, h2, h3⟩ | ⟨h1, h2⟩
    · have hvm : (C1 && C2) = vmB bs := by rw [hC1, hC2, hh h2]; rfl
      have hl : bs.length ≤ 512 := by
        by_cases hc : bs.length ≤ 512
        · exact hc
        · rw [rk_0, if_neg (by simp; omega)] at hE0; omega
      exact ⟨h3, hl, by rw [← hvm]; exact hr.2, by rw [← h4, s2 he]; exact hz⟩
    · omega
    · omega
  · exact absurd ((s1 he).symm.trans hz) he
set_option maxRecDepth 4000 in
set_option maxHeartbeats 8000000 in
theorem decode_A (v : Value) (bs : List Int) (w : World) (hl : bs.length ≤ 10000000) (h : Sv w.heap.size w v bs) (hg : GG bs) :
    Calls Try.prog 17 #[v] w fun e' w' => ∃ (h : Hd) (ev : Value) (xs : List Xt) (key : Int) (nak : Bool) (mv : Value) (mac : List Int), e' = .returned (.tuple #[pkV h ev key nak mv, .int .i64 (dcE bs)]) ∧ Below w.heap.size w w' ∧ OX w' w.heap.size ev xs ∧ Own w' w.heap.size mv mac ∧ (dcE bs = 0 → dcV bs h xs key nak mac) ∧ (dcE bs ≠ 0 → h = ⟨0, 0, 0, 0, 0, 0, 0, 0, 0, 0, 0, 0, 0⟩ ∧ ev = .slice none 0 0 ∧ key = 0 ∧ nak = false ∧ mv = .slice none 0 0 ∧ xs = [] ∧ mac = []) := by
  have H : Hid (Sv w.heap.size w v bs) := h
  have HL : Hid (bs.length ≤ 10000000) := hl
  have HG : Hid (GG bs) := hg
  clear h hl hg
  go_enter Try.func17, Try.ntmps17
  go_wp2_with fail
  refine (read_any v bs _ ((H.out.below (by repeat' (first | with_reducible exact Below.refl _ _ | with_reducible refine Below.setCell ?_ (by first | (simp; done) | (simp; omega) | omega) _ | with_reducible refine below_drewN ?_ _ | with_reducible refine Below.drew ?_ | with_reducible refine Below.alloc ?_ (by first | (simp; done) | (simp; omega) | omega) _)) (Nat.le_refl _)).mono (by simp))).mono ?_
  rintro e' w1 ⟨v', rfl, hb1, hs1⟩
  have B0 : Hid (Bk w.heap.size w1 #[.int .i64 0, .int .i64 0, .int .i64 0, .int .i64 0, .int .i64 0, .int .i64 0, .int .i64 0, .int .i64 0, .int .u32 0, .int .u64 0, .int .u64 0, .int .u64 0, .int .u64 0, .slice none 0 0, .int .i64 0, .bool false, .slice none 0 0] 29) := (Bk.new w _ _).below hb1 (by simp)
  have B1 : Hid (Below w.heap.size w w1) := Below.trans (by repeat' (first | with_reducible exact Below.refl _ _ | with_reducible refine Below.setCell ?_ (by first | (simp; done) | (simp; omega) | omega) _ | with_reducible refine below_drewN ?_ _ | with_reducible refine Below.drew ?_ | with_reducible refine Below.alloc ?_ (by first | (simp; done) | (simp; omega) | omega) _)) (hb1.mono (by simp))
  have sz1 : w.heap.size < w1.heap.size := B0.out.lt
  have S1 : Hid (Sv (w.heap.size + 1) w1 v' bs) := hs1.mono (by simp)
  obtain ⟨ao, cap, rfl, hc, hn, hrs, hok⟩ := hs1
  clear hb1 hrs hc hn hok
  obtain ⟨E0, hE0⟩ : ∃ E, E = rk (decide ((bs.length : Int) ≤ 512)) 0 31 := ⟨_, rfl⟩
  rw [← hE0]
  have HE0 : Hid (E0 = rk (decide ((bs.length : Int) ≤ 512)) 0 31) := hE0
  clear hE0
  obtain ⟨BL, hBL⟩ : ∃ L, L = bs.length := ⟨_, rfl⟩
  rw [← hBL]
  have R2 : Hid (RdX (w.heap.size + 1) w1.heap.size (w1.alloc (.cells #[.slice ao BL cap, .int .i64 E0] 61)) bs E0) := by
    obtain ⟨ao', cap', hv, hc, hn, hrs, hok⟩ := S1.out
    injection hv with q1 q2 q3
    subst q1 q3
    rw [hBL]
    exact ⟨ao, cap, by simp, by simp, fun o => by simp, by simp, by omega, hrs.below ((Below.refl w1.heap.size w1).alloc (Nat.le_refl _) _) (by omega), hok, hc, hn⟩
  have B2 : Hid (Bk w.heap.size (w1.alloc (.cells #[.slice ao BL cap, .int .i64 E0] 61)) #[.int .i64 0, .int .i64 0, .int .i64 0, .int .i64 0, .int .i64 0, .int .i64 0, .int .i64 0, .int .i64 0, .int .u32 0, .int .u64 0, .int .u64 0, .int .u64 0, .int .u64 0, .slice none 0 0, .int .i64 0, .bool false, .slice none 0 0] 29) := B0.out.alloc _
  have L2 : Hid (Below w.heap.size w (w1.alloc (.cells #[.slice ao BL cap, .int .i64 E0] 61))) := B1.out.alloc (by omega) _
  clear hBL B0 B1 S1
  obtain ⟨q, hq⟩ : ∃ q, q = w1.heap.size := ⟨_, rfl⟩
  rw [← hq] at R2 sz1
  go_wp2_with fail
  rw [← hq]
  obtain ⟨w2, hw2⟩ : ∃ w2, w2 = w1.alloc (.cells #[.slice ao BL cap, .int .i64 E0] 61) := ⟨_, rfl⟩
  rw [← hw2] at R2 B2 L2 ⊢
  clear hw2 hq
  refine (rheader_any (w.heap.size + 1) q bs E0 w2 R2.out).mono ?_
  rintro e' w3 ⟨h, bs1, er1, rfl, hg3, hr3, hpg, hln, hval⟩
  have HPG : Hid (Pg 48 bs E0 48 bs1 er1 ∧ (er1 = 0 → h = hdD bs) ∧ bs1.length ≤ 10000000) := ⟨hpg, hval, Nat.le_trans hln HL.out⟩
  have sz2 : w.heap.size < w2.heap.size := B2.out.lt
  have B3 : Hid (Bk w.heap.size w3 #[.int .i64 0, .int .i64 0, .int .i64 0, .int .i64 0, .int .i64 0, .int .i64 0, .int .i64 0, .int .i64 0, .int .u32 0, .int .u64 0, .int .u64 0, .int .u64 0, .int .u64 0, .slice none 0 0, .int .i64 0, .bool false, .slice none 0 0] 29) := B2.out.mod hg3 (by omega)
  have L3 : Hid (Below w.heap.size w w3) := below_mod L2.out hg3 (by omega) (by omega)
  have R3 : Hid (RdX (w.heap.size + 1) q w3 bs1 er1) := hr3
  have sz3 : q < w3.heap.size := hr3.hq
  clear hg3 hr3 hpg hval hln R2 B2 L2 sz2
  unfold pkV
  obtain ⟨p, hp⟩ : ∃ p, p = w3.heap.size := ⟨_, rfl⟩
  have C4 : Hid (Bk p (w3.alloc (.cells #[.int .i64 h.leap, .int .i64 h.ver, .int .i64 h.mode, .int .i64 h.str, .int .i64 h.poll, .int .i64 h.prec, .int .i64 h.del, .int .i64 h.dis, .int .u32 h.rid, .int .u64 h.t0, .int .u64 h.t1, .int .u64 h.t2, .int .u64 h.t3, .slice none 0 0, .int .i64 0, .bool false, .slice none 0 0] 29)) #[.int .i64 h.leap, .int .i64 h.ver, .int .i64 h.mode, .int .i64 h.str, .int .i64 h.poll, .int .i64 h.prec, .int .i64 h.del, .int .i64 h.dis, .int .u32 h.rid, .int .u64 h.t0, .int .u64 h.t1, .int .u64 h.t2, .int .u64 h.t3, .slice none 0 0, .int .i64 0, .bool false, .slice none 0 0] 29) := by subst hp; exact Bk.new _ _ _
  have B4 : Hid (Bk w.heap.size (w3.alloc (.cells #[.int .i64 h.leap, .int .i64 h.ver, .int .i64 h.mode, .int .i64 h.str, .int .i64 h.poll, .int .i64 h.prec, .int .i64 h.del, .int .i64 h.dis, .int .u32 h.rid, .int .u64 h.t0, .int .u64 h.t1, .int .u64 h.t2, .int .u64 h.t3, .slice none 0 0, .int .i64 0, .bool false, .slice none 0 0] 29)) #[.int .i64 0, .int .i64 0, .int .i64 0, .int .i64 0, .int .i64 0, .int .i64 0, .int .i64 0, .int .i64 0, .int .u32 0, .int .u64 0, .int .u64 0, .int .u64 0, .int .u64 0, .slice none 0 0, .int .i64 0, .bool false, .slice none 0 0] 29) := B3.out.alloc _
  have L4 : Hid (Below w.heap.size w (w3.alloc (.cells #[.int .i64 h.leap, .int .i64 h.ver, .int .i64 h.mode, .int .i64 h.str, .int .i64 h.poll, .int .i64 h.prec, .int .i64 h.del, .int .i64 h.dis, .int .u32 h.rid, .int .u64 h.t0, .int .u64 h.t1, .int .u64 h.t2, .int .u64 h.t3, .slice none 0 0, .int .i64 0, .bool false, .slice none 0 0] 29))) := L3.out.alloc (by omega) _
  have R4 : Hid (RdX (w.heap.size + 1) q (w3.alloc (.cells #[.int .i64 h.leap, .int .i64 h.ver, .int .i64 h.mode, .int .i64 h.str, .int .i64 h.poll, .int .i64 h.prec, .int .i64 h.del, .int .i64 h.dis, .int .u32 h.rid, .int .u64 h.t0, .int .u64 h.t1, .int .u64 h.t2, .int .u64 h.t3, .slice none 0 0, .int .i64 0, .bool false, .slice none 0 0] 29)) bs1 er1) := R3.out.below ((Below.refl w3.heap.size w3).alloc (Nat.le_refl _) _) sz3
  have HVM : Hid (∀ w, Calls Try.prog 36 #[.int .i64 h.ver] w fun e' w' => e' = .returned (.bool (wiB h.ver 1 4)) ∧ w' = w) := fun w => versionFits_any _ w
  have HMM : Hid (∀ w, Calls Try.prog 37 #[.int .i64 h.mode] w fun e' w' => e' = .returned (.bool (wiB h.mode 1 5)) ∧ w' = w) := fun w => modeFits_any _ w
  rw [← hp] at sz3
  clear B3 L3 R3
  obtain ⟨C1, hC1⟩ : ∃ C, C = wiB h.ver 1 4 := ⟨_, rfl⟩
  obtain ⟨C2, hC2⟩ : ∃ C, C = wiB h.mode 1 5 := ⟨_, rfl⟩
  rw [← hC1] at HVM
  rw [← hC2] at HMM
  obtain ⟨E1, hE1⟩ : ∃ E, E = rk (C1 && C2) er1 32 := ⟨_, rfl⟩
  have HE1 : Hid (E1 = rk (C1 && C2) er1 32 ∧ C1 = wiB h.ver 1 4 ∧ C2 = wiB h.mode 1 5) := ⟨hE1, hC1, hC2⟩
  clear hE1 hC1 hC2
  cases C1
  · exact absurd (gg_e1 HE0.out HPG.out.1 HPG.out.2.1 HE1.out.1 HE1.out.2.1 HE1.out.2.2 HG.out).1 (by
      rw [HE1.out.1]
      intro x
      have := ((rk_zero (by decide)).1 x).2
      simp at this)
  · go_wp2_with (first | (go_at_call 36; refine (HVM.out _).mono ?_; rintro e' w' ⟨rfl, hw⟩; rw [hw]; clear hw) | (go_at_call 37; refine (HMM.out _).mono ?_; rintro e' w' ⟨rfl, hw⟩; rw [hw]; clear hw))
    rw [← hp]
    obtain ⟨w4, hw4⟩ : ∃ w4, w4 = w3.alloc (.cells #[.int .i64 h.leap, .int .i64 h.ver, .int .i64 h.mode, .int .i64 h.str, .int .i64 h.poll, .int .i64 h.prec, .int .i64 h.del, .int .i64 h.dis, .int .u32 h.rid, .int .u64 h.t0, .int .u64 h.t1, .int .u64 h.t2, .int .u64 h.t3, .slice none 0 0, .int .i64 0, .bool false, .slice none 0 0] 29) := ⟨_, rfl⟩
    rw [← hw4] at C4 B4 L4 R4 ⊢
    clear hw4 hp
    refine (ask_any (w.heap.size + 1) q bs1 er1 32 _ w4 R4.out).mono ?_
    rintro e' w5 ⟨rfl, hg5, hr5⟩
    have sz4 : p < w4.heap.size := C4.out.lt
    have D5 : Hid (DL (w.heap.size + 1) q p w w5 h bs1 E1 (.slice none 0 0) [] bs1 E1) := ⟨by rw [HE1.out.1]; simpa using hr5, B4.out.mod hg5 (by omega), C4.out.mod hg5 (by omega), OX.nil _ _, below_mod L4.out hg5 (by omega) (by omega), St.start _ _, HPG.out.2.2, by simp⟩
    clear hg5 hr5 C4 B4 L4 R4 sz4
    go_wp2_with fail
    go_loopw [] (fun wr => ∃ (ea : Option Addr) (en ec : Nat) (xs : List Xt) (bs : List Int) (er : Int), Hid (DL (w.heap.size + 1) q p w wr h bs1 E1 (.slice ea en ec) xs bs er)) (fun wr => rdM q wr)
    case atStart => exact ⟨none, 0, 0, [], _, _, D5⟩
    case round =>
      obtain ⟨ea, en, ec, xs, b2, er, hM⟩ := hrel
      obtain ⟨ao2, cap2, r2⟩ := hM.out.rd
      have c0 := r2.c0
      have c1 := r2.c1
      clear r2
      obtain ⟨LL, hLL⟩ : ∃ L, L = b2.length := ⟨_, rfl⟩
      rw [← hLL] at c0
      have HLL : Hid (LL = b2.length) := hLL
      obtain ⟨LI, hLI⟩ : ∃ x : Int, (LL : Int) = x := ⟨_, rfl⟩
      have HLI : Hid ((LL : Int) = LI) := hLI
      have hpl : p < wr.heap.size := hM.out.b.lt
      clear hLL
      by_cases hgo : er = 0 ∧ 24 < LI
      · obtain ⟨rfl, h24⟩ := hgo
        have c13 : wr.cell? ⟨p, 13, none⟩ = some (.slice ea en ec) := hM.out.b.cell 13
        have HEN : Hid (en = xs.length) := hM.out.ox.len
        obtain ⟨T, hT⟩ : ∃ T, decide ((en : Int) < 4) = T := ⟨_, rfl⟩
        have HT : Hid (T = decide ((xs.length : Int) < 4)) := by show _ = _; rw [← HEN.out]; exact hT.symm
        go_wp2_with fail
        refine (ask_any _ q b2 0 54 T _ hM.out.rd).mono ?_
        rintro e' w6 ⟨rfl, hg6, hr6⟩
        have R6 : Hid (RdX (w.heap.size + 1) q w6 b2 (rk T 0 54)) := hr6
        have Z6 : Hid (Bk w.heap.size w6 #[.int .i64 0, .int .i64 0, .int .i64 0, .int .i64 0, .int .i64 0, .int .i64 0, .int .i64 0, .int .i64 0, .int .u32 0, .int .u64 0, .int .u64 0, .int .u64 0, .int .u64 0, .slice none 0 0, .int .i64 0, .bool false, .slice none 0 0] 29) := hM.out.z.mod hg6 (by omega)
        have P6 : Hid (Bk p w6 #[.int .i64 h.leap, .int .i64 h.ver, .int .i64 h.mode, .int .i64 h.str, .int .i64 h.poll, .int .i64 h.prec, .int .i64 h.del, .int .i64 h.dis, .int .u32 h.rid, .int .u64 h.t0, .int .u64 h.t1, .int .u64 h.t2, .int .u64 h.t3, .slice ea en ec, .int .i64 0, .bool false, .slice none 0 0] 29) := hM.out.b.mod hg6 (by omega)
        have X6 : Hid (OX w6 (p + 1) (.slice ea en ec) xs) := hM.out.ox.mod hg6 (by omega)
        have L6 : Hid (Below w.heap.size w w6) := below_mod hM.out.bl hg6 (by omega) (by omega)
        have d13 : w6.cell? ⟨p, 13, none⟩ = some (.slice ea en ec) := P6.out.cell 13
        have f13 := P6.out.frozen 13
        have hp6 : p < w6.heap.size := P6.out.lt
        have HX : Hid (St bs1 E1 xs b2 0 ∧ 24 < b2.length ∧ b2.length ≤ 10000000 ∧ rdM q wr = b2.length + 1 ∧ xs.length ≤ 4) := ⟨hM.out.st, by have := HLL.out; have := HLI.out; omega, hM.out.ln, by rw [rdM_eq hM.out.rd, if_pos rfl], by
          rcases hM.out.st with ⟨s1, s2⟩ | ⟨_, _, s3, _⟩ | ⟨_, s2, _⟩
          · exact absurd s2.symm s1
          · exact s3
          · exact absurd rfl s2⟩
        clear hg6 hr6 c0 c1 c13 hM hpl hLI
        go_wp2_with fail
        go_region_law (first | ((fail_if_success (refine is_app _ _ _ (by rfl) ?_)); go_wp2_with (go_at_call 38; refine (rext_any (w.heap.size + 1) q b2 (rk T 0 54) _ HX.out.2.2.1 R6.out.drew).mono ?_; rintro e' w7 ⟨ty, dao, dn, dcp, dat, b3, er3, rfl, hg7, ho7, hr7, hb7, hx7⟩; have F7 : Hid (OX w7 (p + 1) (.slice ea en ec) xs ∧ Bk p w7 #[.int .i64 h.leap, .int .i64 h.ver, .int .i64 h.mode, .int .i64 h.str, .int .i64 h.poll, .int .i64 h.prec, .int .i64 h.del, .int .i64 h.dis, .int .u32 h.rid, .int .u64 h.t0, .int .u64 h.t1, .int .u64 h.t2, .int .u64 h.t3, .slice ea en ec, .int .i64 0, .bool false, .slice none 0 0] 29 ∧ Bk w.heap.size w7 #[.int .i64 0, .int .i64 0, .int .i64 0, .int .i64 0, .int .i64 0, .int .i64 0, .int .i64 0, .int .i64 0, .int .u32 0, .int .u64 0, .int .u64 0, .int .u64 0, .int .u64 0, .slice none 0 0, .int .i64 0, .bool false, .slice none 0 0] 29 ∧ Below w.heap.size w w7 ∧ Own w7 (p + 1) (.slice dao dn dcp) dat ∧ RdX (w.heap.size + 1) q w7 b3 er3 ∧ b3.length ≤ b2.length ∧ XR b2 (rk T 0 54) ty dat b3 er3) := ⟨X6.out.mod (mod_undrew hg7) (by omega), P6.out.mod (mod_undrew hg7) (by omega), Z6.out.mod (mod_undrew hg7) (by omega), below_mod L6.out (mod_undrew hg7) (by omega) (by omega), ho7.mono (by show p + 1 ≤ w6.heap.size; omega), hr7, hb7, hx7⟩; have g13 : w7.cell? ⟨p, 13, none⟩ = some (.slice ea en ec) := F7.out.2.1.cell 13; have hp7 : p < w7.heap.size := F7.out.2.1.lt; clear hg7 ho7 hr7 hb7 hx7)) | (refine step_appx (by rfl) _ _ (by rfl) (p + 1) (.slice ea en ec) en (XU xs) (by rfl) (F7.out.1.alloc _).rowN _ _ _ (by rfl) (Bk.new _ _ _) rfl rfl (by have := HEN.out; have := HX.out.2.2.2.2; omega) (by have := F7.out.2.1.lt; simp; omega) ?_; intro v8 w8 hr8 hg8; obtain ⟨ea8, en8, ec8, hv8, F8⟩ := DL.app F7.out.1 F7.out.2.1 F7.out.2.2.1 F7.out.2.2.2.1 F7.out.2.2.2.2.1 F7.out.2.2.2.2.2.1 HEN.out sz1 sz3 hr8 hg8; subst hv8; have G8 : Hid (RdX (w.heap.size + 1) q w8 b3 er3 ∧ Bk w.heap.size w8 #[.int .i64 0, .int .i64 0, .int .i64 0, .int .i64 0, .int .i64 0, .int .i64 0, .int .i64 0, .int .i64 0, .int .u32 0, .int .u64 0, .int .u64 0, .int .u64 0, .int .u64 0, .slice none 0 0, .int .i64 0, .bool false, .slice none 0 0] 29 ∧ Bk p w8 #[.int .i64 h.leap, .int .i64 h.ver, .int .i64 h.mode, .int .i64 h.str, .int .i64 h.poll, .int .i64 h.prec, .int .i64 h.del, .int .i64 h.dis, .int .u32 h.rid, .int .u64 h.t0, .int .u64 h.t1, .int .u64 h.t2, .int .u64 h.t3, .slice ea en ec, .int .i64 0, .bool false, .slice none 0 0] 29 ∧ OX w8 (p + 1) (.slice ea8 en8 ec8) (xs ++ [⟨ty, .slice dao dn dcp, dat⟩]) ∧ Below w.heap.size w w8) := F8; have h13 : w8.cell? ⟨p, 13, none⟩ = some (.slice ea en ec) := F8.2.2.1.cell 13; have k13 := F8.2.2.1.frozen 13; clear F8 hr8 hg8))
        all_goals
          go_wp2_with fail
          have hSt := St.step (dv := .slice dao dn dcp) HX.out.1 HX.out.2.1 (by have := F7.out.2.2.2.2.2.2.2; rw [HT.out] at this; exact this)
          refine ⟨⟨_, _, _, xs ++ [⟨ty, .slice dao dn dcp, dat⟩], b3, er3, DL.next G8.out.1 G8.out.2.1 G8.out.2.2.1 G8.out.2.2.2.1 G8.out.2.2.2.2 hSt.1 (Nat.le_trans F7.out.2.2.2.2.2.2.1 HX.out.2.2.1) (by have := HX.out.2.2.2.2; simp; omega) sz1 sz3 rfl⟩, ?_⟩
          rw [HX.out.2.2.2.1, rdM_eq (RdX.far (g := p) (j := 13) G8.out.1 (by omega) (by omega) _)]
          split
          · rename_i hz3; have := hSt.2 hz3; omega
          · omega
      · have HER : Hid (er = 0) := by
          obtain ⟨s1, s2⟩ := hM.out.st.stop (by
            by_cases hz : er = 0
            · right; have := HLL.out; have := HLI.out; omega
            · exact .inl hz)
          have g := gg_e1 HE0.out HPG.out.1 HPG.out.2.1 HE1.out.1 HE1.out.2.1 HE1.out.2.2 HG.out
          have := (s2 g.1).1
          rw [g.2] at this
          show er = 0
          rw [← this]
          exact HG.out.2.2.2
        have hz : (er == 0) = true := by rw [HER.out]; rfl
        have hle : LI ≤ 24 := by have := HER.out; omega
        have HSP : Hid (enE b2 er = dcE bs ∧ (dcE bs = 0 → h = hdD bs ∧ prs xs = (dL 4 (bs.drop 48)).2.1 ∧ er = 0 ∧ b2 = (dL 4 (bs.drop 48)).2.2)) := by
          obtain ⟨s1, s2⟩ := hM.out.st.stop (by
            by_cases hz : er = 0
            · right; have := HLL.out; have := HLI.out; omega
            · exact .inl hz)
          exact dc_pure HE0.out HPG.out.1 HPG.out.2.1 HE1.out.1 HE1.out.2.1 HE1.out.2.2 s1 s2
        clear hgo
        have hqp : q ≠ p := by omega
        have hpq : p ≠ q := by omega
        go_wp2_with fail
        refine (ending_any (w.heap.size + 1) q b2 er _ hM.out.ln hM.out.rd).mono ?_
        rintro e' w7 ⟨mv, rfl, hg7, ho7, b4, hr7⟩
        have C7 : Hid (Bk p w7 #[.int .i64 h.leap, .int .i64 h.ver, .int .i64 h.mode, .int .i64 h.str, .int .i64 h.poll, .int .i64 h.prec, .int .i64 h.del, .int .i64 h.dis, .int .u32 h.rid, .int .u64 h.t0, .int .u64 h.t1, .int .u64 h.t2, .int .u64 h.t3, .slice ea en ec, .int .i64 0, .bool false, .slice none 0 0] 29) := hM.out.b.mod hg7 (by omega)
        have Z7 : Hid (Bk w.heap.size w7 #[.int .i64 0, .int .i64 0, .int .i64 0, .int .i64 0, .int .i64 0, .int .i64 0, .int .i64 0, .int .i64 0, .int .u32 0, .int .u64 0, .int .u64 0, .int .u64 0, .int .u64 0, .slice none 0 0, .int .i64 0, .bool false, .slice none 0 0] 29) := hM.out.z.mod hg7 (by omega)
        have X7 : Hid (OX w7 (p + 1) (.slice ea en ec) xs) := hM.out.ox.mod hg7 (by omega)
        have O7 : Hid (Own w7 (p + 1) mv (enM b2 er)) := ho7.mono (by omega)
        have L7 : Hid (Below w.heap.size w w7) := below_mod hM.out.bl hg7 (by omega) (by omega)
        obtain ⟨ao7, cap7, r7⟩ := hr7
        have u1 := r7.c1
        obtain ⟨ma, mc, hmv, -⟩ := ho7.rs
        subst hmv
        obtain ⟨mn, hmn⟩ : ∃ L, L = (enM b2 er).length := ⟨_, rfl⟩
        rw [← hmn] at O7 ⊢
        obtain ⟨key, hkey⟩ : ∃ k, k = enK b2 er := ⟨_, rfl⟩
        rw [← hkey]
        obtain ⟨nak, hnak⟩ : ∃ n, n = decide (b2.length = 4) := ⟨_, rfl⟩
        rw [← hnak]
        obtain ⟨E, hE⟩ : ∃ E, E = enE b2 er := ⟨_, rfl⟩
        rw [← hE] at u1
        have HK : Hid (key = enK b2 er ∧ nak = decide (b2.length = 4) ∧ E = dcE bs) := ⟨hkey, hnak, hE.trans HSP.out.1⟩
        have k14 : w7.cell? ⟨p, 14, none⟩ = some (.int .i64 0) := C7.out.cell 14
        have k15 : w7.cell? ⟨p, 15, none⟩ = some (.bool false) := C7.out.cell 15
        have k16 : w7.cell? ⟨p, 16, none⟩ = some (.slice none 0 0) := C7.out.cell 16
        have kf := C7.out.frozen
        obtain ⟨W10, hW10⟩ : ∃ W, W = (((w7.setCell ⟨p, 14, none⟩ (.int .i64 key)).setCell ⟨p, 16, none⟩ (.slice ma mn mc)).setCell ⟨p, 15, none⟩ (.bool nak)) := ⟨_, rfl⟩
        have P10 : Hid (Bk p W10 #[.int .i64 h.leap, .int .i64 h.ver, .int .i64 h.mode, .int .i64 h.str, .int .i64 h.poll, .int .i64 h.prec, .int .i64 h.del, .int .i64 h.dis, .int .u32 h.rid, .int .u64 h.t0, .int .u64 h.t1, .int .u64 h.t2, .int .u64 h.t3, .slice ea en ec, .int .i64 key, .bool nak, .slice ma mn mc] 29) := by
          show Bk _ _ _ _
          have := ((C7.out.set (j := 14) (.int .i64 key)).set (j := 16) (.slice ma mn mc)).set (j := 15) (.bool nak)
          rw [set456] at this
          rw [hW10]
          exact this
        have Z10 : Hid (Bk w.heap.size W10 #[.int .i64 0, .int .i64 0, .int .i64 0, .int .i64 0, .int .i64 0, .int .i64 0, .int .i64 0, .int .i64 0, .int .u32 0, .int .u64 0, .int .u64 0, .int .u64 0, .int .u64 0, .slice none 0 0, .int .i64 0, .bool false, .slice none 0 0] 29) := by rw [hW10]; exact ((Z7.out.far (by omega) _).far (by omega) _).far (by omega) _
        have X10 : Hid (OX W10 (p + 1) (.slice ea en ec) xs) := by rw [hW10]; exact ((X7.out.low (by omega)).low (by omega)).low (by omega)
        have O10 : Hid (Own W10 (p + 1) (.slice ma mn mc) (enM b2 er)) := by rw [hW10]; exact ((O7.out.low (by omega)).low (by omega)).low (by omega)
        have L10 : Hid (Below w.heap.size w W10) := by rw [hW10]; exact ((L7.out.setCell (by show w.heap.size ≤ p; omega) _).setCell (by show w.heap.size ≤ p; omega) _).setCell (by show w.heap.size ≤ p; omega) _
        clear hg7 ho7 r7 hmn hkey hnak hE c0 c1 C7 Z7 X7 O7 L7
        rw [hW10] at P10 Z10
        have HW : Hid (W10 = (((w7.setCell ⟨p, 14, none⟩ (.int .i64 key)).setCell ⟨p, 16, none⟩ (.slice ma mn mc)).setCell ⟨p, 15, none⟩ (.bool nak))) := hW10
        clear hW10
        by_cases hE : E = 0
        · have hEb : (E != 0) = false := by rw [hE]; rfl
          have HE : Hid (dcE bs = 0) := by show _ = _; rw [← HK.out.2.2]; exact hE
          clear hE
          go_wp2_with (first | (refine step_pk (by rfl) _ (by rfl) p (by rfl) #[.int .i64 h.leap, .int .i64 h.ver, .int .i64 h.mode, .int .i64 h.str, .int .i64 h.poll, .int .i64 h.prec, .int .i64 h.del, .int .i64 h.dis, .int .u32 h.rid, .int .u64 h.t0, .int .u64 h.t1, .int .u64 h.t2, .int .u64 h.t3, .slice ea en ec, .int .i64 key, .bool nak, .slice ma mn mc] (by rfl) ?_ ?_; exact P10.out) | (refine step_spk (by rfl) _ _ (by rfl) w.heap.size #[.int .i64 h.leap, .int .i64 h.ver, .int .i64 h.mode, .int .i64 h.str, .int .i64 h.poll, .int .i64 h.prec, .int .i64 h.del, .int .i64 h.dis, .int .u32 h.rid, .int .u64 h.t0, .int .u64 h.t1, .int .u64 h.t2, .int .u64 h.t3, .slice ea en ec, .int .i64 key, .bool nak, .slice ma mn mc] (by rfl) (by rfl) #[.int .i64 0, .int .i64 0, .int .i64 0, .int .i64 0, .int .i64 0, .int .i64 0, .int .i64 0, .int .i64 0, .int .u32 0, .int .u64 0, .int .u64 0, .int .u64 0, .int .u64 0, .slice none 0 0, .int .i64 0, .bool false, .slice none 0 0] ?_ (by rfl) (by rfl) (by kernel_rfl) ?_; exact Z10.out))
          rw [← HW.out]
          rw [← HW.out] at Z10
          refine bodyPost_ret (v := .tuple #[pkV h (.slice ea en ec) key nak (.slice ma mn mc), .int .i64 0]) (res_pk2 Try.results17 _ _ w.heap.size _ _ (by rfl) (by rfl) (Bk.row Z10.out) (by rfl)) rfl ⟨h, _, xs, key, nak, _, enM b2 er, by rw [HE.out], ?_, ?_, ?_, fun _ => ?_, fun x => absurd HE.out x⟩
          · exact below_mod L10.out (mod_row _ _ _) (by have := Z10.out.lt; omega) (Nat.le_refl _)
          · exact (X10.out.mod (mod_row _ _ _) (by omega)).mono (by omega)
          · exact (Own.mod O10.out (mod_row _ _ _) (by omega)).mono (by omega)
          · obtain ⟨v1, v2, v3, v4⟩ := HSP.out.2 HE.out
            refine ⟨v1, v2, ?_, ?_, ?_⟩
            · rw [HK.out.1, v3, v4]
            · rw [v3, v4]
            · rw [HK.out.2.1, v4]
        · have hEb : (E != 0) = true := by rw [bne_iff_ne]; exact hE
          have HE : Hid (E ≠ 0) := hE
          clear hE
          go_wp2_with fail
          rw [← HW.out]
          have u10 : W10.cell? ⟨q, 1, none⟩ = some (.int .i64 E) := by rw [HW.out]; exact (far_cell _ hqp).trans ((far_cell _ hqp).trans ((far_cell _ hqp).trans u1))
          rw [← HW.out] at Z10
          obtain ⟨z0, z1, z2, z3, z4, z5, z6, z7, z8, z9, z10, z11, z12, z13, z14, z15, z16⟩ := (⟨Z10.out.lt, Z10.out.cell⟩ : Ck w.heap.size W10 _).c17
          have zf := Z10.out.frozen
          have hqw : w.heap.size ≠ q := by omega
          have hqw' : q ≠ w.heap.size := by omega
          clear u1 k14 k15 k16 kf P10 HW
          go_region
          all_goals
            go_wp2_with fail
            refine bodyPost_ret (v := .tuple #[.agg #[.int .i64 0, .int .i64 0, .int .i64 0, .int .i64 0, .int .i64 0, .int .i64 0, .int .i64 0, .int .i64 0, .int .u32 0, .int .u64 0, .int .u64 0, .int .u64 0, .int .u64 0, .slice none 0 0, .int .i64 0, .bool false, .slice none 0 0], .int .i64 E]) (res_pk2 Try.results17 _ _ w.heap.size #[.int .i64 0, .int .i64 0, .int .i64 0, .int .i64 0, .int .i64 0, .int .i64 0, .int .i64 0, .int .i64 0, .int .u32 0, .int .u64 0, .int .u64 0, .int .u64 0, .int .u64 0, .slice none 0 0, .int .i64 0, .bool false, .slice none 0 0] _ (by rfl) (by rfl) ?_ (by rfl)) rfl ⟨⟨0, 0, 0, 0, 0, 0, 0, 0, 0, 0, 0, 0, 0⟩, .slice none 0 0, [], 0, false, .slice none 0 0, [], by rw [← HK.out.2.2]; rfl, (by repeat' (first | with_reducible exact Below.refl _ _ | with_reducible exact L10.out | with_reducible refine Below.setCell ?_ (by first | (simp; done) | (simp; omega) | omega) _ | with_reducible refine below_drewN ?_ _ | with_reducible refine Below.drew ?_ | with_reducible refine Below.alloc ?_ (by first | (simp; done) | (simp; omega) | omega) _)), OX.nil _ _, Own.nil _ _, fun x => absurd (HK.out.2.2.trans x) HE.out, fun _ => ⟨rfl, rfl, rfl, rfl, rfl, rfl, rfl⟩⟩
            first | exact (Bk.all17 Z10.out (.int .i64 0) (.int .i64 0) (.int .i64 0) (.int .i64 0) (.int .i64 0) (.int .i64 0) (.int .i64 0) (.int .i64 0) (.int .u32 0) (.int .u64 0) (.int .u64 0) (.int .u64 0) (.int .u64 0) (.slice none 0 0) (.int .i64 0) (.bool false) (.slice none 0 0)).drew | exact Bk.all17 (Bk.drew Z10.out) (.int .i64 0) (.int .i64 0) (.int .i64 0) (.int .i64 0) (.int .i64 0) (.int .i64 0) (.int .i64 0) (.int .i64 0) (.int .u32 0) (.int .u64 0) (.int .u64 0) (.int .u64 0) (.int .u64 0) (.slice none 0 0) (.int .i64 0) (.bool false) (.slice none 0 0)
end Go.Proofs.Ytdobghhjlfffpaa
