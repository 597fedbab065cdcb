/- What the reader's method control of package wire returns: the walk. -/
import Derived.Test.YtdobghhjlfffpaaWH
namespace Go.Proofs.Ytdobghhjlfffpaa
open Go.RowKit
theorem tkR_len (n : Int) (bs : List Int) (er : Int) : (tkR n bs er).length ≤ bs.length := by
  unfold tkR
  split
  · rw [List.length_drop]; omega
  · exact Nat.le_refl _
/-- what lies in memory while the numbers of one byte are read -/
structure L1 (N q : Nat) (w v : World) (bs0 : List Int) (er0 : Int) (k : Nat) (x0 x1 : Int) (bs : List Int) (er : Int) : Prop where
  rd : RdX N q v bs er
  gr : w.grownBy v (some q)
  b0 : Bk w.heap.size v #[.int .i64 0, .bool false, .bool false, .bool false, .int .i64 0, .int .i64 0, .int .i64 0, .int .i64 0, .int .i64 0, .slice none 0 0, .int .i64 0, .slice none 0 0] 45
  b1 : Bk (w.heap.size + 1) v #[.int .i64 x0, .int .i64 x1] 80
  pg : Pg 12 bs0 er0 k bs er
  v0 : er = 0 → 0 < k → x0 = fv bs0 0 1
  v1 : er = 0 → 1 < k → x1 = fv bs0 1 1
  d0 : 0 ≤ x0 ∧ x0 < 256
  d1 : 0 ≤ x1 ∧ x1 < 256
  ln : bs.length ≤ bs0.length
/-- and those of two -/
structure L2 (N q p : Nat) (w v : World) (bs0 : List Int) (er0 : Int) (k : Nat) (x0 x1 y0 y1 y2 y3 y4 : Int) (bs : List Int) (er : Int) : Prop where
  rd : RdX N q v bs er
  gr : w.grownBy v (some q)
  b0 : Bk w.heap.size v #[.int .i64 0, .bool false, .bool false, .bool false, .int .i64 0, .int .i64 0, .int .i64 0, .int .i64 0, .int .i64 0, .slice none 0 0, .int .i64 0, .slice none 0 0] 45
  b1 : Bk (w.heap.size + 1) v #[.int .i64 x0, .int .i64 x1] 80
  b2 : Bk p v #[.int .i64 y0, .int .i64 y1, .int .i64 y2, .int .i64 y3, .int .i64 y4] 91
  hp : w.heap.size + 1 < p
  pg : Pg 12 bs0 er0 (2 + 2 * k) bs er
  vx : er = 0 → x0 = fv bs0 0 1 ∧ x1 = fv bs0 1 1
  v0 : er = 0 → 0 < k → y0 = fv bs0 2 2
  v1 : er = 0 → 1 < k → y1 = fv bs0 4 2
  v2 : er = 0 → 2 < k → y2 = fv bs0 6 2
  v3 : er = 0 → 3 < k → y3 = fv bs0 8 2
  v4 : er = 0 → 4 < k → y4 = fv bs0 10 2
  dx0 : 0 ≤ x0 ∧ x0 < 256
  dx1 : 0 ≤ x1 ∧ x1 < 256
  d0 : 0 ≤ y0 ∧ y0 < 65536
  d1 : 0 ≤ y1 ∧ y1 < 65536
  d2 : 0 ≤ y2 ∧ y2 < 65536
  d3 : 0 ≤ y3 ∧ y3 < 65536
  d4 : 0 ≤ y4 ∧ y4 < 65536
  ln : bs.length ≤ bs0.length
theorem L1.step0 {N q : Nat} {w v v' : World} {bs0 bs : List Int} {er0 er x0 x1 : Int} (h : L1 N q w v bs0 er0 0 x0 x1 bs er) (hq : q < w.heap.size) (hg : v.grownBy v' (some q)) (hr : RdX N q v' (tkR 1 bs er) (tkE 1 bs er)) {X : Int} (hX : X = gt (tkT 1 bs er)) :
    L1 N q w (v'.setCell ⟨w.heap.size + 1, 0, none⟩ (.int .i64 X)) bs0 er0 1 X x1 (tkR 1 bs er) (tkE 1 bs er) := by
  have hN := h.rd.hN
  have bd := gtn_bd (tk_okb (n := 1) (er := er) h.rd.okb).1 1 (tkT_len 1 bs er) (by decide)
  rw [← hX] at bd
  have vv : tkE 1 bs er = 0 → X = fv bs0 0 1 := fun e => by have t : tkT 1 bs er = _ := (h.pg.val 1 e).2; rw [hX, t]; rfl
  have ez : tkE 1 bs er = 0 → er = 0 := fun e => (h.pg.val 1 e).1
  have b1 := (h.b1.mod hg (by omega)).set (j := 0) (.int .i64 X)
  exact ⟨hr.far (by omega) (by omega) _, mod_setNew (mod_trans h.gr hg) (by omega), (h.b0.mod hg (by omega)).far (by omega) _, b1, h.pg.step 1 (by omega), fun e _ => vv e, fun _ hk => absurd hk (by omega), ⟨bd.1, bd.2⟩, h.d1, Nat.le_trans (tkR_len 1 bs er) h.ln⟩
theorem L1.step1 {N q : Nat} {w v v' : World} {bs0 bs : List Int} {er0 er x0 x1 : Int} (h : L1 N q w v bs0 er0 1 x0 x1 bs er) (hq : q < w.heap.size) (hg : v.grownBy v' (some q)) (hr : RdX N q v' (tkR 1 bs er) (tkE 1 bs er)) {X : Int} (hX : X = gt (tkT 1 bs er)) :
    L1 N q w (v'.setCell ⟨w.heap.size + 1, 1, none⟩ (.int .i64 X)) bs0 er0 2 x0 X (tkR 1 bs er) (tkE 1 bs er) := by
  have hN := h.rd.hN
  have bd := gtn_bd (tk_okb (n := 1) (er := er) h.rd.okb).1 1 (tkT_len 1 bs er) (by decide)
  rw [← hX] at bd
  have vv : tkE 1 bs er = 0 → X = fv bs0 1 1 := fun e => by have t : tkT 1 bs er = _ := (h.pg.val 1 e).2; rw [hX, t]; rfl
  have ez : tkE 1 bs er = 0 → er = 0 := fun e => (h.pg.val 1 e).1
  have b1 := (h.b1.mod hg (by omega)).set (j := 1) (.int .i64 X)
  exact ⟨hr.far (by omega) (by omega) _, mod_setNew (mod_trans h.gr hg) (by omega), (h.b0.mod hg (by omega)).far (by omega) _, b1, h.pg.step 1 (by omega), fun e _ => h.v0 (ez e) (by omega), fun e _ => vv e, h.d0, ⟨bd.1, bd.2⟩, Nat.le_trans (tkR_len 1 bs er) h.ln⟩
theorem L2.step0 {N q p : Nat} {w v v' : World} {bs0 bs : List Int} {er0 er x0 x1 y0 y1 y2 y3 y4 : Int} (h : L2 N q p w v bs0 er0 0 x0 x1 y0 y1 y2 y3 y4 bs er) (hq : q < w.heap.size) (hg : v.grownBy v' (some q)) (hr : RdX N q v' (tkR 2 bs er) (tkE 2 bs er)) {X : Int} (hX : X = gt (tkT 2 bs er)) :
    L2 N q p w (v'.setCell ⟨p, 0, none⟩ (.int .i64 X)) bs0 er0 1 x0 x1 X y1 y2 y3 y4 (tkR 2 bs er) (tkE 2 bs er) := by
  have hN := h.rd.hN
  have hp := h.hp
  have bd := gtn_bd (tk_okb (n := 2) (er := er) h.rd.okb).1 2 (tkT_len 2 bs er) (by decide)
  rw [← hX] at bd
  have vv : tkE 2 bs er = 0 → X = fv bs0 2 2 := fun e => by have t : tkT 2 bs er = _ := (h.pg.val 2 e).2; rw [hX, t]; rfl
  have ez : tkE 2 bs er = 0 → er = 0 := fun e => (h.pg.val 2 e).1
  have b2 := (h.b2.mod hg (by omega)).set (j := 0) (.int .i64 X)
  exact ⟨hr.far (by omega) (by omega) _, mod_setNew (mod_trans h.gr hg) (by omega), (h.b0.mod hg (by omega)).far (by omega) _, (h.b1.mod hg (by omega)).far (by omega) _, b2, hp, h.pg.step 2 (by omega), fun e => h.vx (ez e), fun e _ => vv e, fun _ hk => absurd hk (by omega), fun _ hk => absurd hk (by omega), fun _ hk => absurd hk (by omega), fun _ hk => absurd hk (by omega), h.dx0, h.dx1, ⟨bd.1, bd.2⟩, h.d1, h.d2, h.d3, h.d4, Nat.le_trans (tkR_len 2 bs er) h.ln⟩
theorem L2.step1 {N q p : Nat} {w v v' : World} {bs0 bs : List Int} {er0 er x0 x1 y0 y1 y2 y3 y4 : Int} (h : L2 N q p w v bs0 er0 1 x0 x1 y0 y1 y2 y3 y4 bs er) (hq : q < w.heap.size) (hg : v.grownBy v' (some q)) (hr : RdX N q v' (tkR 2 bs er) (tkE 2 bs er)) {X : Int} (hX : X = gt (tkT 2 bs er)) :
    L2 N q p w (v'.setCell ⟨p, 1, none⟩ (.int .i64 X)) bs0 er0 2 x0 x1 y0 X y2 y3 y4 (tkR 2 bs er) (tkE 2 bs er) := by
  have hN := h.rd.hN
  have hp := h.hp
  have bd := gtn_bd (tk_okb (n := 2) (er := er) h.rd.okb).1 2 (tkT_len 2 bs er) (by decide)
  rw [← hX] at bd
  have vv : tkE 2 bs er = 0 → X = fv bs0 4 2 := fun e => by have t : tkT 2 bs er = _ := (h.pg.val 2 e).2; rw [hX, t]; rfl
  have ez : tkE 2 bs er = 0 → er = 0 := fun e => (h.pg.val 2 e).1
  have b2 := (h.b2.mod hg (by omega)).set (j := 1) (.int .i64 X)
  exact ⟨hr.far (by omega) (by omega) _, mod_setNew (mod_trans h.gr hg) (by omega), (h.b0.mod hg (by omega)).far (by omega) _, (h.b1.mod hg (by omega)).far (by omega) _, b2, hp, h.pg.step 2 (by omega), fun e => h.vx (ez e), fun e _ => h.v0 (ez e) (by omega), fun e _ => vv e, fun _ hk => absurd hk (by omega), fun _ hk => absurd hk (by omega), fun _ hk => absurd hk (by omega), h.dx0, h.dx1, h.d0, ⟨bd.1, bd.2⟩, h.d2, h.d3, h.d4, Nat.le_trans (tkR_len 2 bs er) h.ln⟩
theorem L2.step2 {N q p : Nat} {w v v' : World} {bs0 bs : List Int} {er0 er x0 x1 y0 y1 y2 y3 y4 : Int} (h : L2 N q p w v bs0 er0 2 x0 x1 y0 y1 y2 y3 y4 bs er) (hq : q < w.heap.size) (hg : v.grownBy v' (some q)) (hr : RdX N q v' (tkR 2 bs er) (tkE 2 bs er)) {X : Int} (hX : X = gt (tkT 2 bs er)) :
    L2 N q p w (v'.setCell ⟨p, 2, none⟩ (.int .i64 X)) bs0 er0 3 x0 x1 y0 y1 X y3 y4 (tkR 2 bs er) (tkE 2 bs er) := by
  have hN := h.rd.hN
  have hp := h.hp
  have bd := gtn_bd (tk_okb (n := 2) (er := er) h.rd.okb).1 2 (tkT_len 2 bs er) (by decide)
  rw [← hX] at bd
  have vv : tkE 2 bs er = 0 → X = fv bs0 6 2 := fun e => by have t : tkT 2 bs er = _ := (h.pg.val 2 e).2; rw [hX, t]; rfl
  have ez : tkE 2 bs er = 0 → er = 0 := fun e => (h.pg.val 2 e).1
  have b2 := (h.b2.mod hg (by omega)).set (j := 2) (.int .i64 X)
  exact ⟨hr.far (by omega) (by omega) _, mod_setNew (mod_trans h.gr hg) (by omega), (h.b0.mod hg (by omega)).far (by omega) _, (h.b1.mod hg (by omega)).far (by omega) _, b2, hp, h.pg.step 2 (by omega), fun e => h.vx (ez e), fun e _ => h.v0 (ez e) (by omega), fun e _ => h.v1 (ez e) (by omega), fun e _ => vv e, fun _ hk => absurd hk (by omega), fun _ hk => absurd hk (by omega), h.dx0, h.dx1, h.d0, h.d1, ⟨bd.1, bd.2⟩, h.d3, h.d4, Nat.le_trans (tkR_len 2 bs er) h.ln⟩
theorem L2.step3 {N q p : Nat} {w v v' : World} {bs0 bs : List Int} {er0 er x0 x1 y0 y1 y2 y3 y4 : Int} (h : L2 N q p w v bs0 er0 3 x0 x1 y0 y1 y2 y3 y4 bs er) (hq : q < w.heap.size) (hg : v.grownBy v' (some q)) (hr : RdX N q v' (tkR 2 bs er) (tkE 2 bs er)) {X : Int} (hX : X = gt (tkT 2 bs er)) :
    L2 N q p w (v'.setCell ⟨p, 3, none⟩ (.int .i64 X)) bs0 er0 4 x0 x1 y0 y1 y2 X y4 (tkR 2 bs er) (tkE 2 bs er) := by
  have hN := h.rd.hN
  have hp := h.hp
  have bd := gtn_bd (tk_okb (n := 2) (er := er) h.rd.okb).1 2 (tkT_len 2 bs er) (by decide)
  rw [← hX] at bd
  have vv : tkE 2 bs er = 0 → X = fv bs0 8 2 := fun e => by have t : tkT 2 bs er = _ := (h.pg.val 2 e).2; rw [hX, t]; rfl
  have ez : tkE 2 bs er = 0 → er = 0 := fun e => (h.pg.val 2 e).1
  have b2 := (h.b2.mod hg (by omega)).set (j := 3) (.int .i64 X)
  exact ⟨hr.far (by omega) (by omega) _, mod_setNew (mod_trans h.gr hg) (by omega), (h.b0.mod hg (by omega)).far (by omega) _, (h.b1.mod hg (by omega)).far (by omega) _, b2, hp, h.pg.step 2 (by omega), fun e => h.vx (ez e), fun e _ => h.v0 (ez e) (by omega), fun e _ => h.v1 (ez e) (by omega), fun e _ => h.v2 (ez e) (by omega), fun e _ => vv e, fun _ hk => absurd hk (by omega), h.dx0, h.dx1, h.d0, h.d1, h.d2, ⟨bd.1, bd.2⟩, h.d4, Nat.le_trans (tkR_len 2 bs er) h.ln⟩
theorem L2.step4 {N q p : Nat} {w v v' : World} {bs0 bs : List Int} {er0 er x0 x1 y0 y1 y2 y3 y4 : Int} (h : L2 N q p w v bs0 er0 4 x0 x1 y0 y1 y2 y3 y4 bs er) (hq : q < w.heap.size) (hg : v.grownBy v' (some q)) (hr : RdX N q v' (tkR 2 bs er) (tkE 2 bs er)) {X : Int} (hX : X = gt (tkT 2 bs er)) :
    L2 N q p w (v'.setCell ⟨p, 4, none⟩ (.int .i64 X)) bs0 er0 5 x0 x1 y0 y1 y2 y3 X (tkR 2 bs er) (tkE 2 bs er) := by
  have hN := h.rd.hN
  have hp := h.hp
  have bd := gtn_bd (tk_okb (n := 2) (er := er) h.rd.okb).1 2 (tkT_len 2 bs er) (by decide)
  rw [← hX] at bd
  have vv : tkE 2 bs er = 0 → X = fv bs0 10 2 := fun e => by have t : tkT 2 bs er = _ := (h.pg.val 2 e).2; rw [hX, t]; rfl
  have ez : tkE 2 bs er = 0 → er = 0 := fun e => (h.pg.val 2 e).1
  have b2 := (h.b2.mod hg (by omega)).set (j := 4) (.int .i64 X)
  exact ⟨hr.far (by omega) (by omega) _, mod_setNew (mod_trans h.gr hg) (by omega), (h.b0.mod hg (by omega)).far (by omega) _, (h.b1.mod hg (by omega)).far (by omega) _, b2, hp, h.pg.step 2 (by omega), fun e => h.vx (ez e), fun e _ => h.v0 (ez e) (by omega), fun e _ => h.v1 (ez e) (by omega), fun e _ => h.v2 (ez e) (by omega), fun e _ => h.v3 (ez e) (by omega), fun e _ => vv e, h.dx0, h.dx1, h.d0, h.d1, h.d2, h.d3, ⟨bd.1, bd.2⟩, Nat.le_trans (tkR_len 2 bs er) h.ln⟩
theorem Own.low {w : World} {B g j : Nat} {v x : Value} {bs : List Int} (h : Own w B v bs) (hg : g < B) : Own (w.setCell ⟨g, j, none⟩ x) B v bs := ownsRow_setCell_below h hg x
/-- the blocks alone -/
structure L3 (q p : Nat) (w v : World) (x0 x1 y0 y1 y2 y3 y4 : Int) : Prop where
  gr : w.grownBy v (some q)
  b0 : Bk w.heap.size v #[.int .i64 0, .bool false, .bool false, .bool false, .int .i64 0, .int .i64 0, .int .i64 0, .int .i64 0, .int .i64 0, .slice none 0 0, .int .i64 0, .slice none 0 0] 45
  b1 : Bk (w.heap.size + 1) v #[.int .i64 x0, .int .i64 x1] 80
  b2 : Bk p v #[.int .i64 y0, .int .i64 y1, .int .i64 y2, .int .i64 y3, .int .i64 y4] 91
theorem L3.mod {q p : Nat} {w v v' : World} {x0 x1 y0 y1 y2 y3 y4 : Int} (h : L3 q p w v x0 x1 y0 y1 y2 y3 y4) (hq : q < w.heap.size) (hp : w.heap.size + 1 < p) (hg : v.grownBy v' (some q)) : L3 q p w v' x0 x1 y0 y1 y2 y3 y4 :=
  ⟨mod_trans h.gr hg, h.b0.mod hg (by omega), h.b1.mod hg (by omega), h.b2.mod hg (by omega)⟩
theorem neq_bit (x c : Int) (hc : c ≠ 0) (h : x = 0 ∨ x = 1) : (x * c != 0) = decide (x = 1) := by
  rcases h with rfl | rfl
  · simp
  · simp [hc]
theorem num_hid (N q n : Nat) (bs : List Int) (er X : Int) (hn : n ≤ 8) (hX : X = gt (tkT n bs er)) (w : World) (h : RdX N q w bs er) : Calls Try.prog 56 #[.pointer (some ⟨q, 0, none⟩), .int .i64 (n : Int)] w fun e w' => e = .returned (.int .u64 X) ∧ w.grownBy w' (some q) ∧ RdX N q w' (tkR n bs er) (tkE n bs er) := by
  rw [hX]
  exact rnumber_any N q bs er n w hn h
set_option maxRecDepth 4000 in
set_option maxHeartbeats 4000000 in
theorem control_any (N q : Nat) (bs0 : List Int) (er0 : Int) (w : World) (hl : bs0.length ≤ 10000000) (h : RdX N q w bs0 er0) :
    Calls Try.prog 46 #[.pointer (some ⟨q, 0, none⟩)] w fun e' w' => ∃ (ver : Int) (r e m : Bool) (op seq sta ass off : Int) (dv : Value) (data bs' : List Int) (er' : Int), e' = .returned (ctV ver r e m op seq sta ass off dv 0 (.slice none 0 0)) ∧ w.grownBy w' (some q) ∧ Own w' w.heap.size dv data ∧ RdX N q w' bs' er' ∧ bs'.length ≤ 10000000 ∧ CP bs0 er0 ver r e m op seq sta ass off data bs' er' := by
  have H : Hid (RdX N q w bs0 er0) := h
  have hq : q < w.heap.size := h.hq
  have HLn : Hid (bs0.length ≤ 10000000) := hl
  clear h hl
  go_enter Try.func46, Try.ntmps46
  go_wp2
  go_loopw [10] (fun i wr => ∃ (k x0 x1 : Int) (bs : List Int) (er : Int), i = .int .i64 k ∧ 0 ≤ k ∧ k ≤ 2 ∧ Hid (L1 N q w wr bs0 er0 k.toNat x0 x1 bs er)) (fun i _ => (2 - intOf i).toNat)
  case atStart =>
    refine ⟨0, 0, 0, bs0, er0, rfl, by omega, by omega, ⟨(H.out.below (by repeat' (first | with_reducible exact Below.refl _ _ | with_reducible refine Below.setCell ?_ (by first | (simp; done) | (simp; omega) | omega) _ | with_reducible refine below_drewN ?_ _ | with_reducible refine Below.drew ?_ | with_reducible refine Below.alloc ?_ (by first | (simp; done) | (simp; omega) | omega) _)) hq), mod_alloc (mod_alloc (mod_refl _ _) _) _, (Bk.new w _ _).alloc _, ?_, Pg.start _ _ _, fun _ h => absurd h (by omega), fun _ h => absurd h (by omega), by omega, by omega, Nat.le_refl _⟩⟩
    have := Bk.new (w.alloc (.cells #[.int .i64 0, .bool false, .bool false, .bool false, .int .i64 0, .int .i64 0, .int .i64 0, .int .i64 0, .int .i64 0, .slice none 0 0, .int .i64 0, .slice none 0 0] 45)) #[.int .i64 0, .int .i64 0] 80
    simpa using this
  case round =>
    obtain ⟨k, x0, x1, bs, er, rfl, k0, k1, hM⟩ := hrel
    have hk : k = 0 ∨ k = 1 ∨ k = 2 := by omega
    clear k0 k1
    have a0 := hM.out.b1.cell 0
    have a1 := hM.out.b1.cell 1
    have af := hM.out.b1.frozen
    simp only [List.getElem?_toArray, List.getElem?_cons_zero, List.getElem?_cons_succ] at a0 a1
    obtain ⟨X, hX⟩ : ∃ X, X = gt (tkT 1 bs er) := ⟨_, rfl⟩
    have bd := gtn_bd (tk_okb (n := 1) (er := er) hM.out.rd.okb).1 1 (tkT_len 1 bs er) (by decide)
    rw [← hX] at bd
    obtain ⟨g0, g1⟩ := bd
    have g2 : X < 256 := g1
    have HX : Hid (X = gt (tkT 1 bs er)) := hX
    clear hX g1
    rcases hk with rfl | rfl | rfl
    · go_wp2_with fail
      refine (num_hid N q 1 bs er X (by decide) HX.out _ hM.out.rd).mono ?_
      rintro e' w4 ⟨rfl, hg4, h4⟩
      have b4 := hM.out.b1.mod hg4 (by omega)
      have d0 := b4.cell 0
      have df := b4.frozen 0
      simp only [List.getElem?_toArray, List.getElem?_cons_zero] at d0
      have L4 : Hid (L1 N q w (w4.setCell ⟨w.heap.size + 1, 0, none⟩ (.int .i64 X)) bs0 er0 1 X x1 (tkR 1 bs er) (tkE 1 bs er)) := hM.out.step0 hq hg4 h4 HX.out
      clear hg4 h4 b4 a0 a1 af
      go_wp2
      exact ⟨⟨1, X, x1, _, _, rfl, by omega, by omega, L4⟩, by simp [intOf]⟩
    · go_wp2_with fail
      refine (num_hid N q 1 bs er X (by decide) HX.out _ hM.out.rd).mono ?_
      rintro e' w4 ⟨rfl, hg4, h4⟩
      have b4 := hM.out.b1.mod hg4 (by omega)
      have d0 := b4.cell 1
      have df := b4.frozen 1
      simp only [List.getElem?_toArray, List.getElem?_cons_zero, List.getElem?_cons_succ] at d0
      have L4 : Hid (L1 N q w (w4.setCell ⟨w.heap.size + 1, 1, none⟩ (.int .i64 X)) bs0 er0 2 x0 X (tkR 1 bs er) (tkE 1 bs er)) := hM.out.step1 hq hg4 h4 HX.out
      clear hg4 h4 b4 a0 a1 af
      go_wp2
      exact ⟨⟨2, x0, X, _, _, rfl, by omega, by omega, L4⟩, by simp [intOf]⟩
    · clear a0 a1 af HX g0 g2
      have hw1 : w.heap.size + 1 < wr.heap.size := hM.out.b1.lt
      obtain ⟨p, hp⟩ : ∃ p, p = wr.heap.size := ⟨_, rfl⟩
      have M2 : Hid (L2 N q p w (wr.alloc (.cells #[.int .i64 0, .int .i64 0, .int .i64 0, .int .i64 0, .int .i64 0] 91)) bs0 er0 0 x0 x1 0 0 0 0 0 bs er) := by
        subst hp
        have hqq := hM.out.rd.hq
        exact ⟨hM.out.rd.below ((Below.refl wr.heap.size wr).alloc (Nat.le_refl _) _) hqq, mod_alloc hM.out.gr _, hM.out.b0.alloc _, hM.out.b1.alloc _, Bk.new _ _ _, hw1, hM.out.pg, fun e => ⟨hM.out.v0 e (by decide), hM.out.v1 e (by decide)⟩, fun _ h => absurd h (by omega), fun _ h => absurd h (by omega), fun _ h => absurd h (by omega), fun _ h => absurd h (by omega), fun _ h => absurd h (by omega), hM.out.d0, hM.out.d1, by omega, by omega, by omega, by omega, by omega, hM.out.ln⟩
      clear hM
      go_wp2
      rw [← hp]
      clear hp hw1
      go_loopw [19] (fun i wr => ∃ (k x0 x1 y0 y1 y2 y3 y4 : Int) (bs : List Int) (er : Int), i = .int .i64 k ∧ 0 ≤ k ∧ k ≤ 5 ∧ Hid (L2 N q p w wr bs0 er0 k.toNat x0 x1 y0 y1 y2 y3 y4 bs er)) (fun i _ => (5 - intOf i).toNat)
      case atStart => exact ⟨0, x0, x1, 0, 0, 0, 0, 0, bs, er, rfl, by omega, by omega, M2⟩
      case round =>
        clear M2
        obtain ⟨k, x0, x1, y0, y1, y2, y3, y4, bs, er, rfl, k0, k1, hM⟩ := hrel
        have hk : k = 0 ∨ k = 1 ∨ k = 2 ∨ k = 3 ∨ k = 4 ∨ k = 5 := by omega
        clear k0 k1
        have hp := hM.out.hp
        rcases hk with rfl | rfl | rfl | rfl | rfl | rfl
        · obtain ⟨X, hX⟩ : ∃ X, X = gt (tkT 2 bs er) := ⟨_, rfl⟩
          have bd := gtn_bd (tk_okb (n := 2) (er := er) hM.out.rd.okb).1 2 (tkT_len 2 bs er) (by decide)
          rw [← hX] at bd
          obtain ⟨g0, g1⟩ := bd
          have g2 : X < 65536 := g1
          have HX : Hid (X = gt (tkT 2 bs er)) := hX
          clear hX g1
          go_wp2_with fail
          refine (num_hid N q 2 bs er X (by decide) HX.out _ hM.out.rd).mono ?_
          rintro e' w4 ⟨rfl, hg4, h4⟩
          have b4 := hM.out.b2.mod hg4 (by omega)
          have d0 := b4.cell 0
          have df := b4.frozen 0
          simp only [List.getElem?_toArray, List.getElem?_cons_zero] at d0
          have L4 : Hid (L2 N q p w (w4.setCell ⟨p, 0, none⟩ (.int .i64 X)) bs0 er0 1 x0 x1 X y1 y2 y3 y4 (tkR 2 bs er) (tkE 2 bs er)) := hM.out.step0 hq hg4 h4 HX.out
          clear hg4 h4 b4
          go_wp2
          exact ⟨⟨1, x0, x1, X, y1, y2, y3, y4, _, _, rfl, by omega, by omega, L4⟩, by simp [intOf]⟩
        · obtain ⟨X, hX⟩ : ∃ X, X = gt (tkT 2 bs er) := ⟨_, rfl⟩
          have bd := gtn_bd (tk_okb (n := 2) (er := er) hM.out.rd.okb).1 2 (tkT_len 2 bs er) (by decide)
          rw [← hX] at bd
          obtain ⟨g0, g1⟩ := bd
          have g2 : X < 65536 := g1
          have HX : Hid (X = gt (tkT 2 bs er)) := hX
          clear hX g1
          go_wp2_with fail
          refine (num_hid N q 2 bs er X (by decide) HX.out _ hM.out.rd).mono ?_
          rintro e' w4 ⟨rfl, hg4, h4⟩
          have b4 := hM.out.b2.mod hg4 (by omega)
          have d0 := b4.cell 1
          have df := b4.frozen 1
          simp only [List.getElem?_toArray, List.getElem?_cons_zero, List.getElem?_cons_succ] at d0
          have L4 : Hid (L2 N q p w (w4.setCell ⟨p, 1, none⟩ (.int .i64 X)) bs0 er0 2 x0 x1 y0 X y2 y3 y4 (tkR 2 bs er) (tkE 2 bs er)) := hM.out.step1 hq hg4 h4 HX.out
          clear hg4 h4 b4
          go_wp2
          exact ⟨⟨2, x0, x1, y0, X, y2, y3, y4, _, _, rfl, by omega, by omega, L4⟩, by simp [intOf]⟩
        · obtain ⟨X, hX⟩ : ∃ X, X = gt (tkT 2 bs er) := ⟨_, rfl⟩
          have bd := gtn_bd (tk_okb (n := 2) (er := er) hM.out.rd.okb).1 2 (tkT_len 2 bs er) (by decide)
          rw [← hX] at bd
          obtain ⟨g0, g1⟩ := bd
          have g2 : X < 65536 := g1
          have HX : Hid (X = gt (tkT 2 bs er)) := hX
          clear hX g1
          go_wp2_with fail
          refine (num_hid N q 2 bs er X (by decide) HX.out _ hM.out.rd).mono ?_
          rintro e' w4 ⟨rfl, hg4, h4⟩
          have b4 := hM.out.b2.mod hg4 (by omega)
          have d0 := b4.cell 2
          have df := b4.frozen 2
          simp only [List.getElem?_toArray, List.getElem?_cons_zero, List.getElem?_cons_succ] at d0
          have L4 : Hid (L2 N q p w (w4.setCell ⟨p, 2, none⟩ (.int .i64 X)) bs0 er0 3 x0 x1 y0 y1 X y3 y4 (tkR 2 bs er) (tkE 2 bs er)) := hM.out.step2 hq hg4 h4 HX.out
          clear hg4 h4 b4
          go_wp2
          exact ⟨⟨3, x0, x1, y0, y1, X, y3, y4, _, _, rfl, by omega, by omega, L4⟩, by simp [intOf]⟩
        · obtain ⟨X, hX⟩ : ∃ X, X = gt (tkT 2 bs er) := ⟨_, rfl⟩
          have bd := gtn_bd (tk_okb (n := 2) (er := er) hM.out.rd.okb).1 2 (tkT_len 2 bs er) (by decide)
          rw [← hX] at bd
          obtain ⟨g0, g1⟩ := bd
          have g2 : X < 65536 := g1
          have HX : Hid (X = gt (tkT 2 bs er)) := hX
          clear hX g1
          go_wp2_with fail
          refine (num_hid N q 2 bs er X (by decide) HX.out _ hM.out.rd).mono ?_
          rintro e' w4 ⟨rfl, hg4, h4⟩
          have b4 := hM.out.b2.mod hg4 (by omega)
          have d0 := b4.cell 3
          have df := b4.frozen 3
          simp only [List.getElem?_toArray, List.getElem?_cons_zero, List.getElem?_cons_succ] at d0
          have L4 : Hid (L2 N q p w (w4.setCell ⟨p, 3, none⟩ (.int .i64 X)) bs0 er0 4 x0 x1 y0 y1 y2 X y4 (tkR 2 bs er) (tkE 2 bs er)) := hM.out.step3 hq hg4 h4 HX.out
          clear hg4 h4 b4
          go_wp2
          exact ⟨⟨4, x0, x1, y0, y1, y2, X, y4, _, _, rfl, by omega, by omega, L4⟩, by simp [intOf]⟩
        · obtain ⟨X, hX⟩ : ∃ X, X = gt (tkT 2 bs er) := ⟨_, rfl⟩
          have bd := gtn_bd (tk_okb (n := 2) (er := er) hM.out.rd.okb).1 2 (tkT_len 2 bs er) (by decide)
          rw [← hX] at bd
          obtain ⟨g0, g1⟩ := bd
          have g2 : X < 65536 := g1
          have HX : Hid (X = gt (tkT 2 bs er)) := hX
          clear hX g1
          go_wp2_with fail
          refine (num_hid N q 2 bs er X (by decide) HX.out _ hM.out.rd).mono ?_
          rintro e' w4 ⟨rfl, hg4, h4⟩
          have b4 := hM.out.b2.mod hg4 (by omega)
          have d0 := b4.cell 4
          have df := b4.frozen 4
          simp only [List.getElem?_toArray, List.getElem?_cons_zero, List.getElem?_cons_succ] at d0
          have L4 : Hid (L2 N q p w (w4.setCell ⟨p, 4, none⟩ (.int .i64 X)) bs0 er0 5 x0 x1 y0 y1 y2 y3 X (tkR 2 bs er) (tkE 2 bs er)) := hM.out.step4 hq hg4 h4 HX.out
          clear hg4 h4 b4
          go_wp2
          exact ⟨⟨5, x0, x1, y0, y1, y2, y3, X, _, _, rfl, by omega, by omega, L4⟩, by simp [intOf]⟩
        · have hbl : bs.length ≤ 10000000 := Nat.le_trans hM.out.ln HLn.out
          have a0 := hM.out.b1.cell 0
          have a1 := hM.out.b1.cell 1
          have t4 := hM.out.b2.cell 4
          simp only [List.getElem?_toArray, List.getElem?_cons_zero, List.getElem?_cons_succ] at a0 a1 t4
          obtain ⟨x00, x01⟩ := hM.out.dx0
          obtain ⟨x10, x11⟩ := hM.out.dx1
          obtain ⟨y40, y41⟩ := hM.out.d4
          have HPV : Hid (Pg 12 bs0 er0 12 bs er ∧ (er = 0 → x0 = fv bs0 0 1 ∧ x1 = fv bs0 1 1 ∧ y0 = fv bs0 2 2 ∧ y1 = fv bs0 4 2 ∧ y2 = fv bs0 6 2 ∧ y3 = fv bs0 8 2 ∧ y4 = fv bs0 10 2)) :=
            ⟨hM.out.pg, fun e => ⟨(hM.out.vx e).1, (hM.out.vx e).2, hM.out.v0 e (by decide), hM.out.v1 e (by decide), hM.out.v2 e (by decide), hM.out.v3 e (by decide), hM.out.v4 e (by decide)⟩⟩
          have M3 : Hid (L3 q p w wr x0 x1 y0 y1 y2 y3 y4) := ⟨hM.out.gr, hM.out.b0, hM.out.b1, hM.out.b2⟩
          have R3 : Hid (RdX N q wr bs er) := hM.out.rd
          clear hM
          obtain ⟨A7, hA7⟩ : ∃ A, A = x0 % 8 := ⟨_, rfl⟩
          obtain ⟨VR, hVR⟩ : ∃ A, A = x0 / 8 := ⟨_, rfl⟩
          have e1 : bits .and .i64 x0 7 = A7 := by rw [hA7]; exact i64_and_7 x0 x00 x01
          have e2 : x0 / 8 = VR := hVR.symm
          obtain ⟨C1, hC1⟩ : ∃ C, C = wiB VR 1 4 := ⟨_, rfl⟩
          have HC : Hid (A7 = x0 % 8 ∧ VR = x0 / 8 ∧ C1 = wiB VR 1 4) := ⟨hA7, hVR, hC1⟩
          have HV : Hid (∀ w, Calls Try.prog 36 #[.int .i64 VR] w fun e' w' => e' = .returned (.bool C1) ∧ w' = w) := fun w => by rw [hC1]; exact versionFits_any VR w
          obtain ⟨C2, hC2⟩ : ∃ C, (A7 == 6) = C := ⟨_, rfl⟩
          have HC2 : Hid ((A7 == 6) = C2) := hC2
          clear hA7 hVR hC1
          obtain ⟨F, hF⟩ : ∃ F, F = fil y4 := ⟨_, rfl⟩
          have HFi : Hid (∀ (w : World), Calls Try.prog 58 #[.int .i64 y4] w fun e' w' => e' = .returned (.int .i64 F) ∧ w' = w) := by
            intro w; rw [hF]; exact filled_any y4 w y40 (by omega)
          have hF2 : y4 ≤ F ∧ F ≤ y4 + 3 := by rw [hF]; unfold fil; omega
          obtain ⟨C3, hC3⟩ : ∃ C, decide (F ≤ (bs.length : Int)) = C := ⟨_, rfl⟩
          have HF : Hid (F = fil y4 ∧ decide (F ≤ (bs.length : Int)) = C3) := ⟨hF, hC3⟩
          obtain ⟨K, hK⟩ : ∃ K : Nat, K = (F - y4).toNat := ⟨_, rfl⟩
          have eK : IntKind.i64.wrap (F - y4) = (K : Int) := by simp only [IntKind.wrap_i64]; omega
          have K3 : Hid (K ≤ 8) := by show _ ≤ _; omega
          have HK : Hid (K = (F - y4).toNat) := hK
          clear hK hF
          obtain ⟨E1, hE1⟩ : ∃ E, E = rk (C1 && C2) er 32 := ⟨_, rfl⟩
          obtain ⟨E2, hE2⟩ : ∃ E, E = rk C3 E1 32 := ⟨_, rfl⟩
          have HE : Hid (E1 = rk (C1 && C2) er 32 ∧ E2 = rk C3 E1 32) := ⟨hE1, hE2⟩
          obtain ⟨X7, hX7⟩ : ∃ X, X = gt (tkT K (tkR y4 bs E2) (tkE y4 bs E2)) := ⟨_, rfl⟩
          have HX7 : Hid (X7 = gt (tkT K (tkR y4 bs E2) (tkE y4 bs E2))) := hX7
          obtain ⟨C4, hC4⟩ : ∃ C, (X7 == 0) = C := ⟨_, rfl⟩
          have HC4 : Hid ((X7 == 0) = C4) := hC4
          obtain ⟨rB, hrB⟩ : ∃ B, (x1 / 128 % 2 * 128 != 0) = B := ⟨_, rfl⟩
          obtain ⟨eB, heB⟩ : ∃ B, (x1 / 64 % 2 * 64 != 0) = B := ⟨_, rfl⟩
          obtain ⟨mB, hmB⟩ : ∃ B, (x1 / 32 % 2 * 32 != 0) = B := ⟨_, rfl⟩
          obtain ⟨OP, hOP⟩ : ∃ O, O = x1 % 32 := ⟨_, rfl⟩
          have g1 : bits .and .i64 x1 128 = x1 / 128 % 2 * 128 := i64_and_128 x1 x10 x11
          have g2 : bits .and .i64 x1 64 = x1 / 64 % 2 * 64 := i64_and_64 x1 x10 x11
          have g3 : bits .and .i64 x1 32 = x1 / 32 % 2 * 32 := i64_and_32 x1 x10 x11
          have g4 : bits .and .i64 x1 31 = OP := by rw [hOP]; exact i64_and_31 x1 x10 x11
          have HB : Hid (rB = decide (x1 / 128 % 2 = 1) ∧ eB = decide (x1 / 64 % 2 = 1) ∧ mB = decide (x1 / 32 % 2 = 1) ∧ OP = x1 % 32) :=
            ⟨by rw [← hrB]; exact neq_bit _ _ (by decide) (by omega), by rw [← heB]; exact neq_bit _ _ (by decide) (by omega), by rw [← hmB]; exact neq_bit _ _ (by decide) (by omega), hOP⟩
          have HS : Hid (∀ v, L3 q p w v x0 x1 y0 y1 y2 y3 y4 → v.cell? ⟨w.heap.size + 1, 0, none⟩ = some (.int .i64 x0) ∧ v.cell? ⟨w.heap.size + 1, 1, none⟩ = some (.int .i64 x1) ∧ v.cell? ⟨p, 0, none⟩ = some (.int .i64 y0) ∧ v.cell? ⟨p, 1, none⟩ = some (.int .i64 y1) ∧ v.cell? ⟨p, 2, none⟩ = some (.int .i64 y2) ∧ v.cell? ⟨p, 3, none⟩ = some (.int .i64 y3) ∧ v.cell? ⟨p, 4, none⟩ = some (.int .i64 y4)) := fun v h => ⟨h.b1.cell 0, h.b1.cell 1, h.b2.cell 0, h.b2.cell 1, h.b2.cell 2, h.b2.cell 3, h.b2.cell 4⟩
          have HbL : Hid (bs.length ≤ 10000000) := hbl
          clear hOP hE1 hE2 hX7 hbl
          go_wp2_with fail
          refine (HV.out _).mono ?_
          rintro e' w3 ⟨rfl, hw⟩
          rw [hw]
          clear hw
          cases C1
          all_goals
            go_wp2_with fail
            refine (ask_any N q bs er 32 _ _ R3.out).mono ?_
            rintro e' w5 ⟨rfl, hg5, h5⟩
            have R5 : Hid (RdX N q w5 bs E1) := by show RdX _ _ _ _ _; rw [HE.out.1]; simpa using h5
            have M5 : Hid (L3 q p w w5 x0 x1 y0 y1 y2 y3 y4) := M3.out.mod hq hp hg5
            clear hg5 h5 a0 a1 t4
            obtain ⟨a0, a1, t0, t1, t2, t3, t4⟩ := HS.out _ M5.out
            obtain ⟨ao5, cap5, r5⟩ := R5.out
            have c5 := r5.c0
            have R5' : Hid (Rd N q w5 ao5 cap5 bs E1) := r5
            clear r5
            go_wp2_with fail
            go_region_held3 (fun w' => w'.cell? ⟨q, 0, none⟩ = some (.slice ao5 bs.length cap5)) (first | exact c5 | exact c6 | go_keep) (first | (go_at_call 58; refine (HFi.out _).mono ?_; rintro e' w6 ⟨rfl, rfl⟩) | (go_at_call 35; refine (ask_rd N q ao5 cap5 bs E1 32 C3 _ R5'.out.drew).mono ?_; rintro e' w6 ⟨rfl, hg6, h6⟩; have R6 : Hid (RdX N q w6 bs E2) := (by show RdX _ _ _ _ _; rw [HE.out.2]; exact ⟨ao5, cap5, h6⟩); have M6 : Hid (L3 q p w w6 x0 x1 y0 y1 y2 y3 y4) := (M5.out.mod hq hp (mod_undrew hg6)); have c6 := h6.c0; clear hg6 h6))
            clear c5 a0 a1 t0 t1 t2 t3 t4 R5 R5' M5
            go_wp2_with fail
            refine (rbytes_any N q bs E2 y4 _ HbL.out R6.out).mono ?_
            rintro e' w7 ⟨v7, rfl, hg7, ho7, h7⟩
            have M7 : Hid (L3 q p w w7 x0 x1 y0 y1 y2 y3 y4) := M6.out.mod hq hp hg7
            have O7 : Hid (Own w7 (w.heap.size + 1) v7 (tkT y4 bs E2)) := ho7.mono (Nat.le_of_lt M6.out.b1.lt)
            have R7 : Hid (RdX N q w7 (tkR y4 bs E2) (tkE y4 bs E2)) := h7
            obtain ⟨ao7, cap7, hv7, -⟩ := ho7.rs
            subst hv7
            obtain ⟨L7, hL7⟩ : ∃ L, L = (tkT y4 bs E2).length := ⟨_, rfl⟩
            rw [← hL7] at O7 ⊢
            clear hg7 ho7 h7 hL7 c6 M6 R6
            go_wp2_with (go_at_call 58; refine (HFi.out _).mono ?_; rintro e' w8 ⟨rfl, hw⟩; rw [hw]; clear hw)
            refine (num_hid N q K (tkR y4 bs E2) (tkE y4 bs E2) X7 K3.out HX7.out _ R7.out).mono ?_
            rintro e' w8 ⟨rfl, hg8, h8⟩
            have M8 : Hid (L3 q p w w8 x0 x1 y0 y1 y2 y3 y4) := M7.out.mod hq hp hg8
            have O8 : Hid (Own w8 (w.heap.size + 1) (.slice ao7 L7 cap7) (tkT y4 bs E2)) := O7.out.mod hg8 (by omega)
            have R8 : Hid (RdX N q w8 (tkR K (tkR y4 bs E2) (tkE y4 bs E2)) (tkE K (tkR y4 bs E2) (tkE y4 bs E2))) := h8
            clear hg8 h8 M7 O7 R7
            go_wp2_with fail
            refine (ask_any N q (tkR K (tkR y4 bs E2) (tkE y4 bs E2)) (tkE K (tkR y4 bs E2) (tkE y4 bs E2)) 32 C4 _ R8.out).mono ?_
            rintro e' w9 ⟨rfl, hg9, h9⟩
            have M9 : Hid (L3 q p w w9 x0 x1 y0 y1 y2 y3 y4) := M8.out.mod hq hp hg9
            have O9 : Hid (Own w9 (w.heap.size + 1) (.slice ao7 L7 cap7) (tkT y4 bs E2)) := O8.out.mod hg9 (by omega)
            have R9 : Hid (RdX N q w9 (tkR K (tkR y4 bs E2) (tkE y4 bs E2)) (rk C4 (tkE K (tkR y4 bs E2) (tkE y4 bs E2)) 32)) := h9
            clear hg9 h9 M8 O8 R8
            obtain ⟨a0, a1, t0, t1, t2, t3, t4⟩ := HS.out _ M9.out
            obtain ⟨z0, z1, z2, z3, z4, z5, z6, z7, z8, z9, z10, z11⟩ := (⟨M9.out.b0.lt, M9.out.b0.cell⟩ : Ck w.heap.size w9 _).c12
            have zf := M9.out.b0.frozen
            go_wp2_with fail
            refine bodyPost_ret (v := ctV VR rB eB mB OP y0 y1 y2 y3 (.slice ao7 L7 cap7) 0 (.slice none 0 0)) (by simp [results, Try.results46, go_sem, ctV, z0, z1, z2, z3, z4, z5, z6, z7, z8, z9, z10, z11]) rfl ⟨_, _, _, _, _, _, _, _, _, _, tkT y4 bs E2, tkR K (tkR y4 bs E2) (tkE y4 bs E2), rk C4 (tkE K (tkR y4 bs E2) (tkE y4 bs E2)) 32, rfl, ?_, ?_, ?_, Nat.le_trans (tkR_len _ _ _) (Nat.le_trans (tkR_len _ _ _) HbL.out), ?_⟩
            · iterate 12 (refine mod_setNew ?_ (Nat.le_refl _))
              exact M9.out.gr
            · refine Own.mono (B := w.heap.size + 1) ?_ (Nat.le_succ _)
              iterate 12 (refine Own.low ?_ (Nat.lt_succ_self _))
              exact O9.out
            · have hN := R9.out.hN
              iterate 12 (refine RdX.far ?_ (by omega) (by omega) _)
              exact R9.out
            · exact cp_any HPV.out.1 HPV.out.2 y40 HC.out.2.1 HC.out.1 HC.out.2.2 HC2.out HF.out.1 HF.out.2 (by rw [HE.out.2, HE.out.1]) HK.out HX7.out HC4.out HB.out.1 HB.out.2.1 HB.out.2.2.1 HB.out.2.2.2
end Go.Proofs.Ytdobghhjlfffpaa
