/- Arrays that a reader fills: what lies in memory meanwhile. FromShort. -/
import Derived.Test.YtdobghhjlfffpaaWI
import Derived.Test.YtdobghhjlfffpaaXL
import Derived.Laws.Tables
namespace Go.Proofs.Ytdobghhjlfffpaa
open Go.RowKit
theorem pow256_le {m n : Nat} (h : m ≤ n) : (256 : Int) ^ m ≤ (256 : Int) ^ n := by
  obtain ⟨d, rfl⟩ := Nat.le.dest h
  rw [Int.pow_add]
  have h1 : (0 : Int) < 256 ^ m := Int.pow_pos (by decide)
  have h2 : (1 : Int) ≤ 256 ^ d := Int.pow_pos (by decide)
  have := Int.mul_le_mul_of_nonneg_left h2 (Int.le_of_lt h1)
  rwa [Int.mul_one] at this
theorem gtw_bd {bs : List Int} (h : okb bs) (n : Nat) (hl : bs.length ≤ n) : 0 ≤ gt bs ∧ gt bs < (256 : Int) ^ n := by
  have h1 := gt_bd h
  exact ⟨h1.1, Int.lt_of_lt_of_le h1.2 (pow256_le hl)⟩
/-- blocks that are kept meanwhile -/
def Ks (q p : Nat) (v : World) (ks : List (Nat × Array Value × TypeId)) : Prop := ∀ x ∈ ks, Bk x.1 v x.2.1 x.2.2 ∧ x.1 ≠ q ∧ x.1 < p
/-- an array of n numbers of wd bytes each, from byte off on; k of them are read -/
structure HA (K : Prop) (ks : List (Nat × Array Value × TypeId)) (kd : IntKind) (off wd n : Nat) (T : TypeId) (N q p : Nat) (w v : World) (bs0 : List Int) (er0 : Int) (k : Nat) (A : Array Value) (bs : List Int) (er : Int) : Prop where
  rd : RdX N q v bs er
  gr : w.grownBy v (some q)
  hp : w.heap.size ≤ p
  ks : Ks q p v ks
  b : Bk p v A T
  sz : A.size = n
  val : ∀ j, j < n → ∃ x, A[j]? = some (.int kd x) ∧ 0 ≤ x ∧ x < (256 : Int) ^ wd ∧ (er = 0 → j < k → x = fv bs0 (off + wd * j) wd)
  pg : Pg 48 bs0 er0 (off + wd * k) bs er
  ln : bs.length ≤ bs0.length
  kp : er = 0 → K
theorem HA.step {K : Prop} {ks : List (Nat × Array Value × TypeId)} {kd : IntKind} {off wd n : Nat} {T : TypeId} {N q p : Nat} {w v v' : World} {bs0 : List Int} {er0 : Int} {k : Nat} {A : Array Value} {bs : List Int} {er : Int}
    (h : HA K ks kd off wd n T N q p w v bs0 er0 k A bs er) (hq : q < w.heap.size) (hk : k < n) (hT : off + wd * (k + 1) ≤ 48) (hg : v.grownBy v' (some q)) (hr : RdX N q v' (tkR wd bs er) (tkE wd bs er)) {X : Int} (hX : X = gt (tkT wd bs er)) :
    HA K ks kd off wd n T N q p w (v'.setCell ⟨p, k, none⟩ (.int kd X)) bs0 er0 (k + 1) (A.setIfInBounds k (.int kd X)) (tkR wd bs er) (tkE wd bs er) := by
  have hN := h.rd.hN
  have hp := h.hp
  have bd := gtw_bd (tk_okb (n := wd) (er := er) h.rd.okb).1 wd (tkT_len wd bs er)
  rw [← hX] at bd
  have ez : tkE wd bs er = 0 → er = 0 := fun e => (h.pg.val wd e).1
  have hpg := h.pg.step wd (by rw [Nat.mul_add, Nat.mul_one] at hT; omega)
  rw [show off + wd * k + wd = off + wd * (k + 1) by rw [Nat.mul_add, Nat.mul_one]; omega] at hpg
  refine ⟨hr.far (by omega) (by omega) _, mod_setNew (mod_trans h.gr hg) (by omega), hp, fun x hx => ?_, (h.b.mod hg (by omega)).set _, by rw [Array.size_setIfInBounds]; exact h.sz, fun j hj => ?_, hpg, Nat.le_trans (tkR_len wd bs er) h.ln, fun e => h.kp (ez e)⟩
  · obtain ⟨a, b, c⟩ := h.ks x hx
    exact ⟨(a.mod hg b).far (by omega) _, b, c⟩
  · by_cases hjk : j = k
    · subst hjk
      refine ⟨X, by rw [Array.getElem?_setIfInBounds, if_pos rfl, if_pos (by rw [h.sz]; exact hk)], bd.1, bd.2, fun e _ => ?_⟩
      have t := (h.pg.val wd e).2
      rw [hX, t]
      rfl
    · obtain ⟨x, g1, g2, g3, g4⟩ := h.val j hj
      exact ⟨x, by rw [Array.getElem?_setIfInBounds, if_neg (fun e => hjk e.symm)]; exact g1, g2, g3, fun e hlt => g4 (ez e) (by omega)⟩
/-- a new array -/
theorem HA.start {K : Prop} {ks : List (Nat × Array Value × TypeId)} {kd : IntKind} {off wd n : Nat} {T : TypeId} {N q : Nat} {w v : World} {bs0 : List Int} {er0 : Int} {A : Array Value} {bs : List Int} {er : Int}
    (rd : RdX N q v bs er) (gr : w.grownBy v (some q)) (hks : Ks q v.heap.size v ks) (sz : A.size = n) (hz : ∀ j, j < n → A[j]? = some (.int kd 0)) (pg : Pg 48 bs0 er0 off bs er) (ln : bs.length ≤ bs0.length) (kp : er = 0 → K) :
    HA K ks kd off wd n T N q v.heap.size w (v.alloc (.cells A T)) bs0 er0 0 A bs er := by
  refine ⟨rd.below ((Below.refl v.heap.size v).alloc (Nat.le_refl _) _) rd.hq, mod_alloc gr _, gr.size, fun x hx => ?_, Bk.new _ _ _, sz, fun j hj => ⟨0, hz j hj, by decide, Int.pow_pos (by decide), fun _ h => absurd h (Nat.not_lt_zero _)⟩, by rw [Nat.mul_zero, Nat.add_zero]; exact pg, ln, kp⟩
  obtain ⟨a, b, c⟩ := hks x hx
  exact ⟨a.alloc _, b, c⟩
/-- when it is full it is kept -/
theorem HA.full {K : Prop} {ks : List (Nat × Array Value × TypeId)} {kd : IntKind} {off wd n : Nat} {T : TypeId} {N q p : Nat} {w v : World} {bs0 : List Int} {er0 : Int} {k : Nat} {A : Array Value} {bs : List Int} {er : Int}
    (h : HA K ks kd off wd n T N q p w v bs0 er0 k A bs er) (hq : q < w.heap.size) : Ks q v.heap.size v (ks ++ [(p, A, T)]) := fun x hx => by
  have hp := h.hp
  have hlt := h.b.lt
  rcases List.mem_append.1 hx with hx | hx
  · obtain ⟨a, b, c⟩ := h.ks x hx
    exact ⟨a, b, by omega⟩
  · rw [List.mem_singleton] at hx
    subst hx
    exact ⟨h.b, by show p ≠ q; omega, hlt⟩
theorem zeros4 (kd : IntKind) (j : Nat) (hj : j < 4) : (#[Value.int kd 0, .int kd 0, .int kd 0, .int kd 0] : Array Value)[j]? = some (.int kd 0) := by
  have h4 : j = 0 ∨ j = 1 ∨ j = 2 ∨ j = 3 := by omega
  rcases h4 with rfl | rfl | rfl | rfl <;> rfl
theorem zeros3 (kd : IntKind) (j : Nat) (hj : j < 3) : (#[Value.int kd 0, .int kd 0, .int kd 0] : Array Value)[j]? = some (.int kd 0) := by
  have h4 : j = 0 ∨ j = 1 ∨ j = 2 := by omega
  rcases h4 with rfl | rfl | rfl <;> rfl
/-- a packet laid down cell by cell -/
def sp17 (v : World) (p : Nat) (a0 a1 a2 a3 a4 a5 a6 a7 a8 a9 a10 a11 a12 a13 a14 a15 a16 : Value) : World := (((((((((((((((((v.setCell ⟨p, 0, none⟩ a0).setCell ⟨p, 1, none⟩ a1).setCell ⟨p, 2, none⟩ a2).setCell ⟨p, 3, none⟩ a3).setCell ⟨p, 4, none⟩ a4).setCell ⟨p, 5, none⟩ a5).setCell ⟨p, 6, none⟩ a6).setCell ⟨p, 7, none⟩ a7).setCell ⟨p, 8, none⟩ a8).setCell ⟨p, 9, none⟩ a9).setCell ⟨p, 10, none⟩ a10).setCell ⟨p, 11, none⟩ a11).setCell ⟨p, 12, none⟩ a12).setCell ⟨p, 13, none⟩ a13).setCell ⟨p, 14, none⟩ a14).setCell ⟨p, 15, none⟩ a15).setCell ⟨p, 16, none⟩ a16)
theorem Bk.all17 {p : Nat} {v : World} {z y1 y2 y3 y4 y5 y6 y7 y8 y9 y10 y11 y12 y13 y14 y15 y16 : Value} {T : TypeId} (h : Bk p v #[z, y1, y2, y3, y4, y5, y6, y7, y8, y9, y10, y11, y12, y13, y14, y15, y16] T) (a0 a1 a2 a3 a4 a5 a6 a7 a8 a9 a10 a11 a12 a13 a14 a15 a16 : Value) : Bk p (sp17 v p a0 a1 a2 a3 a4 a5 a6 a7 a8 a9 a10 a11 a12 a13 a14 a15 a16) #[a0, a1, a2, a3, a4, a5, a6, a7, a8, a9, a10, a11, a12, a13, a14, a15, a16] T := by
  have h17 := ((((((((((((((((h.set (j := 0) a0).set (j := 1) a1).set (j := 2) a2).set (j := 3) a3).set (j := 4) a4).set (j := 5) a5).set (j := 6) a6).set (j := 7) a7).set (j := 8) a8).set (j := 9) a9).set (j := 10) a10).set (j := 11) a11).set (j := 12) a12).set (j := 13) a13).set (j := 14) a14).set (j := 15) a15).set (j := 16) a16
  have e : ((((((((((((((((((#[z, y1, y2, y3, y4, y5, y6, y7, y8, y9, y10, y11, y12, y13, y14, y15, y16] : Array Value).setIfInBounds 0 a0).setIfInBounds 1 a1).setIfInBounds 2 a2).setIfInBounds 3 a3).setIfInBounds 4 a4).setIfInBounds 5 a5).setIfInBounds 6 a6).setIfInBounds 7 a7).setIfInBounds 8 a8).setIfInBounds 9 a9).setIfInBounds 10 a10).setIfInBounds 11 a11).setIfInBounds 12 a12).setIfInBounds 13 a13).setIfInBounds 14 a14).setIfInBounds 15 a15).setIfInBounds 16 a16) = #[a0, a1, a2, a3, a4, a5, a6, a7, a8, a9, a10, a11, a12, a13, a14, a15, a16] := by kernel_rfl
  rw [e] at h17
  exact h17
theorem mod_sp17 {w v : World} {q g : Nat} (h : w.grownBy v (some q)) (hg : w.heap.size ≤ g) (a0 a1 a2 a3 a4 a5 a6 a7 a8 a9 a10 a11 a12 a13 a14 a15 a16 : Value) : w.grownBy (sp17 v g a0 a1 a2 a3 a4 a5 a6 a7 a8 a9 a10 a11 a12 a13 a14 a15 a16) (some q) := by
  unfold sp17
  iterate 17 (refine mod_setNew ?_ hg)
  exact h
theorem RdX.sp17 {N q g : Nat} {w : World} {bs : List Int} {er : Int} (h : RdX N q w bs er) (hg : N ≤ g) (hne : q ≠ g) (a0 a1 a2 a3 a4 a5 a6 a7 a8 a9 a10 a11 a12 a13 a14 a15 a16 : Value) : RdX N q (sp17 w g a0 a1 a2 a3 a4 a5 a6 a7 a8 a9 a10 a11 a12 a13 a14 a15 a16) bs er := by
  unfold Go.Proofs.Ytdobghhjlfffpaa.sp17
  iterate 17 (refine RdX.far ?_ hg hne _)
  exact h
theorem mod_drew {w v : World} {r : Option Nat} (h : w.grownBy v r) : w.grownBy v.drew r := ⟨h.os, h.tape, h.output, h.size, h.block⟩
theorem Bk.drew {p : Nat} {v : World} {cs : Array Value} {T : TypeId} (h : Bk p v cs T) : Bk p v.drew cs T := h
/-- the result is a packet in a block -/
theorem res_pk {fn : Func} {p : Tmp} (h : fn.results = #[.cell p 29]) (tmps : Array Value) (w : World) (g : Nat) (cs : Array Value) (hp : tmps.getD p undef = .pointer (some ⟨g, 0, none⟩)) (hB : Bk g w cs 29) (hs : cs.size = 17) : (results fn tmps).run Try.prog w = .ok (.agg cs) w := by
  obtain ⟨fs, hu⟩ := pk_under
  exact results_cell_row h tmps w g _ cs (0, 0) _ hp hB hu rfl (by rw [hs]; exact pk_info)
theorem fromShort_any (n : Int) (w : World) (n0 : 0 ≤ n) (n1 : n < 4294967296) :
    Calls Try.prog 51 #[.int .u32 n] w fun e w' => e = .returned (.int .i64 (n * 65536)) ∧ w' = w := by
  go_enter Try.func51, Try.ntmps51
  go_wp2
  go_ret
  exact ⟨rfl, rfl⟩
/-- an index into an array in a block -/
theorem aidx4 (p k : Nat) (hk : (k : Int) < 4) (w : World) : Sem.run Try.prog (Instr.indexAt 87 (.pointer (some ⟨p, 0, none⟩)) (.int .i64 (k : Int))) w = .ok (.pointer (some ⟨p, k, none⟩)) w := by
  have u := Try.underlying87
  have c3 : Try.prog.cellsOf 5 = 1 := by kernel_rfl
  have h0 : (0 : Int) ≤ k := Int.natCast_nonneg k
  have e := add_own p k
  go_simp
theorem aidx3 (p k : Nat) (hk : (k : Int) < 3) (w : World) : Sem.run Try.prog (Instr.indexAt 78 (.pointer (some ⟨p, 0, none⟩)) (.int .i64 (k : Int))) w = .ok (.pointer (some ⟨p, k, none⟩)) w := by
  have u := Try.underlying78
  have c3 : Try.prog.cellsOf 23 = 1 := by kernel_rfl
  have h0 : (0 : Int) ≤ k := Int.natCast_nonneg k
  have e := add_own p k
  go_simp
theorem aidx8 (p k : Nat) (hk : (k : Int) < 4) (w : World) : Sem.run Try.prog (Instr.indexAt 79 (.pointer (some ⟨p, 0, none⟩)) (.int .i64 (k : Int))) w = .ok (.pointer (some ⟨p, k, none⟩)) w := by
  have u := Try.underlying79
  have c3 : Try.prog.cellsOf 25 = 1 := by kernel_rfl
  have h0 : (0 : Int) ≤ k := Int.natCast_nonneg k
  have e := add_own p k
  go_simp
end Go.Proofs.Ytdobghhjlfffpaa
