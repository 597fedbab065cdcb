/- What down and two of the reference's whole numbers return: a quotient divided down, and a power of two. -/
import Derived.Test.YtdmaaigchfgmdaaBigH
import Derived.WalkKit
import Derived.WalkSpells
import Derived.WalkLawsBesides
import Derived.Handy
import Derived.Deep.RegionHeld3
namespace Go.Proofs.Ytdmaaigchfgmdaa
open Go.RowKit
theorem sgn_down (m : Bool) (A V : Nat) (hV : 0 < V) : sgn m A / (V : Int) = if m ∧ 0 < A % V then sgn m (A / V + 1) else sgn m (A / V) := by
  cases m
  · simp [sgn]
  · simp only [sgn, if_true, true_and]
    rw [Fx.quo_neg A V hV]
    split <;> simp
theorem can_pos {R : List Nat} (h : Bg.can R) : 0 < Bg.val R ↔ 0 < R.length := by
  constructor
  · intro hp
    refine Nat.pos_of_ne_zero fun h0 => ?_
    have : R = [] := List.length_eq_zero_iff.1 h0
    subst this
    simp [Bg.val] at hp
  · intro hp
    have h1 := Bg.can_ge h hp
    have h2 : 0 < 65536 ^ (R.length - 1) := Nat.pos_of_ne_zero (by simp)
    omega
/-- a sum with one digit -/
theorem plus_one (bo : Option Addr) (B : List Nat) (cb : Nat) (d : Nat) (g : Nat) (w : World) (hB : (B.length : Int) ≤ 100000) (rb : Rd w bo B) (db : Bg.dok B) (hd : d < 65536) (rd : Rd w (some ⟨g, 0, none⟩) [d]) :
    Calls Try.prog 67 #[.slice bo B.length cb, .slice (some ⟨g, 0, none⟩) 1 1] w fun e w' => ∃ (o : Option Addr) (ds : List Nat) (c : Nat), e = .returned (.slice o ds.length c) ∧ ds.length ≤ c ∧ Rd w' o ds ∧ Bg.can ds ∧ Bg.val ds = Bg.val B + d ∧ New w.heap.size o c ∧ Below w.heap.size w w' := by
  have := plus_any bo (some ⟨g, 0, none⟩) B [d] cb 1 w hB (by simp) rb rd db (Bg.dok_one d hd)
  rw [Bg.val_one] at this
  exact this
theorem cells_kept {w w' : World} (h : Below w.heap.size w w') {b o : Nat} {v : Value} (hb : b < w.heap.size) (hc : w.cell? ⟨b, o, none⟩ = some v) : w'.cell? ⟨b, o, none⟩ = some v := (h.cell (p := ⟨b, o, none⟩) hb).trans hc
theorem free_kept {w w' : World} (h : Below w.heap.size w w') {b o : Nat} (hb : b < w.heap.size) (hc : w.frozen? ⟨b, o, none⟩ = false) : w'.frozen? ⟨b, o, none⟩ = false := (h.frozen (p := ⟨b, o, none⟩) hb).trans hc
set_option maxRecDepth 20000 in
set_option maxHeartbeats 2000000 in
theorem down_any (ao bo : Option Addr) (A B : List Nat) (ca cb : Nat) (ma mb : Bool) (w : World) (hA : (A.length : Int) ≤ 1000) (hB : (B.length : Int) ≤ 1000) (ra : Rd w ao A) (rb : Rd w bo B) (da : Bg.can A) (db : Bg.can B) (hV : 0 < Bg.val B) :
    Calls Try.prog 64 #[.agg #[.slice ao A.length ca, .bool ma], .agg #[.slice bo B.length cb, .bool mb]] w fun e w' => ∃ v, e = .returned v ∧ IsBig w.heap.size w' v (sgn ma (Bg.val A) / ((Bg.val B : Nat) : Int)) ∧ Below w.heap.size w w' := by
  have ra' : Hid (Rd w ao A) := ra
  have rb' : Hid (Rd w bo B) := rb
  have da' : Hid (Bg.can A) := da
  have db' : Hid (Bg.can B) := db
  have hV' : Hid (0 < Bg.val B) := hV
  clear ra rb da db hV
  go_enter Try.func64, Try.ntmps64
  go_wp2_with fail
  refine (divide_any ao bo A B ca cb _ (by omega) (by omega) (rd3 ra'.out _ _ _ 0) (rd3 rb'.out _ _ _ 0) da'.out.1 db'.out.1 hV'.out).mono ?_
  rintro e w1 ⟨qo, ro, Q, R, qc, rc, rfl, t1, t2, t3, t4, t5, t6, t7, t8, t9, t10⟩
  obtain ⟨e0, e1, e2, e3, e4, e5, e6, e7⟩ := three (n := 0) t10
  have FF := keepF (n := 0) t1 t3 t5 t7 t9 t10
  have hw1 : w.heap.size + 3 ≤ w1.heap.size := by have := t10.size; simp at this; omega
  have hQl : Q.length ≤ 2000 := by
    have h1 : Bg.val Q < 65536 ^ A.length := by rw [t7]; exact Nat.lt_of_le_of_lt (Nat.div_le_self _ _) (Bg.val_lt A da'.out.1)
    have := Bg.can_len t5 _ h1
    omega
  have hQl' : (Q.length : Int) ≤ 2000 := by omega
  have hR : Hid ((0 < R.length ↔ 0 < Bg.val A % Bg.val B)) := by show _ ↔ _; rw [← can_pos t6, t8]
  clear t1 t2 t3 t4 t5 t6 t7 t8 t9 t10 hQl
  by_cases hm : ma = true ∧ 0 < (R.length : Int)
  · obtain ⟨rfl, hRp⟩ := hm
    have hfin : Hid (sgn true (Bg.val A) / ((Bg.val B : Nat) : Int) = sgn true (Bg.val A / Bg.val B + 1)) := by
      show _ = _
      rw [sgn_down _ _ _ hV'.out, if_pos ⟨rfl, hR.out.1 (by omega)⟩]
    go_wp2_with fail
    have RL := rd_lit w1 1
    have BA : Below w1.heap.size w1 (w1.alloc (.cells #[.int .i64 1] 3)) := (Below.refl _ _).alloc (Nat.le_refl _) _
    refine (plus_one qo Q qc 1 w1.heap.size _ (by omega) (FF.out.2.1.below BA (Nat.le_refl _)) FF.out.2.2.1.1 (by decide) RL).mono ?_
    rintro e w2 ⟨o, ds, c, rfl, t1, t2, t3, t4, t5, t6⟩
    have BB : Below w1.heap.size w1 w2 := BA.trans (t6.mono (by simp))
    have f1 := cells_kept BB (by omega) e1
    have f4 := cells_kept BB (by omega) e4
    have f5 := cells_kept BB (by omega) e5
    have f6 := free_kept BB (by omega) e6
    have f7 := free_kept BB (by omega) e7
    have F2 : Hid (ds.length ≤ c ∧ Rd w2 o ds ∧ Bg.can ds ∧ Bg.val ds = Bg.val A / Bg.val B + 1 ∧ New (w.heap.size + 3) o c ∧ Below w.heap.size w w2) := ⟨t1, t2, t3, by rw [t4, FF.out.2.2.2.1], t5.mono (by simp; omega), FF.out.2.2.2.2.2.trans (BB.mono (by omega))⟩
    clear RL BA BB t1 t2 t3 t4 t5 t6 e0 e1 e2 e3 e4 e5 e6 e7
    go_wp2
    obtain ⟨r1, r2⟩ := big_end (m := true) (p := .slice o ds.length c) (q := .bool true) F2.out hfin.out
    exact bodyPost_ret (v := .agg #[.slice o ds.length c, .bool true]) (by simp [results, Try.results64, go_sem, f4, f5]) rfl ⟨_, rfl, r1, r2⟩
  · have hfin : Hid (sgn ma (Bg.val A) / ((Bg.val B : Nat) : Int) = sgn ma (Bg.val A / Bg.val B)) := by
      show _ = _
      rw [sgn_down _ _ _ hV'.out, if_neg (fun h => hm ⟨h.1, by have := hR.out.2 h.2; omega⟩)]
    cases ma
    · clear hm
      go_wp2
      obtain ⟨r1, r2⟩ := big_end (m := false) (p := .slice qo Q.length qc) (q := .bool false) FF.out hfin.out
      exact bodyPost_ret (v := .agg #[.slice qo Q.length qc, .bool false]) (by simp [results, Try.results64, go_sem, e4, e5]) rfl ⟨_, rfl, r1, r2⟩
    · have hR0 : ¬ 0 < (R.length : Int) := fun h => hm ⟨rfl, h⟩
      clear hm
      go_wp2
      obtain ⟨r1, r2⟩ := big_end (m := true) (p := .slice qo Q.length qc) (q := .bool true) FF.out hfin.out
      exact bodyPost_ret (v := .agg #[.slice qo Q.length qc, .bool true]) (by simp [results, Try.results64, go_sem, e4, e5]) rfl ⟨_, rfl, r1, r2⟩
end Go.Proofs.Ytdmaaigchfgmdaa
