/- What s, negative, product and sum of the reference's whole numbers return. -/
import Derived.Test.YtdmaaigchfgmdaaBigF
import Derived.WalkKit
import Derived.WalkSpells
import Derived.WalkLawsBesides
import Derived.Handy
import Derived.Deep.RegionHeld3
namespace Go.Proofs.Ytdmaaigchfgmdaa
open Go.RowKit
theorem bcell {W w1 : World} (hb : Below W.heap.size W w1) : (∀ b o, b < W.heap.size → w1.cell? ⟨b, o, none⟩ = W.cell? ⟨b, o, none⟩) ∧ (∀ b o, b < W.heap.size → w1.frozen? ⟨b, o, none⟩ = W.frozen? ⟨b, o, none⟩) :=
  ⟨fun b o h => hb.cell (p := ⟨b, o, none⟩) h, fun b o h => hb.frozen (p := ⟨b, o, none⟩) h⟩
theorem IsBig.mk {B : Nat} {w : World} {o : Option Addr} {ds : List Nat} {c : Nat} {m : Bool} {z : Int} (h1 : ds.length ≤ c) (h2 : Rd w o ds) (h3 : Bg.can ds) (h4 : z = sgn m (Bg.val ds)) (h5 : New B o c) : IsBig B w (.agg #[.slice o ds.length c, .bool m]) z := ⟨o, ds, c, m, rfl, h1, h2, h3, h4, h5⟩
/-- behind three new blocks and any draws -/
theorem three_below (w : World) (x y z : Obj) (n : Nat) : Below w.heap.size w ((((w.alloc x).alloc y).alloc z).drewN n) :=
  below_drewN ((((Below.refl _ _).alloc (Nat.le_refl _) _).alloc (by simp) _).alloc (by simp; omega) _) n
theorem rd3 {w : World} {ao : Option Addr} {A : List Nat} (h : Rd w ao A) (x y z : Obj) (n : Nat) : Rd ((((w.alloc x).alloc y).alloc z).drewN n) ao A := h.below (three_below w x y z n) (Nat.le_refl _)
/-- three new blocks of two cells, behind a call -/
theorem three {n : Nat} {w w1 : World} {x0 x1 y0 y1 z0 z1 : Value} {t : TypeId} (h : Below (((w.alloc (.cells #[x0, x1] t)).alloc (.cells #[y0, y1] t)).alloc (.cells #[z0, z1] t)).heap.size ((((w.alloc (.cells #[x0, x1] t)).alloc (.cells #[y0, y1] t)).alloc (.cells #[z0, z1] t)).drewN n) w1) :
    w1.cell? ⟨w.heap.size, 0, none⟩ = some x0 ∧ w1.cell? ⟨w.heap.size, 1, none⟩ = some x1 ∧ w1.cell? ⟨w.heap.size + 1, 0, none⟩ = some y0 ∧ w1.cell? ⟨w.heap.size + 1, 1, none⟩ = some y1 ∧ w1.cell? ⟨w.heap.size + 1 + 1, 0, none⟩ = some z0 ∧ w1.cell? ⟨w.heap.size + 1 + 1, 1, none⟩ = some z1 ∧ w1.frozen? ⟨w.heap.size + 1 + 1, 0, none⟩ = false ∧ w1.frozen? ⟨w.heap.size + 1 + 1, 1, none⟩ = false := by
  have b0 : w1.heap[w.heap.size]? = some (.cells #[x0, x1] t (0, 0)) := (h.block _ (by simp; omega)).trans (by
    show (((w.alloc (.cells #[x0, x1] t)).alloc (.cells #[y0, y1] t)).alloc (.cells #[z0, z1] t)).heap[w.heap.size]? = _
    rw [Below.heap_alloc _ _ _ (by first | (simp; done) | (simp; omega)), Below.heap_alloc _ _ _ (by simp), heap_alloc_new])
  have b1 : w1.heap[w.heap.size + 1]? = some (.cells #[y0, y1] t (0, 0)) := (h.block _ (by first | (simp; done) | (simp; omega))).trans (by
    show (((w.alloc (.cells #[x0, x1] t)).alloc (.cells #[y0, y1] t)).alloc (.cells #[z0, z1] t)).heap[w.heap.size + 1]? = _
    rw [Below.heap_alloc _ _ _ (by simp), new_two])
  have b2 : w1.heap[w.heap.size + 1 + 1]? = some (.cells #[z0, z1] t (0, 0)) := (h.block _ (by simp)).trans (by
    show (((w.alloc (.cells #[x0, x1] t)).alloc (.cells #[y0, y1] t)).alloc (.cells #[z0, z1] t)).heap[w.heap.size + 1 + 1]? = _
    have := new_two (w.alloc (.cells #[x0, x1] t)) (.cells #[y0, y1] t) (.cells #[z0, z1] t)
    rw [show (w.alloc (.cells #[x0, x1] t)).heap.size = w.heap.size + 1 from by simp] at this
    exact this)
  exact ⟨(two_cells b0).1, (two_cells b0).2.1, (two_cells b1).1, (two_cells b1).2.1, (two_cells b2).1, (two_cells b2).2.1, (two_cells b2).2.2.1, (two_cells b2).2.2.2⟩
theorem kept2 {w1 : World} {b n o : Nat} {p q : Value} (h : n ≠ b) : ((w1.setCell ⟨b, 0, none⟩ p).setCell ⟨b, 1, none⟩ q).cell? ⟨n, o, none⟩ = w1.cell? ⟨n, o, none⟩ :=
  World.cell?_of_block ((Below.heap_setCell _ _ _ _ h).trans (Below.heap_setCell _ _ _ _ h))
theorem keep4 {w1 : World} {n : Nat} {p q x0 x1 y0 y1 : Value} (e0 : w1.cell? ⟨n, 0, none⟩ = some x0) (e1 : w1.cell? ⟨n, 1, none⟩ = some x1) (e2 : w1.cell? ⟨n + 1, 0, none⟩ = some y0) (e3 : w1.cell? ⟨n + 1, 1, none⟩ = some y1) :
    ((w1.setCell ⟨n + 1 + 1, 0, none⟩ p).setCell ⟨n + 1 + 1, 1, none⟩ q).cell? ⟨n, 0, none⟩ = some x0 ∧ ((w1.setCell ⟨n + 1 + 1, 0, none⟩ p).setCell ⟨n + 1 + 1, 1, none⟩ q).cell? ⟨n, 1, none⟩ = some x1 ∧ ((w1.setCell ⟨n + 1 + 1, 0, none⟩ p).setCell ⟨n + 1 + 1, 1, none⟩ q).cell? ⟨n + 1, 0, none⟩ = some y0 ∧ ((w1.setCell ⟨n + 1 + 1, 0, none⟩ p).setCell ⟨n + 1 + 1, 1, none⟩ q).cell? ⟨n + 1, 1, none⟩ = some y1 :=
  ⟨(kept2 (by omega)).trans e0, (kept2 (by omega)).trans e1, (kept2 (by omega)).trans e2, (kept2 (by omega)).trans e3⟩
theorem keepF {w w' : World} {x y z : Obj} {n : Nat} {o : Option Addr} {ds : List Nat} {c N : Nat} (t1 : ds.length ≤ c) (t2 : Rd w' o ds) (t3 : Bg.can ds) (t4 : Bg.val ds = N) (t5 : New (((w.alloc x).alloc y).alloc z).heap.size o c) (t6 : Below (((w.alloc x).alloc y).alloc z).heap.size ((((w.alloc x).alloc y).alloc z).drewN n) w') : Hid (ds.length ≤ c ∧ Rd w' o ds ∧ Bg.can ds ∧ Bg.val ds = N ∧ New (w.heap.size + 3) o c ∧ Below w.heap.size w w') :=
  ⟨t1, t2, t3, t4, by simpa using t5, (three_below w x y z n).trans (t6.mono (by simp; omega))⟩
/-- what is made of digits in new memory, stored as a struct that is handed back -/
theorem big_end {w w1 : World} {o : Option Addr} {ds : List Nat} {c N : Nat} {m : Bool} {Z : Int} {p q : Value} (h : ds.length ≤ c ∧ Rd w1 o ds ∧ Bg.can ds ∧ Bg.val ds = N ∧ New (w.heap.size + 3) o c ∧ Below w.heap.size w w1)
    (hZ : Z = sgn m N) :
    IsBig w.heap.size ((w1.setCell ⟨w.heap.size + 1 + 1, 0, none⟩ p).setCell ⟨w.heap.size + 1 + 1, 1, none⟩ q) (.agg #[.slice o ds.length c, .bool m]) Z ∧ Below w.heap.size w ((w1.setCell ⟨w.heap.size + 1 + 1, 0, none⟩ p).setCell ⟨w.heap.size + 1 + 1, 1, none⟩ q) := by
  obtain ⟨h1, h2, h3, h4, h5, h6⟩ := h
  have hne : ∀ ad, o = some ad → ad.block ≠ w.heap.size + 1 + 1 := fun ad e => by have := h5.2 ad e; omega
  refine ⟨IsBig.mk h1 ((h2.store hne p).store hne q) h3 (by rw [h4]; exact hZ) (h5.mono (by omega)), ?_⟩
  exact (h6.setCell (by simp; omega) _).setCell (by simp; omega) _
set_option maxRecDepth 20000 in
set_option maxHeartbeats 1000000 in
theorem product_any (ao bo : Option Addr) (A B : List Nat) (ca cb : Nat) (ma mb : Bool) (w : World) (hA : (A.length : Int) ≤ 1000) (hB : (B.length : Int) ≤ 1000) (ra : Rd w ao A) (rb : Rd w bo B) (da : Bg.can A) (db : Bg.can B) :
    Calls Try.prog 65 #[.agg #[.slice ao A.length ca, .bool ma], .agg #[.slice bo B.length cb, .bool mb]] w fun e w' => ∃ v, e = .returned v ∧ IsBig w.heap.size w' v (sgn (!(ma == mb)) (Bg.val A * Bg.val B)) ∧ Below w.heap.size w w' := by
  have ra' : Hid (Rd w ao A) := ra
  have rb' : Hid (Rd w bo B) := rb
  have da' : Hid (Bg.dok A) := da.1
  have db' : Hid (Bg.dok B) := db.1
  clear ra rb da db
  go_enter Try.func65, Try.ntmps65
  go_wp2
  go_region_held3 (fun w' => w'.cell? ⟨w.heap.size, 0, none⟩ = some (.slice ao A.length ca) ∧ w'.cell? ⟨w.heap.size, 1, none⟩ = some (.bool ma) ∧ w'.cell? ⟨w.heap.size + 1, 0, none⟩ = some (.slice bo B.length cb) ∧ w'.cell? ⟨w.heap.size + 1, 1, none⟩ = some (.bool mb)) (first | exact ⟨e0, e1, e2, e3⟩ | exact keep4 e0 e1 e2 e3 | go_keep) ((go_at_call 70; refine (times_any ao bo A B ca cb _ (by omega) (by omega) (rd3 ra'.out _ _ _ 1) (rd3 rb'.out _ _ _ 1) da'.out db'.out).mono ?_; rintro e w1 ⟨o, ds, c, rfl, t1, t2, t3, t4, t5, t6⟩; obtain ⟨e0, e1, e2, e3, e4, e5, e6, e7⟩ := three t6; have FF := keepF t1 t2 t3 t4 t5 t6; clear t1 t2 t3 t4 t5 t6))
  go_wp2
  obtain ⟨r1, r2⟩ := big_end (m := !(ma == mb)) (p := .slice o ds.length c) (q := .bool !(ma == mb)) FF.out rfl
  exact bodyPost_ret (v := .agg #[.slice o ds.length c, .bool !(ma == mb)]) (by simp [results, Try.results65, go_sem, e4, e5]) rfl ⟨_, rfl, r1, r2⟩
theorem sgn_sum (ma mb : Bool) (a b : Nat) : (ma = mb → sgn ma a + sgn mb b = sgn ma (a + b)) ∧ (ma ≠ mb → b ≤ a → sgn ma a + sgn mb b = sgn ma (a - b)) ∧ (ma ≠ mb → a ≤ b → sgn ma a + sgn mb b = sgn mb (b - a)) := by
  cases ma <;> cases mb <;> simp [sgn] <;> omega
set_option maxRecDepth 20000 in
set_option maxHeartbeats 2000000 in
theorem sum_any (ao bo : Option Addr) (A B : List Nat) (ca cb : Nat) (ma mb : Bool) (w : World) (hA : (A.length : Int) ≤ 1000) (hB : (B.length : Int) ≤ 1000) (ra : Rd w ao A) (rb : Rd w bo B) (da : Bg.can A) (db : Bg.can B) :
    Calls Try.prog 62 #[.agg #[.slice ao A.length ca, .bool ma], .agg #[.slice bo B.length cb, .bool mb]] w fun e w' => ∃ v, e = .returned v ∧ IsBig w.heap.size w' v (sgn ma (Bg.val A) + sgn mb (Bg.val B)) ∧ Below w.heap.size w w' := by
  have ra' : Hid (Rd w ao A) := ra
  have rb' : Hid (Rd w bo B) := rb
  have da' : Hid (Bg.can A) := da
  have db' : Hid (Bg.can B) := db
  clear ra rb da db
  by_cases hm : ma = mb
  · subst hm
    go_enter Try.func62, Try.ntmps62
    go_wp2
    go_region_held3 (fun w' => w'.cell? ⟨w.heap.size, 0, none⟩ = some (.slice ao A.length ca) ∧ w'.cell? ⟨w.heap.size, 1, none⟩ = some (.bool ma) ∧ w'.cell? ⟨w.heap.size + 1, 0, none⟩ = some (.slice bo B.length cb) ∧ w'.cell? ⟨w.heap.size + 1, 1, none⟩ = some (.bool ma)) (first | exact ⟨e0, e1, e2, e3⟩ | exact keep4 e0 e1 e2 e3 | go_keep) ((go_at_call 67; refine (plus_any ao bo A B ca cb _ (by omega) (by omega) (rd3 ra'.out _ _ _ 1) (rd3 rb'.out _ _ _ 1) da'.out.1 db'.out.1).mono ?_; rintro e w1 ⟨o, ds, c, rfl, t1, t2, t3, t4, t5, t6⟩; obtain ⟨e0, e1, e2, e3, e4, e5, e6, e7⟩ := three t6; have FF := keepF t1 t2 t3 t4 t5 t6; clear t1 t2 t3 t4 t5 t6))
    go_wp2
    obtain ⟨r1, r2⟩ := big_end (m := ma) (p := .slice o ds.length c) (q := .bool ma) FF.out ((sgn_sum ma ma _ _).1 rfl)
    exact bodyPost_ret (v := .agg #[.slice o ds.length c, .bool ma]) (by simp [results, Try.results62, go_sem, e4, e5]) rfl ⟨_, rfl, r1, r2⟩
  · have hm' : (ma == mb) = false := by simpa using hm
    have hm2 : Hid (ma ≠ mb) := hm
    clear hm
    go_enter Try.func62, Try.ntmps62
    go_wp2_with fail
    refine (compare_any ao bo A B ca cb _ (by omega) (by omega) (rd3 ra'.out _ _ _ 0) (rd3 rb'.out _ _ _ 0) da'.out db'.out).mono ?_
    rintro e w2 ⟨r, rfl, hr, n, rfl⟩
    have hr' : Hid ((0 ≤ r → Bg.val B ≤ Bg.val A) ∧ (¬ 0 ≤ r → Bg.val A ≤ Bg.val B)) := ⟨fun _ => by omega, fun _ => by omega⟩
    clear hr
    by_cases hr0 : 0 ≤ r
    · have hle := hr'.out.1 hr0
      have hle' : Hid (Bg.val B ≤ Bg.val A) := hle
      have hlen : (B.length : Int) ≤ A.length := by have := Bg.can_le db'.out da'.out hle; omega
      clear hle hr'
      go_wp2
      go_region_held3 (fun w' => w'.cell? ⟨w.heap.size, 0, none⟩ = some (.slice ao A.length ca) ∧ w'.cell? ⟨w.heap.size, 1, none⟩ = some (.bool ma) ∧ w'.cell? ⟨w.heap.size + 1, 0, none⟩ = some (.slice bo B.length cb) ∧ w'.cell? ⟨w.heap.size + 1, 1, none⟩ = some (.bool mb)) (first | exact ⟨e0, e1, e2, e3⟩ | exact keep4 e0 e1 e2 e3 | go_keep) ((go_at_call 68; refine (minus_any ao bo A B ca cb _ (by omega) (by omega) (rd3 ra'.out _ _ _ (n + 1)) (rd3 rb'.out _ _ _ (n + 1)) da'.out.1 db'.out.1 hle'.out).mono ?_; rintro e w1 ⟨o, ds, c, rfl, t1, t2, t3, t4, t5, t6⟩; obtain ⟨e0, e1, e2, e3, e4, e5, e6, e7⟩ := three t6; have FF := keepF t1 t2 t3 t4 t5 t6; clear t1 t2 t3 t4 t5 t6))
      go_wp2
      obtain ⟨r1, r2⟩ := big_end (m := ma) (p := .slice o ds.length c) (q := .bool ma) FF.out ((sgn_sum ma mb _ _).2.1 hm2.out hle'.out)
      exact bodyPost_ret (v := .agg #[.slice o ds.length c, .bool ma]) (by simp [results, Try.results62, go_sem, e4, e5]) rfl ⟨_, rfl, r1, r2⟩
    · have hle := hr'.out.2 hr0
      have hle' : Hid (Bg.val A ≤ Bg.val B) := hle
      have hlen : (A.length : Int) ≤ B.length := by have := Bg.can_le da'.out db'.out hle; omega
      clear hle hr'
      go_wp2
      go_region_held3 (fun w' => w'.cell? ⟨w.heap.size, 0, none⟩ = some (.slice ao A.length ca) ∧ w'.cell? ⟨w.heap.size, 1, none⟩ = some (.bool ma) ∧ w'.cell? ⟨w.heap.size + 1, 0, none⟩ = some (.slice bo B.length cb) ∧ w'.cell? ⟨w.heap.size + 1, 1, none⟩ = some (.bool mb)) (first | exact ⟨e0, e1, e2, e3⟩ | exact keep4 e0 e1 e2 e3 | go_keep) ((go_at_call 68; refine (minus_any bo ao B A cb ca _ (by omega) (by omega) (rd3 rb'.out _ _ _ (n + 1)) (rd3 ra'.out _ _ _ (n + 1)) db'.out.1 da'.out.1 hle'.out).mono ?_; rintro e w1 ⟨o, ds, c, rfl, t1, t2, t3, t4, t5, t6⟩; obtain ⟨e0, e1, e2, e3, e4, e5, e6, e7⟩ := three t6; have FF := keepF t1 t2 t3 t4 t5 t6; clear t1 t2 t3 t4 t5 t6))
      go_wp2
      obtain ⟨r1, r2⟩ := big_end (m := mb) (p := .slice o ds.length c) (q := .bool mb) FF.out ((sgn_sum ma mb _ _).2.2 hm2.out hle'.out)
      exact bodyPost_ret (v := .agg #[.slice o ds.length c, .bool mb]) (by simp [results, Try.results62, go_sem, e4, e5]) rfl ⟨_, rfl, r1, r2⟩
end Go.Proofs.Ytdmaaigchfgmdaa
