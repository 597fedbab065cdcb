/- Distances: the program's and the reference's. -/
import Derived.Test.YtlggademcmkihaaBigL
import Derived.Test.YtlggademcmkihaaBigK
import Derived.Test.YtlggademcmkihaaHX
import Derived.LoopN
namespace Go.Proofs.Ytlggademcmkihaa
open Go Go.RowKit
/-- the best sample -/
structure Be where
  o : Int
  d : Int
  p : Int
  j : Int
  a : Int
  n : Bool
def beL (b : Be) : List Value := [.int .i64 b.o, .int .i64 b.d, .int .i64 b.p, .int .i64 b.j, .int .u64 b.a, .bool b.n]
structure okB' (b : Be) : Prop where
  d : W64 b.d
  p : W64 b.p
  j : W64 b.j
structure okT (t : Td) : Prop where
  del : W64 t.del
  dis : W64 t.dis
def ds0 (t : Td) (b : Be) : Int := Fx.sh (max (Fx.cl 4611686018427387904 (t.del + b.d)) 16777216) (-1)
def ds1 (t : Td) (b : Be) : Int := Fx.cl 4611686018427387904 (ds0 t b + t.dis)
def ds2 (t : Td) (b : Be) : Int := Fx.cl 4611686018427387904 (ds1 t b + b.p)
def ds3 (t : Td) (b : Be) : Int := Fx.cl 4611686018427387904 (ds2 t b + b.j)
def dsI (t : Td) (b : Be) (now : Int) : Int := Fx.cl 4611686018427387904 (ds3 t b + wr b.a now)
theorem ds0_bd (t : Td) (b : Be) : -4611686018427387904 ≤ ds0 t b ∧ ds0 t b ≤ 4611686018427387904 := by
  have h := cl62 (t.del + b.d)
  unfold ds0
  rw [sh1]
  omega
/-- two structs in the call's first two blocks -/
structure VT (w W : World) (t : Td) (b : Be) (T : TypeId) : Prop where
  below : Below w.heap.size w W
  td : Bk w.heap.size W (tdL t).toArray T
  be : Bk (w.heap.size + 1) W (beL b).toArray 66
theorem VT.step {w W W' : World} {t : Td} {b : Be} {T : TypeId} (h : VT w W t b T) (hb : Below W.heap.size W W') : VT w W' t b T :=
  ⟨h.below.trans (hb.mono h.below.size), h.td.kept (hb.block _ h.td.lt), h.be.kept (hb.block _ h.be.lt)⟩
theorem VT.new (w : World) (t : Td) (b : Be) (T : TypeId) : VT w ((w.alloc (.cells (tdL t).toArray T)).alloc (.cells (beL b).toArray 66)) t b T := by
  refine ⟨((Below.refl _ _).alloc (Nat.le_refl _) _).alloc (by simp) _, (Bk.new w _ _).kept (((Below.refl _ _).alloc (Nat.le_refl _) _).block _ (by simp)), ?_⟩
  have := Bk.new (w.alloc (.cells (tdL t).toArray T)) (beL b).toArray 66
  rw [size_alloc1] at this
  exact this
theorem VT.del {w W : World} {t : Td} {b : Be} {T : TypeId} (h : VT w W t b T) : W.cell? ⟨w.heap.size, 4, none⟩ = some (.int .i64 t.del) := h.td.cell 4
theorem VT.dis {w W : World} {t : Td} {b : Be} {T : TypeId} (h : VT w W t b T) : W.cell? ⟨w.heap.size, 5, none⟩ = some (.int .i64 t.dis) := h.td.cell 5
theorem VT.bd {w W : World} {t : Td} {b : Be} {T : TypeId} (h : VT w W t b T) : W.cell? ⟨w.heap.size + 1, 1, none⟩ = some (.int .i64 b.d) := h.be.cell 1
theorem VT.bp {w W : World} {t : Td} {b : Be} {T : TypeId} (h : VT w W t b T) : W.cell? ⟨w.heap.size + 1, 2, none⟩ = some (.int .i64 b.p) := h.be.cell 2
theorem VT.bj {w W : World} {t : Td} {b : Be} {T : TypeId} (h : VT w W t b T) : W.cell? ⟨w.heap.size + 1, 3, none⟩ = some (.int .i64 b.j) := h.be.cell 3
theorem VT.ba {w W : World} {t : Td} {b : Be} {T : TypeId} (h : VT w W t b T) : W.cell? ⟨w.heap.size + 1, 4, none⟩ = some (.int .u64 b.a) := h.be.cell 4
set_option maxRecDepth 20000 in
set_option maxHeartbeats 1000000 in
theorem rdistance_any (t : Td) (b : Be) (now : Int) (w : World) (ht : okT t) (hb : okB' b) : Calls Try.prog 25 #[.agg (tdL t).toArray, .agg (beL b).toArray, .int .u64 now] w fun e w' => e = .returned (.int .i64 (dsI t b now)) ∧ Below w.heap.size w w' := by
  obtain ⟨A, hA⟩ : ∃ A, Fx.cl 4611686018427387904 (t.del + b.d) = A := ⟨_, rfl⟩
  obtain ⟨M, hM⟩ : ∃ M, max A 16777216 = M := ⟨_, rfl⟩
  obtain ⟨D0, h0⟩ : ∃ D0, ds0 t b = D0 := ⟨_, rfl⟩
  obtain ⟨D1, h1⟩ : ∃ D1, ds1 t b = D1 := ⟨_, rfl⟩
  obtain ⟨D2, h2⟩ : ∃ D2, ds2 t b = D2 := ⟨_, rfl⟩
  obtain ⟨D3, h3⟩ : ∃ D3, ds3 t b = D3 := ⟨_, rfl⟩
  obtain ⟨S, hS⟩ : ∃ S, max (sn now b.a) 0 = S := ⟨_, rfl⟩
  obtain ⟨E, hE⟩ : ∃ E, dr S = E := ⟨_, rfl⟩
  obtain ⟨D4, h4⟩ : ∃ D4, dsI t b now = D4 := ⟨_, rfl⟩
  have bA := cl62 (t.del + b.d)
  rw [hA] at bA
  have b0 := ds0_bd t b
  rw [h0] at b0
  have b1 : -4611686018427387904 ≤ D1 ∧ D1 ≤ 4611686018427387904 := by rw [← h1]; exact cl62 _
  have b2 : -4611686018427387904 ≤ D2 ∧ D2 ≤ 4611686018427387904 := by rw [← h2]; exact cl62 _
  have b3 : -4611686018427387904 ≤ D3 ∧ D3 ≤ 4611686018427387904 := by rw [← h3]; exact cl62 _
  have bS := sn_bd now b.a
  have bE : -4611686018427387904 ≤ E ∧ E ≤ 4611686018427387904 := by rw [← hE]; exact dr_bd _
  have c1 : Hid (∀ u, Calls Try.prog 38 #[.int .i64 t.del, .int .i64 b.d] u fun e w' => e = .returned (.int .i64 A) ∧ Below u.heap.size u w') := fun u => by rw [← hA]; exact radd_any _ _ u ht.del.1 ht.del.2 hb.d.1 hb.d.2
  have c2 : Hid (∀ u, Calls Try.prog 48 #[.int .i64 M] u fun e w' => e = .returned (.int .i64 D0) ∧ Below u.heap.size u w') := fun u => by
    have : Fx.sh M (-1) = D0 := by rw [← h0, ← hM, ← hA]; rfl
    rw [← this]
    exact rhalf_any M u (by unfold W64; omega)
  have c3 : Hid (∀ u, Calls Try.prog 38 #[.int .i64 D0, .int .i64 t.dis] u fun e w' => e = .returned (.int .i64 D1) ∧ Below u.heap.size u w') := fun u => by rw [← h1]; unfold ds1; rw [h0]; exact radd_any _ _ u (by omega) (by omega) ht.dis.1 ht.dis.2
  have c4 : Hid (∀ u, Calls Try.prog 38 #[.int .i64 D1, .int .i64 b.p] u fun e w' => e = .returned (.int .i64 D2) ∧ Below u.heap.size u w') := fun u => by rw [← h2]; unfold ds2; rw [h1]; exact radd_any _ _ u (by omega) (by omega) hb.p.1 hb.p.2
  have c5 : Hid (∀ u, Calls Try.prog 38 #[.int .i64 D2, .int .i64 b.j] u fun e w' => e = .returned (.int .i64 D3) ∧ Below u.heap.size u w') := fun u => by rw [← h3]; unfold ds3; rw [h2]; exact radd_any _ _ u (by omega) (by omega) hb.j.1 hb.j.2
  have c6 : Hid (∀ u, Calls Try.prog 42 #[.int .u64 b.a, .int .u64 now] u fun e w' => e = .returned (.int .i64 S) ∧ w' = u) := fun u => by rw [← hS]; exact rafter_any _ _ u
  have c7 : Hid (∀ u, Calls Try.prog 41 #[.int .i64 4222124650, .int .i64 S] u fun e w' => e = .returned (.int .i64 E) ∧ Below u.heap.size u w') := fun u => by rw [← hE]; exact rdrift_any _ _ u (by decide) (by decide) (by omega) (by omega)
  have c8 : Hid (∀ u, Calls Try.prog 38 #[.int .i64 D3, .int .i64 E] u fun e w' => e = .returned (.int .i64 D4) ∧ Below u.heap.size u w') := fun u => by rw [← h4]; unfold dsI wr; rw [h3, hS, hE]; exact radd_any _ _ u (by omega) (by omega) (by omega) (by omega)
  have m1 : ∀ u, (Builtin.max_ #[25, 25] 25 #[.int .i64 A, .int .i64 16777216]).run Try.prog u = .ok (.int .i64 M) u := fun u => by rw [run_mxS, hM]
  rw [h4]
  clear hA hM h0 h1 h2 h3 hS hE h4 bA b0 b1 b2 b3 bS bE ht hb
  go_enter Try.func25, Try.ntmps25
  refine post_hid fun Q hQ => ?_
  refine seq_hid fun R hR => ?_
  go_wp2
  refine world_hid fun W hW => ?_
  have HA : Hid (VT w W t b 58) := by show VT _ _ _ _ _; rw [hW.out]; exact VT.new _ _ _ _
  clear hW
  rw [hR.out]
  clear hR
  refine seq_hid fun R hR => ?_
  have k1 := HA.out.del
  have k2 := HA.out.bd
  go_wp2_with (first
    | (go_at_call 38; refine (c1.out _).mono ?_; rintro e w1 ⟨rfl, hb1⟩; have HA : Hid (VT w w1 t b 58) := VT.step HA.out hb1; clear hb1)
    | (go_at_call 48; refine (c2.out _).mono ?_; rintro e w2 ⟨rfl, hb2⟩; have HA : Hid (VT w w2 t b 58) := VT.step HA.out hb2; clear hb2))
  rw [hR.out]
  clear hR k1 k2 c1 c2 m1
  refine seq_hid fun R hR => ?_
  have k1 := HA.out.dis
  have k2 := HA.out.bp
  have k3 := HA.out.bj
  go_wp2_with fail
  go_region_held3 (fun w' => w'.cell? ⟨w.heap.size, 5, none⟩ = some (.int .i64 t.dis) ∧ w'.cell? ⟨w.heap.size + 1, 2, none⟩ = some (.int .i64 b.p) ∧ w'.cell? ⟨w.heap.size + 1, 3, none⟩ = some (.int .i64 b.j)) (first | with_reducible exact ⟨k1, k2, k3⟩ | with_reducible exact ⟨HA.out.dis, HA.out.bp, HA.out.bj⟩ | go_keep) (first
    | (go_at_call 38; refine (c3.out _).mono ?_; rintro e w3 ⟨rfl, hb3⟩; have HA : Hid (VT w w3 t b 58) := VT.step HA.out (by first | exact hb3 | exact Below.then ((Below.refl _ _).drew) hb3); clear c3)
    | (go_at_call 38; refine (c4.out _).mono ?_; rintro e w4 ⟨rfl, hb4⟩; have HA : Hid (VT w w4 t b 58) := VT.step HA.out (by first | exact hb4 | exact Below.then ((Below.refl _ _).drew) hb4); clear c4)
    | (go_at_call 38; refine (c5.out _).mono ?_; rintro e w5 ⟨rfl, hb5⟩; have HA : Hid (VT w w5 t b 58) := VT.step HA.out (by first | exact hb5 | exact Below.then ((Below.refl _ _).drew) hb5); clear c5))
  clear k1 k2 k3
  go_wp2_with fail
  rw [hR.out]
  clear hR
  have k1 := HA.out.ba
  go_wp2_with (first
    | (go_at_call 42; refine (c6.out _).mono ?_; rintro e wq ⟨rfl, hwq⟩; rw [hwq]; clear hwq)
    | (go_at_call 41; refine (c7.out _).mono ?_; rintro e w6 ⟨rfl, hb6⟩; have HA : Hid (VT w w6 t b 58) := VT.step HA.out hb6; clear hb6)
    | (go_at_call 38; refine (c8.out _).mono ?_; rintro e w7 ⟨rfl, hb7⟩; have HA : Hid (VT w w7 t b 58) := VT.step HA.out hb7; clear hb7))
  rw [hQ.out]
  go_ret
  exact ⟨rfl, HA.out.below⟩
end Go.Proofs.Ytlggademcmkihaa
