/- What of of the reference's whole numbers returns: the digits and the sign of a number of 64 bits. -/
import Derived.Test.YtdmaaigchfgmdaaBigE
import Derived.WalkKit
import Derived.WalkSpells
import Derived.WalkLawsBesides
import Derived.Handy
namespace Go.Proofs.Ytdmaaigchfgmdaa
open Go.RowKit
/-- a size with a sign -/
def sgn (m : Bool) (n : Nat) : Int := if m then -(n : Int) else (n : Int)
/-- a number of digits and a sign, as it is handed on -/
def IsBig (B : Nat) (w : World) (v : Value) (z : Int) : Prop := ∃ (o : Option Addr) (ds : List Nat) (c : Nat) (m : Bool), v = .agg #[.slice o ds.length c, .bool m] ∧ ds.length ≤ c ∧ Rd w o ds ∧ Bg.can ds ∧ z = sgn m (Bg.val ds) ∧ New B o c
theorem New.mono {B B' : Nat} {o : Option Addr} {c : Nat} (h : New B o c) (hB : B' ≤ B) : New B' o c := ⟨h.1, fun ad e => Nat.le_trans hB (h.2 ad e)⟩
theorem IsBig.below {B C : Nat} {w w' : World} {v : Value} {z : Int} (h : IsBig C w v z) (hb : Below B w w') (hB : w.heap.size ≤ B) : IsBig C w' v z := by
  obtain ⟨o, ds, c, m, h1, h2, h3, h4, h5⟩ := h
  exact ⟨o, ds, c, m, h1, h2, h3.below hb hB, h4, h5⟩
theorem two_cells {w : World} {b : Nat} {x y : Value} {t : TypeId} (h : w.heap[b]? = some (.cells #[x, y] t (0, 0))) :
    w.cell? ⟨b, 0, none⟩ = some x ∧ w.cell? ⟨b, 1, none⟩ = some y ∧ w.frozen? ⟨b, 0, none⟩ = false ∧ w.frozen? ⟨b, 1, none⟩ = false := by
  simp [World.cell?, World.frozen?, h]
theorem new_two (w : World) (x y : Obj) : ((w.alloc x).alloc y).heap[w.heap.size + 1]? = some y := by
  have := heap_alloc_new (w.alloc x) y
  rw [show (w.alloc x).heap.size = w.heap.size + 1 from by simp] at this
  exact this
theorem own_shape {w : World} {base e n : Nat} {v : Value} {xs : List Value} (h : w.ownsRow base e 1 v n xs) : ∃ o c, v = .slice o n c := by
  obtain ⟨_, ⟨rfl, rfl⟩ | ⟨g, cap, cur, rfl, _⟩⟩ := h
  · exact ⟨none, 0, rfl⟩
  · exact ⟨_, cap, rfl⟩
theorem four_digits (k U N : Nat) (o : Nat) (h : o + 65536 ^ k * U = N) (hU : 0 < U) (hN : N < 18446744073709551616) : k < 4 := by
  refine Nat.lt_of_not_le fun x => ?_
  have h1 : 65536 ^ 4 ≤ 65536 ^ k := Nat.pow_le_pow_right (by decide) x
  have h2 := Nat.mul_le_mul_left (65536 ^ k) (show 1 ≤ U from hU)
  omega
theorem of_step (O : List Nat) (U N : Nat) (h : Bg.val O + 65536 ^ O.length * U = N) : Bg.val (O ++ [U % 65536]) + 65536 ^ (O ++ [U % 65536]).length * (U / 65536) = N := by
  rw [Bg.val_snoc, List.length_append, List.length_singleton, Nat.pow_succ, Nat.mul_assoc]
  have := Nat.mod_add_div U 65536
  have e : 65536 ^ O.length * (U % 65536 + 65536 * (U / 65536)) = 65536 ^ O.length * U := by rw [this]
  rw [Nat.mul_add] at e
  omega
/-- ahead of each digit -/
structure Ofd (w wr : World) (m : Bool) (N U : Nat) (O : List Nat) (v : Value) : Prop where
  res : wr.heap[w.heap.size]? = some (.cells #[.slice none 0 0, .bool false] 80 (0, 0))
  var : wr.heap[w.heap.size + 1]? = some (.cells #[v, .bool m] 80 (0, 0))
  own : wr.ownsRow (w.heap.size + 2) 3 1 v O.length (vals O)
  dok : Bg.dok O
  eq : Bg.val O + 65536 ^ O.length * U = N
  front : U = 0 → Bg.can O
  below : Below w.heap.size w wr
  size : w.heap.size + 2 ≤ wr.heap.size
theorem of_next {w wr w1 : World} {m : Bool} {N U : Nat} {O : List Nat} {v v' : Value} (h : Ofd w wr m N U O v) (hU : 0 < U) (hown : w1.ownsRow (w.heap.size + 2) 3 1 v' (O.length + 1) (vals O ++ [.int .i64 ((U % 65536 : Nat) : Int)])) (hg : (wr.alloc (.cells #[.int .i64 ((U % 65536 : Nat) : Int)] 3)).grownBy w1 v.ownBlock) :
    w1.heap[w.heap.size + 1]? = some (.cells #[v, .bool m] 80 (0, 0)) ∧ Ofd w (w1.setCell ⟨w.heap.size + 1, 0, none⟩ v') m N (U / 65536) (O ++ [U % 65536]) v' := by
  have hs := h.size
  have hrow : ∀ k, k < w.heap.size + 2 → some k ≠ v.ownBlock := fun k hk e => by
    have := (h.own.lt k e.symm).1
    omega
  have hkeep : ∀ k, k < w.heap.size + 2 → w1.heap[k]? = wr.heap[k]? := fun k hk => by
    rw [hg.block k (by simp; omega) (hrow k hk)]
    exact Below.heap_alloc wr _ k (by omega)
  have hvar : w1.heap[w.heap.size + 1]? = some (.cells #[v, .bool m] 80 (0, 0)) := by rw [hkeep _ (by omega)]; exact h.var
  refine ⟨hvar, ?_⟩
  have hown2 : w1.ownsRow (w.heap.size + 2) 3 1 v' (O ++ [U % 65536]).length (vals (O ++ [U % 65536])) := by
    rw [← vals_snoc, List.length_append, List.length_singleton]; exact hown
  have hb1 : Below w.heap.size w w1 := (h.below.alloc (by omega) _).grown hg (by simp; omega) (fun k e => by have := (h.own.lt k e).1; omega)
  refine ⟨?_, ?_, ownsRow_setCell_below hown2 (by simp) _, Bg.dok_snoc h.dok (Nat.mod_lt _ (by decide)), of_step O U N h.eq, ?_, hb1.setCell (by simp) _, ?_⟩
  · rw [Below.heap_setCell _ _ _ _ (by simp), hkeep _ (by omega)]; exact h.res
  · have := heap_setCell_same w1 (w.heap.size + 1) 0 _ 80 v' hvar
    simpa using this
  · intro h0
    refine ⟨Bg.dok_snoc h.dok (Nat.mod_lt _ (by decide)), Or.inr ?_⟩
    have hl : (O ++ [U % 65536]).length - 1 = O.length := by simp
    rw [hl, Bg.getD_at _ _ (by simp), List.getElem_append_right (by omega)]
    simp
    omega
  · have h1 := hg.size
    simp at h1 ⊢
    omega
theorem of_big {w wr : World} {m : Bool} {N U : Nat} {O : List Nat} {o : Option Addr} {c : Nat} {n : Int} {x y : Value} (h : Ofd w wr m N U O (.slice o O.length c)) (hU : U = 0) (hn : n = sgn m N) :
    IsBig w.heap.size ((wr.setCell ⟨w.heap.size, 0, none⟩ x).setCell ⟨w.heap.size, 1, none⟩ y) (.agg #[.slice o O.length c, .bool m]) n := by
  obtain ⟨o', c', e, h1, h2, h3⟩ := own_rd h.own
  simp at e
  obtain ⟨rfl, rfl⟩ := e
  have hne : ∀ ad, o = some ad → ad.block ≠ w.heap.size := fun ad e => by have := h3.2 ad e; omega
  have hv := h.eq
  rw [hU, Nat.mul_zero] at hv
  exact ⟨o, O, c, m, rfl, h1, (h2.store hne x).store hne y, h.front hU, by rw [hn, ← hv]; rfl, h3.mono (by omega)⟩
set_option maxRecDepth 20000 in
set_option maxHeartbeats 2000000 in
theorem of_any (n : Int) (w : World) (hn0 : -9223372036854775808 ≤ n) (hn1 : n ≤ 9223372036854775807) :
    Calls Try.prog 55 #[.int .i64 n] w fun e w' => ∃ v, e = .returned v ∧ IsBig w.heap.size w' v n ∧ Below w.heap.size w w' := by
  obtain ⟨i0, hi, hz0, hz1, hz2⟩ := info_parts info_int
  obtain ⟨N, hN⟩ : ∃ N, N = n.natAbs := ⟨_, rfl⟩
  have hN' : Hid (N = n.natAbs) := hN
  have hNl : Hid (N < 18446744073709551616) := by show _ < _; omega
  clear hN
  by_cases hneg : n < 0
  · go_enter Try.func55, Try.ntmps55
    go_wp2
    go_loopw [4] (fun u wr => ∃ (ui : Int) (U : Nat) (O : List Nat) (v : Value), u = .int .u64 ui ∧ 0 ≤ ui ∧ ui < 18446744073709551616 ∧ Hid (ui = (U : Int)) ∧ Hid (Ofd w wr true N U O v)) (fun u _ => (intOf u).toNat)
    case atStart =>
      have hNe := hN'.out
      refine ⟨_, N, [], .slice none 0 0, rfl, by omega, by omega, by show _ = _; omega, ?_, ?_, World.ownsRow_nil _ _ _ _, Bg.dok_nil, by simp [Bg.val], fun _ => Bg.can_nil, ((Below.refl _ _).alloc (Nat.le_refl _) _).alloc (by simp) _, by simp⟩
      · rw [Below.heap_alloc _ _ _ (by simp)]; exact heap_alloc_new _ _
      · exact new_two w _ _
    case round =>
      obtain ⟨ui, U, O, v, rfl, u0, u1, hu, hH⟩ := hrel
      obtain ⟨vo, vc, rfl⟩ := own_shape hH.out.own
      obtain ⟨k1, k2, k3, k4⟩ := two_cells hH.out.var
      obtain ⟨r1, r2, r3, r4⟩ := two_cells hH.out.res
      by_cases hU : 0 < ui
      · obtain ⟨dg, hdg⟩ : ∃ dg : Int, dg = ui % 65536 := ⟨_, rfl⟩
        obtain ⟨uq, huq⟩ : ∃ uq : Int, uq = ui / 65536 := ⟨_, rfl⟩
        have ed : ui % 65536 = dg := hdg.symm
        have eq : ui / 65536 = uq := huq.symm
        have dg0 : 0 ≤ dg := by omega
        have dg1 : dg ≤ 65535 := by omega
        have hlen := four_digits O.length U N _ hH.out.eq (by have := hu.out; omega) hNl.out
        have hlen' : (O.length : Int) < 4 := by omega
        have hsz : w.heap.size + 2 ≤ wr.heap.size := hH.out.size
        have OWN : Hid (wr.ownsRow (w.heap.size + 2) 3 1 (.slice vo O.length vc) O.length (vals O)) := hH.out.own
        have DD : Hid (dg = ((U % 65536 : Nat) : Int) ∧ uq = ((U / 65536 : Nat) : Int) ∧ uq < ui) := by have := hu.out; exact ⟨by omega, by omega, by omega⟩
        clear hdg huq hlen
        go_wp2_with (at_builtin; refine wpList_append_own _ rfl _ _ 50 rfl (w.heap.size + 2) 3 i0 (.int .i64 0) 1 8 Try.underlying50 hi hz0 hz1 hz2 rfl (by decide) _ _ _ rfl (OWN.out.alloc _) ⟨wr.heap.size, 0, none⟩ 1 1 [.int .i64 dg] rfl rfl (cell_new wr dg) (one_new dg) (by unfold maxLen; omega) (by omega) (by simp; omega) ?_)
        intro v' w1 hown' hgrow _
        rw [DD.out.1] at hown' hgrow
        obtain ⟨so, sc, rfl⟩ := own_shape hown'
        obtain ⟨hv1, NX⟩ := of_next hH.out (by have := hu.out; omega) hown' hgrow
        obtain ⟨c1, c2, c3, c4⟩ := two_cells hv1
        have NX' : Hid _ := NX
        clear hown' hgrow NX hv1 k1 k2 k3 k4 r1 r2 r3 r4
        go_wp2
        go_roundw
        case rel => exact ⟨uq, U / 65536, O ++ [U % 65536], _, congrArg (Value.int .u64) eq, by omega, by omega, DD.out.2.1, NX'.out⟩
        case measure => have := DD.out.2.2; simp [intOf]; omega
      · go_wp2
        refine bodyPost_ret (v := .agg #[.slice vo O.length vc, .bool true]) (by simp [results, Try.results55, go_sem, r1, r2]) rfl ⟨_, rfl, ?_, ?_⟩
        · exact of_big hH.out (by have := hu.out; omega) (by have := hN'.out; simp [sgn]; omega)
        · exact (hH.out.below.setCell (Nat.le_refl _) _).setCell (Nat.le_refl _) _
  · have hneg' : decide (n < 0) = false := decide_eq_false hneg
    go_enter Try.func55, Try.ntmps55
    go_wp2
    go_loopw [4] (fun u wr => ∃ (ui : Int) (U : Nat) (O : List Nat) (v : Value), u = .int .u64 ui ∧ 0 ≤ ui ∧ ui < 18446744073709551616 ∧ Hid (ui = (U : Int)) ∧ Hid (Ofd w wr false N U O v)) (fun u _ => (intOf u).toNat)
    case atStart =>
      have hNe := hN'.out
      refine ⟨_, N, [], .slice none 0 0, rfl, by omega, by omega, by show _ = _; omega, ?_, ?_, World.ownsRow_nil _ _ _ _, Bg.dok_nil, by simp [Bg.val], fun _ => Bg.can_nil, ((Below.refl _ _).alloc (Nat.le_refl _) _).alloc (by simp) _, by simp⟩
      · rw [Below.heap_alloc _ _ _ (by simp)]; exact heap_alloc_new _ _
      · exact new_two w _ _
    case round =>
      obtain ⟨ui, U, O, v, rfl, u0, u1, hu, hH⟩ := hrel
      obtain ⟨vo, vc, rfl⟩ := own_shape hH.out.own
      obtain ⟨k1, k2, k3, k4⟩ := two_cells hH.out.var
      obtain ⟨r1, r2, r3, r4⟩ := two_cells hH.out.res
      by_cases hU : 0 < ui
      · obtain ⟨dg, hdg⟩ : ∃ dg : Int, dg = ui % 65536 := ⟨_, rfl⟩
        obtain ⟨uq, huq⟩ : ∃ uq : Int, uq = ui / 65536 := ⟨_, rfl⟩
        have ed : ui % 65536 = dg := hdg.symm
        have eq : ui / 65536 = uq := huq.symm
        have dg0 : 0 ≤ dg := by omega
        have dg1 : dg ≤ 65535 := by omega
        have hlen := four_digits O.length U N _ hH.out.eq (by have := hu.out; omega) hNl.out
        have hlen' : (O.length : Int) < 4 := by omega
        have hsz : w.heap.size + 2 ≤ wr.heap.size := hH.out.size
        have OWN : Hid (wr.ownsRow (w.heap.size + 2) 3 1 (.slice vo O.length vc) O.length (vals O)) := hH.out.own
        have DD : Hid (dg = ((U % 65536 : Nat) : Int) ∧ uq = ((U / 65536 : Nat) : Int) ∧ uq < ui) := by have := hu.out; exact ⟨by omega, by omega, by omega⟩
        clear hdg huq hlen
        go_wp2_with (at_builtin; refine wpList_append_own _ rfl _ _ 50 rfl (w.heap.size + 2) 3 i0 (.int .i64 0) 1 8 Try.underlying50 hi hz0 hz1 hz2 rfl (by decide) _ _ _ rfl (OWN.out.alloc _) ⟨wr.heap.size, 0, none⟩ 1 1 [.int .i64 dg] rfl rfl (cell_new wr dg) (one_new dg) (by unfold maxLen; omega) (by omega) (by simp; omega) ?_)
        intro v' w1 hown' hgrow _
        rw [DD.out.1] at hown' hgrow
        obtain ⟨so, sc, rfl⟩ := own_shape hown'
        obtain ⟨hv1, NX⟩ := of_next hH.out (by have := hu.out; omega) hown' hgrow
        obtain ⟨c1, c2, c3, c4⟩ := two_cells hv1
        have NX' : Hid _ := NX
        clear hown' hgrow NX hv1 k1 k2 k3 k4 r1 r2 r3 r4
        go_wp2
        go_roundw
        case rel => exact ⟨uq, U / 65536, O ++ [U % 65536], _, congrArg (Value.int .u64) eq, by omega, by omega, DD.out.2.1, NX'.out⟩
        case measure => have := DD.out.2.2; simp [intOf]; omega
      · go_wp2
        refine bodyPost_ret (v := .agg #[.slice vo O.length vc, .bool false]) (by simp [results, Try.results55, go_sem, r1, r2]) rfl ⟨_, rfl, ?_, ?_⟩
        · exact of_big hH.out (by have := hu.out; omega) (by have := hN'.out; simp [sgn]; omega)
        · exact (hH.out.below.setCell (Nat.le_refl _) _).setCell (Nat.le_refl _) _
end Go.Proofs.Ytdmaaigchfgmdaa
