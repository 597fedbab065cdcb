/- What RMS of the reference returns: the whole root of the mean of the squares of the first 64 numbers, saturated. -/
import Derived.Test.YtdlipponajilbaaRRoot
import Derived.WalkKit
import Derived.WalkSpells
import Derived.WalkLawsBesides
import Derived.Handy
import Derived.Deep.RegionHeld3
import Derived.Deep.RegionWith
namespace Go.Proofs.Ytdlipponajilbaa
open Go.RowKit
/-- ahead of each number: the sum so far lies in the block of its own -/
structure Mr (w wr : World) (S : Nat) (o : Option Addr) (ds : List Nat) (c : Nat) (m : Bool) : Prop where
  blk : wr.heap[w.heap.size]? = some (.cells #[.slice o ds.length c, .bool m] 69 (0, 0))
  rd : Rd wr o ds
  can : Bg.can ds
  cap : ds.length ≤ c
  eq : (S : Int) = sgn m (Bg.val ds)
  new : New (w.heap.size + 1) o c
  below : Below w.heap.size w wr
  size : w.heap.size + 1 ≤ wr.heap.size
theorem mr_start (w : World) : Mr w (w.alloc (.cells #[.slice none 0 0, .bool false] 69)) 0 none [] 0 false :=
  ⟨heap_alloc_new w _, fun k hk => absurd hk (by simp), Bg.can_nil, by simp, rfl, ⟨fun _ => rfl, fun ad h => by simp at h⟩, (Below.refl _ _).alloc (Nat.le_refl _) _, by simp⟩
theorem mr_next {w wr w5 w6 : World} {S S' : Nat} {o r : Option Addr} {ds gs : List Nat} {c c4 : Nat} {m m4 : Bool} (h : Mr w wr S o ds c m) (k5 : Below wr.heap.size wr w5) (k6 : Below w5.heap.size w5 w6) (t1 : gs.length ≤ c4) (t2 : Rd w6 r gs) (t3 : Bg.can gs) (t4 : (S' : Int) = sgn m4 (Bg.val gs)) (t5 : New w5.heap.size r c4) :
    Mr w ((w6.setCell ⟨w.heap.size, 0, none⟩ (.slice r gs.length c4)).setCell ⟨w.heap.size, 1, none⟩ (.bool m4)) S' r gs c4 m4 := by
  have hs := h.size
  have k7 : Below wr.heap.size wr w6 := Below.then k5 k6
  have hb : w6.heap[w.heap.size]? = some (.cells #[.slice o ds.length c, .bool m] 69 (0, 0)) := (k7.block _ (by omega)).trans h.blk
  have hne : ∀ ad, r = some ad → ad.block ≠ w.heap.size := fun ad e => by have := t5.2 ad e; have := k5.size; omega
  refine ⟨?_, (t2.store hne _).store hne _, t3, t1, t4, t5.mono (by have := k5.size; omega), ((h.below.trans (k7.mono h.below.size)).setCell (Nat.le_refl _) _).setCell (Nat.le_refl _) _, ?_⟩
  · have e1 := heap_setCell_same w6 w.heap.size 0 _ 69 (.slice r gs.length c4) hb
    have e2 := heap_setCell_same _ w.heap.size 1 _ 69 (.bool m4) e1
    simpa using e2
  · have := k7.size
    simp
    omega
theorem two_blk {w4 w5 : World} {b n : Nat} {x0 x1 y0 y1 : Value} {t : TypeId} (hb : b < w4.heap.size) (B4 : w4.heap[b]? = some (.cells #[x0, x1] t (0, 0))) (h : Below (w4.alloc (.cells #[y0, y1] t)).heap.size ((w4.alloc (.cells #[y0, y1] t)).drewN n) w5) :
    w5.cell? ⟨b, 0, none⟩ = some x0 ∧ w5.cell? ⟨b, 1, none⟩ = some x1 ∧ w5.cell? ⟨w4.heap.size, 0, none⟩ = some y0 ∧ w5.cell? ⟨w4.heap.size, 1, none⟩ = some y1 ∧ w5.frozen? ⟨b, 0, none⟩ = false ∧ w5.frozen? ⟨b, 1, none⟩ = false ∧ w4.heap.size < w5.heap.size := by
  have b0 : w5.heap[b]? = some (.cells #[x0, x1] t (0, 0)) := (h.block _ (by simp; omega)).trans ((Below.heap_alloc w4 _ _ hb).trans B4)
  have b1 : w5.heap[w4.heap.size]? = some (.cells #[y0, y1] t (0, 0)) := (h.block _ (by simp)).trans (heap_alloc_new w4 (.cells #[y0, y1] t))
  refine ⟨(two_cells b0).1, (two_cells b0).2.1, (two_cells b1).1, (two_cells b1).2.1, (two_cells b0).2.2.1, (two_cells b0).2.2.2, ?_⟩
  have h1 := h.size
  have h2 : ((w4.alloc (.cells #[y0, y1] t)).drewN n).heap.size = w4.heap.size + 1 := by simp [World.drewN]
  omega
theorem one_rd {w : World} {ao : Option Addr} {A : List Nat} (h : Rd w ao A) (x : Obj) (n : Nat) : Rd ((w.alloc x).drewN n) ao A := h.below (below_drewN ((Below.refl _ _).alloc (Nat.le_refl _) _) n) (Nat.le_refl _)
theorem sq_word (z : Int) : Sm 8 ((Sq.sq z : Nat) : Int) := by
  have h1 := Sq.sq_le z
  show (((Sq.sq z : Nat) : Int)).natAbs < 65536 ^ 8
  rw [Int.natAbs_natCast, show (65536 : Nat) ^ 8 = 340282366920938463463374607431768211456 from by decide]
  omega
theorem sum_word (zs : List Int) (k : Nat) (h : (k : Int) ≤ 64) : Sm 9 ((Sq.sum (zs.take k) : Nat) : Int) := by
  have h1 := Sq.sum_le (zs.take k)
  rw [List.length_take] at h1
  have h2 : Sq.sum (zs.take k) ≤ 64 * 21267647932558653966460912964485513216 := Nat.le_trans h1 (Nat.mul_le_mul_right _ (by omega))
  show (((Sq.sum (zs.take k) : Nat) : Int)).natAbs < 65536 ^ 9
  rw [Int.natAbs_natCast, show (65536 : Nat) ^ 9 = 22300745198530623141535718272648361505980416 from by decide]
  omega
theorem sq_sgn {m2 m3 : Bool} {E F : Nat} {z : Int} (h4 : Fx.cl 4611686018427387904 z = sgn m2 E) (h5 : sgn (!(m2 == m2)) (E * E) = sgn m3 F) : ((Sq.sq z : Nat) : Int) = sgn m3 F := by
  rw [← h5]
  have e := natAbs_sgn m2 E
  rw [← h4] at e
  unfold Sq.sq
  rw [e]
  simp [sgn]
theorem rms_none {zs : List Int} (h : (zs.take 64).length = 0) : Sq.rms zs = 0 := by
  unfold Sq.rms
  rw [List.length_eq_zero_iff.1 h]
  rfl
theorem mean_val {m m3 : Bool} {S D E F : Nat} (h1 : (S : Int) = sgn m D) (h2 : sgn m D / (E : Int) = sgn m3 F) : F = S / E := by
  rw [← h1] at h2
  have e := natAbs_sgn m3 F
  rw [← h2, ← Int.natCast_ediv, Int.natAbs_natCast] at e
  exact e.symm
theorem pos_val {m2 : Bool} {E : Nat} {z : Int} (h : z = sgn m2 E) (h0 : 0 ≤ z) : E = z.toNat := by
  have e := natAbs_sgn m2 E
  rw [← h] at e
  omega
theorem drew_below {w w' : World} (h : Below w.drew.heap.size w.drew w') : Below w.heap.size w w' := (below_drewN (Below.refl _ _) 1).trans h
theorem rms_mean {zs : List Int} {nn : Int} {k : Nat} (hn : ((zs.take 64).length : Int) = nn) (hk : (k : Int) = nn) : Sq.sum (zs.take k) / nn.toNat = Sq.sum (zs.take 64) / (zs.take 64).length := by
  have e : zs.take k = zs.take 64 := by
    rw [List.length_take] at hn
    by_cases h : 64 ≤ zs.length
    · rw [show k = 64 from by omega]
    · rw [List.take_of_length_le (by omega), List.take_of_length_le (by omega)]
  rw [e, show nn.toNat = (zs.take 64).length from by omega]
set_option maxHeartbeats 8000000 in
theorem rRMS_any (ao : Option Addr) (zs : List Int) (cap : Nat) (w : World) (hc : (zs.length : Int) ≤ 65536) (ra : Rs w ao zs) (da : okz zs) :
    Calls Try.prog 56 #[.slice ao zs.length cap] w fun e w' => e = .returned (.int .i64 ((Sq.rms zs : Nat) : Int)) ∧ Below w.heap.size w w' := by
  have ra' : Hid (Rs w ao zs) := ra
  have da' : Hid (okz zs) := da
  have hfd := field_run
  obtain ⟨R, hR⟩ : ∃ R : Int, R = ((Sq.rms zs : Nat) : Int) := ⟨_, rfl⟩
  rw [← hR]
  have HR : Hid (R = ((Sq.rms zs : Nat) : Int)) := hR
  clear ra da hR
  by_cases h1 : (64 : Int) < zs.length
  · have hnn0 : Hid (((zs.take 64).length : Int) = 64) := by show _ = _; rw [List.length_take]; omega
    go_enter Try.func56, Try.ntmps56
    go_wp2
    generalize hnn : (64 : Int) = nn at h1 hnn0 ⊢
    clear hnn
    have HN : Hid (nn ≤ 64) := by have := hnn0.out; rw [List.length_take] at this; show _ ≤ _; omega
    have hnz : nn ≤ zs.length := by omega
    have hnp : 0 ≤ nn := by have := hnn0.out; omega
    go_loopw [5, 6] (fun i x wr => ∃ (k : Nat) (o : Option Addr) (ds : List Nat) (c : Nat) (m : Bool), i = .int .i64 (k : Int) ∧ (k : Int) ≤ nn ∧ Hid (Mr w wr (Sq.sum (zs.take k)) o ds c m)) (fun i _ _ => nn.toNat - (intOf i).toNat)
    case atStart => exact ⟨0, none, [], 0, false, rfl, by omega, mr_start w⟩
    case round =>
      obtain ⟨k, o, ds, c, m, rfl, hk, hH⟩ := hrel
      by_cases hlt : (k : Int) < nn
      · obtain ⟨ad, x, g1, g2, hx, x0, x1⟩ := (ra'.out.below hH.out.below (Nat.le_refl _)).at da'.out k (by omega)
        have hix : ∀ w, Sem.run Try.prog (Instr.indexAt 64 (.slice ao zs.length cap) (.int .i64 (k : Int))) w = .ok (.pointer (some (ad.add k))) w := idx_run2 zs.length cap k k g1.out rfl (by omega)
        go_wp2_with fail
        refine (s_any x _ x0 x1).mono ?_
        rintro e w1 ⟨v1, rfl, i1, k1⟩
        have I1 : Hid (IsBig wr.heap.size w1 v1 x ∧ Below wr.heap.size wr w1) := ⟨i1, k1⟩
        clear i1 k1 g2 hix
        go_wp2_with fail
        refine (span_big I1.out.1 (Sm.word x0 x1) (by decide)).mono ?_
        rintro e w2 ⟨rfl, k2⟩
        obtain ⟨y, hy⟩ : ∃ y, y = Fx.cl 4611686018427387904 x := ⟨_, rfl⟩
        rw [← hy]
        have hyb := Fx.cl_bd (m := 4611686018427387904) (by decide) x
        rw [← hy] at hyb
        have y0 : -9223372036854775808 ≤ y := by omega
        have y1 : y ≤ 9223372036854775807 := by omega
        have I2 : Hid (y = Fx.cl 4611686018427387904 (zs.getD k 0) ∧ Below wr.heap.size wr w2) := ⟨by rw [← hx.out]; exact hy, Below.then I1.out.2 k2⟩
        clear k2 hy hyb I1
        go_wp2_with fail
        refine (s_any y _ y0 y1).mono ?_
        rintro e w4 ⟨v4, rfl, ⟨p, es, c2, m2, rfl, t1, t2, t3, t4, t5⟩, k4⟩
        have K4 : Below wr.heap.size wr w4 := Below.then I2.out.2 k4
        have hl2 : (es.length : Int) ≤ 1000 := by have := sm_len t3 t4 (Sm.word y0 y1); omega
        have hl1 : (ds.length : Int) ≤ 1000 := by have := sm_len hH.out.can hH.out.eq (sum_word zs k (by have := HN.out; omega)); omega
        have B4 : w4.heap[w.heap.size]? = some (.cells #[.slice o ds.length c, .bool m] 69 (0, 0)) := (K4.block _ (by have := hH.out.size; omega)).trans hH.out.blk
        have hsz : w.heap.size < w4.heap.size := by have := hH.out.size; have := K4.size; omega
        have F4 : Hid (Rd w4 p es ∧ Bg.can es ∧ y = sgn m2 (Bg.val es) ∧ Below wr.heap.size wr w4 ∧ Rd w4 o ds ∧ w4.heap[w.heap.size]? = some (.cells #[.slice o ds.length c, .bool m] 69 (0, 0))) := ⟨t2, t3, t4, K4, hH.out.rd.below K4 (Nat.le_refl _), B4⟩
        obtain ⟨b0, b1, b2, b3⟩ := two_cells B4
        clear t1 t2 t3 t4 t5 k4 K4 B4
        go_wp2
        go_region_with (first | (go_at_call 53; refine (product_any p p es es c2 c2 m2 m2 _ (by omega) (by omega) (one_rd F4.out.1 _ 1) (one_rd F4.out.1 _ 1) F4.out.2.1 F4.out.2.1).mono ?_; rintro e w5 ⟨v, rfl, ⟨q, fs, c3, m3, rfl, t1, t2, t3, t4, t5⟩, t6⟩; obtain ⟨e0, e1, e2, e3, e4, e5, e6⟩ := two_blk (n := 1) hsz F4.out.2.2.2.2.2 t6; have F5 : Hid (Rd w5 q fs ∧ Bg.can fs ∧ ((Sq.sq (zs.getD k 0) : Nat) : Int) = sgn m3 (Bg.val fs) ∧ Below wr.heap.size wr w5 ∧ Rd w5 o ds) := ⟨t2, t3, sq_sgn (I2.out.1.symm.trans F4.out.2.2.1) t4, Below.then F4.out.2.2.2.1 (one_below (n := 1) t6), F4.out.2.2.2.2.1.below (one_below (n := 1) t6) (Nat.le_refl _)⟩; have hl3 : (fs.length : Int) ≤ 1000 := (by have := sm_len t3 F5.out.2.2.1 (sq_word _); omega); clear t1 t2 t3 t4 t5 t6) | (go_at_call 50; refine (sum_any o q ds fs c c3 m m3 w5 (by omega) (by omega) F5.out.2.2.2.2 F5.out.1 hH.out.can F5.out.2.1).mono ?_; rintro e w6 ⟨v, rfl, ⟨r, gs, c4, m4, rfl, t1, t2, t3, t4, t5⟩, t6⟩; have f0 := cells_kept t6 (by omega) e0; have f1 := cells_kept t6 (by omega) e1; have f4 := free_kept t6 (by omega) e4; have f5 := free_kept t6 (by omega) e5; have NX := mr_next (S' := Sq.sum (zs.take (k + 1))) hH.out F5.out.2.2.2.1 t6 t1 t2 t3 (by rw [Sq.take_succ zs k (by omega), Int.natCast_add, F5.out.2.2.1, hH.out.eq]; exact t4) t5; have NX' : Hid (Mr w ((w6.setCell ⟨w.heap.size, 0, none⟩ (.slice r gs.length c4)).setCell ⟨w.heap.size, 1, none⟩ (.bool m4)) (Sq.sum (zs.take (k + 1))) r gs c4 m4) := NX; clear t1 t2 t3 t4 t5 t6 NX))
        all_goals (go_wp2; go_roundw)
        all_goals first | exact ⟨k + 1, r, gs, c4, m4, by go_num, by omega, NX'.out⟩ | (simp [intOf]; omega)
      · have hkn : (k : Int) = nn := by omega
        by_cases hz : nn = 0
        · have HZ : Hid (R = 0) := by show _ = _; rw [HR.out, rms_none (by have := hnn0.out; omega)]; rfl
          subst hz
          go_wp2
          go_ret
          exact ⟨ret_i64 HZ.out.symm, hH.out.below⟩
        · have hz0 : 0 < nn := by omega
          have hnb : nn ≤ 64 := HN.out
          have HS : Hid (R = ((Sq.srt (Sq.sum (zs.take k) / nn.toNat) : Nat) : Int) ∧ Sq.sum (zs.take k) / nn.toNat ≤ 21267647932558653966460912964485513216) := by
            rw [rms_mean hnn0.out hkn]
            exact ⟨HR.out, Sq.mean_le _⟩
          have hl1 : (ds.length : Int) ≤ 1000 := by have := sm_len hH.out.can hH.out.eq (sum_word zs k (by omega)); omega
          obtain ⟨b0, b1, b2, b3⟩ := two_cells hH.out.blk
          have hsz : w.heap.size < wr.heap.size := hH.out.size
          clear hkn hz
          go_wp2
          go_region_held3 (fun w' => w'.cell? ⟨w.heap.size, 0, none⟩ = some (.slice o ds.length c) ∧ w'.cell? ⟨w.heap.size, 1, none⟩ = some (.bool m)) (first | exact ⟨z0, z1⟩ | exact ⟨g0, g1⟩ | exact ⟨f0, f1⟩ | exact ⟨e0, e1⟩ | go_keep) (first | (go_at_call 54; refine (of_any nn _ (by omega) (by omega)).mono ?_; rintro e w1 ⟨v, rfl, ⟨p, es, c2, m2, rfl, t1, t2, t3, t4, t5⟩, t6⟩; have B1 := drew_below t6; have e0 := cells_kept B1 hsz b0; have e1 := cells_kept B1 hsz b1; have F1 : Hid (Rd w1 p es ∧ Bg.can es ∧ Bg.val es = nn.toNat ∧ Rd w1 o ds ∧ Below wr.heap.size wr w1 ∧ 0 < Bg.val es) := ⟨t2, t3, pos_val t4 (by omega), hH.out.rd.below B1 (Nat.le_refl _), B1, by rw [pos_val t4 (by omega)]; omega⟩; have hl2 : (es.length : Int) ≤ 1000 := (by have := sm_len t3 t4 (Sm.word (by omega) (by omega)); omega); have s1 := Nat.lt_of_lt_of_le hsz B1.size; clear t1 t2 t3 t4 t5 t6 B1) | (go_at_call 52; refine (down_any o p ds es c c2 m m2 w1 hl1 hl2 F1.out.2.2.2.1 F1.out.1 hH.out.can F1.out.2.1 F1.out.2.2.2.2.2).mono ?_; rintro e w2 ⟨v, rfl, ⟨q, fs, c3, m3, rfl, t1, t2, t3, t4, t5⟩, t6⟩; have f0 := cells_kept t6 s1 e0; have f1 := cells_kept t6 s1 e1; have hv := mean_val hH.out.eq t4; have F2 : Hid (Rd w2 q fs ∧ Bg.can fs ∧ Bg.val fs = Sq.sum (zs.take k) / nn.toNat ∧ Below wr.heap.size wr w2) := ⟨t2, t3, by rw [hv, F1.out.2.2.1], Below.then F1.out.2.2.2.2.1 t6⟩; have hl3 : (fs.length : Int) ≤ 300 := (by have := Bg.can_len t3 9 (by rw [F2.out.2.2.1]; have h8 := HS.out.2; rw [show (65536 : Nat) ^ 9 = 22300745198530623141535718272648361505980416 from by decide]; exact Nat.lt_of_le_of_lt h8 (by decide)); omega); have s2 := Nat.lt_of_lt_of_le s1 t6.size; clear t1 t2 t3 t4 t5 t6 hv) | (go_at_call 77; refine (rroot_any q fs c3 w2 hl3 F2.out.1 F2.out.2.1).mono ?_; rintro e w3 ⟨v3, F, rfl, i3, r1, r2, t6⟩; have g0 := cells_kept t6 s2 f0; have g1 := cells_kept t6 s2 f1; have hF : (F : Int) = R := (by rw [F2.out.2.2.1] at r1 r2; rw [HS.out.1, Sq.srt_eq r1 r2]); have hFl : F ≤ 4611686018427387904 := (by rw [F2.out.2.2.1] at r1 r2; rw [Sq.srt_eq r1 r2]; exact Sq.srt_le HS.out.2); have F3 : Hid (IsBig w2.heap.size w3 v3 (F : Int) ∧ F ≤ 4611686018427387904 ∧ (F : Int) = R ∧ Below wr.heap.size wr w3) := ⟨i3, hFl, hF, Below.then F2.out.2.2.2 t6⟩; have s3 := Nat.lt_of_lt_of_le s2 t6.size; clear i3 r1 r2 t6 hF hFl) | (go_at_call 49; refine (span_big F3.out.1 (Sm.small F3.out.2.1) (by decide)).mono ?_; rintro e w4 ⟨rfl, t6⟩; rw [cl_nat _ F3.out.2.1, F3.out.2.2.1]; have z0 := cells_kept t6 s3 g0; have z1 := cells_kept t6 s3 g1; have F4 : Hid (Below w.heap.size w w4) := hH.out.below.trans ((Below.then F3.out.2.2.2 t6).mono hH.out.below.size); clear t6))
          go_wp2
          go_ret
          exact ⟨rfl, F4.out⟩
  · have hnn0 : Hid (((zs.take 64).length : Int) = zs.length) := by show _ = _; rw [List.length_take]; omega
    go_enter Try.func56, Try.ntmps56
    go_wp2
    generalize hnn : ((zs.length : Nat) : Int) = nn at h1 hc hnn0 ⊢
    have HN : Hid (nn ≤ 64) := h1
    have hnz : nn ≤ zs.length := by omega
    clear hnn
    have hnp : 0 ≤ nn := by have := hnn0.out; omega
    go_loopw [5, 6] (fun i x wr => ∃ (k : Nat) (o : Option Addr) (ds : List Nat) (c : Nat) (m : Bool), i = .int .i64 (k : Int) ∧ (k : Int) ≤ nn ∧ Hid (Mr w wr (Sq.sum (zs.take k)) o ds c m)) (fun i _ _ => nn.toNat - (intOf i).toNat)
    case atStart => exact ⟨0, none, [], 0, false, rfl, by omega, mr_start w⟩
    case round =>
      obtain ⟨k, o, ds, c, m, rfl, hk, hH⟩ := hrel
      by_cases hlt : (k : Int) < nn
      · obtain ⟨ad, x, g1, g2, hx, x0, x1⟩ := (ra'.out.below hH.out.below (Nat.le_refl _)).at da'.out k (by omega)
        have hix : ∀ w, Sem.run Try.prog (Instr.indexAt 64 (.slice ao zs.length cap) (.int .i64 (k : Int))) w = .ok (.pointer (some (ad.add k))) w := idx_run2 zs.length cap k k g1.out rfl (by omega)
        go_wp2_with fail
        refine (s_any x _ x0 x1).mono ?_
        rintro e w1 ⟨v1, rfl, i1, k1⟩
        have I1 : Hid (IsBig wr.heap.size w1 v1 x ∧ Below wr.heap.size wr w1) := ⟨i1, k1⟩
        clear i1 k1 g2 hix
        go_wp2_with fail
        refine (span_big I1.out.1 (Sm.word x0 x1) (by decide)).mono ?_
        rintro e w2 ⟨rfl, k2⟩
        obtain ⟨y, hy⟩ : ∃ y, y = Fx.cl 4611686018427387904 x := ⟨_, rfl⟩
        rw [← hy]
        have hyb := Fx.cl_bd (m := 4611686018427387904) (by decide) x
        rw [← hy] at hyb
        have y0 : -9223372036854775808 ≤ y := by omega
        have y1 : y ≤ 9223372036854775807 := by omega
        have I2 : Hid (y = Fx.cl 4611686018427387904 (zs.getD k 0) ∧ Below wr.heap.size wr w2) := ⟨by rw [← hx.out]; exact hy, Below.then I1.out.2 k2⟩
        clear k2 hy hyb I1
        go_wp2_with fail
        refine (s_any y _ y0 y1).mono ?_
        rintro e w4 ⟨v4, rfl, ⟨p, es, c2, m2, rfl, t1, t2, t3, t4, t5⟩, k4⟩
        have K4 : Below wr.heap.size wr w4 := Below.then I2.out.2 k4
        have hl2 : (es.length : Int) ≤ 1000 := by have := sm_len t3 t4 (Sm.word y0 y1); omega
        have hl1 : (ds.length : Int) ≤ 1000 := by have := sm_len hH.out.can hH.out.eq (sum_word zs k (by have := HN.out; omega)); omega
        have B4 : w4.heap[w.heap.size]? = some (.cells #[.slice o ds.length c, .bool m] 69 (0, 0)) := (K4.block _ (by have := hH.out.size; omega)).trans hH.out.blk
        have hsz : w.heap.size < w4.heap.size := by have := hH.out.size; have := K4.size; omega
        have F4 : Hid (Rd w4 p es ∧ Bg.can es ∧ y = sgn m2 (Bg.val es) ∧ Below wr.heap.size wr w4 ∧ Rd w4 o ds ∧ w4.heap[w.heap.size]? = some (.cells #[.slice o ds.length c, .bool m] 69 (0, 0))) := ⟨t2, t3, t4, K4, hH.out.rd.below K4 (Nat.le_refl _), B4⟩
        obtain ⟨b0, b1, b2, b3⟩ := two_cells B4
        clear t1 t2 t3 t4 t5 k4 K4 B4
        go_wp2
        go_region_with (first | (go_at_call 53; refine (product_any p p es es c2 c2 m2 m2 _ (by omega) (by omega) (one_rd F4.out.1 _ 1) (one_rd F4.out.1 _ 1) F4.out.2.1 F4.out.2.1).mono ?_; rintro e w5 ⟨v, rfl, ⟨q, fs, c3, m3, rfl, t1, t2, t3, t4, t5⟩, t6⟩; obtain ⟨e0, e1, e2, e3, e4, e5, e6⟩ := two_blk (n := 1) hsz F4.out.2.2.2.2.2 t6; have F5 : Hid (Rd w5 q fs ∧ Bg.can fs ∧ ((Sq.sq (zs.getD k 0) : Nat) : Int) = sgn m3 (Bg.val fs) ∧ Below wr.heap.size wr w5 ∧ Rd w5 o ds) := ⟨t2, t3, sq_sgn (I2.out.1.symm.trans F4.out.2.2.1) t4, Below.then F4.out.2.2.2.1 (one_below (n := 1) t6), F4.out.2.2.2.2.1.below (one_below (n := 1) t6) (Nat.le_refl _)⟩; have hl3 : (fs.length : Int) ≤ 1000 := (by have := sm_len t3 F5.out.2.2.1 (sq_word _); omega); clear t1 t2 t3 t4 t5 t6) | (go_at_call 50; refine (sum_any o q ds fs c c3 m m3 w5 (by omega) (by omega) F5.out.2.2.2.2 F5.out.1 hH.out.can F5.out.2.1).mono ?_; rintro e w6 ⟨v, rfl, ⟨r, gs, c4, m4, rfl, t1, t2, t3, t4, t5⟩, t6⟩; have f0 := cells_kept t6 (by omega) e0; have f1 := cells_kept t6 (by omega) e1; have f4 := free_kept t6 (by omega) e4; have f5 := free_kept t6 (by omega) e5; have NX := mr_next (S' := Sq.sum (zs.take (k + 1))) hH.out F5.out.2.2.2.1 t6 t1 t2 t3 (by rw [Sq.take_succ zs k (by omega), Int.natCast_add, F5.out.2.2.1, hH.out.eq]; exact t4) t5; have NX' : Hid (Mr w ((w6.setCell ⟨w.heap.size, 0, none⟩ (.slice r gs.length c4)).setCell ⟨w.heap.size, 1, none⟩ (.bool m4)) (Sq.sum (zs.take (k + 1))) r gs c4 m4) := NX; clear t1 t2 t3 t4 t5 t6 NX))
        all_goals (go_wp2; go_roundw)
        all_goals first | exact ⟨k + 1, r, gs, c4, m4, by go_num, by omega, NX'.out⟩ | (simp [intOf]; omega)
      · have hkn : (k : Int) = nn := by omega
        by_cases hz : nn = 0
        · have HZ : Hid (R = 0) := by show _ = _; rw [HR.out, rms_none (by have := hnn0.out; omega)]; rfl
          subst hz
          go_wp2
          go_ret
          exact ⟨ret_i64 HZ.out.symm, hH.out.below⟩
        · have hz0 : 0 < nn := by omega
          have hnb : nn ≤ 64 := HN.out
          have HS : Hid (R = ((Sq.srt (Sq.sum (zs.take k) / nn.toNat) : Nat) : Int) ∧ Sq.sum (zs.take k) / nn.toNat ≤ 21267647932558653966460912964485513216) := by
            rw [rms_mean hnn0.out hkn]
            exact ⟨HR.out, Sq.mean_le _⟩
          have hl1 : (ds.length : Int) ≤ 1000 := by have := sm_len hH.out.can hH.out.eq (sum_word zs k (by omega)); omega
          obtain ⟨b0, b1, b2, b3⟩ := two_cells hH.out.blk
          have hsz : w.heap.size < wr.heap.size := hH.out.size
          clear hkn hz
          go_wp2
          go_region_held3 (fun w' => w'.cell? ⟨w.heap.size, 0, none⟩ = some (.slice o ds.length c) ∧ w'.cell? ⟨w.heap.size, 1, none⟩ = some (.bool m)) (first | exact ⟨z0, z1⟩ | exact ⟨g0, g1⟩ | exact ⟨f0, f1⟩ | exact ⟨e0, e1⟩ | go_keep) (first | (go_at_call 54; refine (of_any nn _ (by omega) (by omega)).mono ?_; rintro e w1 ⟨v, rfl, ⟨p, es, c2, m2, rfl, t1, t2, t3, t4, t5⟩, t6⟩; have B1 := drew_below t6; have e0 := cells_kept B1 hsz b0; have e1 := cells_kept B1 hsz b1; have F1 : Hid (Rd w1 p es ∧ Bg.can es ∧ Bg.val es = nn.toNat ∧ Rd w1 o ds ∧ Below wr.heap.size wr w1 ∧ 0 < Bg.val es) := ⟨t2, t3, pos_val t4 (by omega), hH.out.rd.below B1 (Nat.le_refl _), B1, by rw [pos_val t4 (by omega)]; omega⟩; have hl2 : (es.length : Int) ≤ 1000 := (by have := sm_len t3 t4 (Sm.word (by omega) (by omega)); omega); have s1 := Nat.lt_of_lt_of_le hsz B1.size; clear t1 t2 t3 t4 t5 t6 B1) | (go_at_call 52; refine (down_any o p ds es c c2 m m2 w1 hl1 hl2 F1.out.2.2.2.1 F1.out.1 hH.out.can F1.out.2.1 F1.out.2.2.2.2.2).mono ?_; rintro e w2 ⟨v, rfl, ⟨q, fs, c3, m3, rfl, t1, t2, t3, t4, t5⟩, t6⟩; have f0 := cells_kept t6 s1 e0; have f1 := cells_kept t6 s1 e1; have hv := mean_val hH.out.eq t4; have F2 : Hid (Rd w2 q fs ∧ Bg.can fs ∧ Bg.val fs = Sq.sum (zs.take k) / nn.toNat ∧ Below wr.heap.size wr w2) := ⟨t2, t3, by rw [hv, F1.out.2.2.1], Below.then F1.out.2.2.2.2.1 t6⟩; have hl3 : (fs.length : Int) ≤ 300 := (by have := Bg.can_len t3 9 (by rw [F2.out.2.2.1]; have h8 := HS.out.2; rw [show (65536 : Nat) ^ 9 = 22300745198530623141535718272648361505980416 from by decide]; exact Nat.lt_of_le_of_lt h8 (by decide)); omega); have s2 := Nat.lt_of_lt_of_le s1 t6.size; clear t1 t2 t3 t4 t5 t6 hv) | (go_at_call 77; refine (rroot_any q fs c3 w2 hl3 F2.out.1 F2.out.2.1).mono ?_; rintro e w3 ⟨v3, F, rfl, i3, r1, r2, t6⟩; have g0 := cells_kept t6 s2 f0; have g1 := cells_kept t6 s2 f1; have hF : (F : Int) = R := (by rw [F2.out.2.2.1] at r1 r2; rw [HS.out.1, Sq.srt_eq r1 r2]); have hFl : F ≤ 4611686018427387904 := (by rw [F2.out.2.2.1] at r1 r2; rw [Sq.srt_eq r1 r2]; exact Sq.srt_le HS.out.2); have F3 : Hid (IsBig w2.heap.size w3 v3 (F : Int) ∧ F ≤ 4611686018427387904 ∧ (F : Int) = R ∧ Below wr.heap.size wr w3) := ⟨i3, hFl, hF, Below.then F2.out.2.2.2 t6⟩; have s3 := Nat.lt_of_lt_of_le s2 t6.size; clear i3 r1 r2 t6 hF hFl) | (go_at_call 49; refine (span_big F3.out.1 (Sm.small F3.out.2.1) (by decide)).mono ?_; rintro e w4 ⟨rfl, t6⟩; rw [cl_nat _ F3.out.2.1, F3.out.2.2.1]; have z0 := cells_kept t6 s3 g0; have z1 := cells_kept t6 s3 g1; have F4 : Hid (Below w.heap.size w w4) := hH.out.below.trans ((Below.then F3.out.2.2.2 t6).mono hH.out.below.size); clear t6))
          go_wp2
          go_ret
          exact ⟨rfl, F4.out⟩
end Go.Proofs.Ytdlipponajilbaa
