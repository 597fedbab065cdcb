/- FilterGrows, walked. -/
import Derived.Test.YtmjkdfjfjidekaaFK
namespace Go.Proofs.Ytmjkdfjfjidekaa
open Go Go.RowKit Fi
theorem dr_mono {a b : Int} (h : a ≤ b) : dr a ≤ dr b := by
  unfold dr
  refine Fx.cl_mono ?_
  have h1 : 4222124650 * a ≤ 4222124650 * b := by omega
  exact Int.ediv_le_ediv (by decide) h1
theorem gr_mono {s : Smp} {n1 n2 : Int} (h : sn n1 s.a ≤ sn n2 s.a) : gr s n1 ≤ gr s n2 := by
  have h1 : max (sn n1 s.a) 0 ≤ max (sn n2 s.a) 0 := by omega
  have h2 := dr_mono h1
  have h3 : Fx.cl 4611686018427387904 (s.p + dr (max (sn n1 s.a) 0)) ≤ Fx.cl 4611686018427387904 (s.p + dr (max (sn n2 s.a) 0)) := Fx.cl_mono (by omega)
  unfold gr
  omega
theorem ds_mono {l : List Smp} {n1 n2 : Int} (h : ∀ s ∈ l, sn n1 s.a ≤ sn n2 s.a) : ∀ k, ds l n1 k ≤ ds l n2 k
  | 0 => Int.le_refl _
  | k + 1 => by
    have ih := ds_mono h k
    have hp : pt l n1 k ≤ pt l n2 k := by
      unfold pt
      cases hq : l[k]? with
      | none => exact Int.le_refl _
      | some s => exact gr_mono (h s (List.mem_of_getElem? hq))
    have h2 : pt l n1 k / 2 ^ (k + 1) ≤ pt l n2 k / 2 ^ (k + 1) := Int.ediv_le_ediv (Int.pow_pos (by decide)) hp
    rw [ds, ds]
    omega
/-- a time that lies a little behind now; so much later it lies further behind -/
def Nr (now a : Int) : Prop := ∃ r : Int, 0 ≤ r ∧ r ≤ 6 ∧ a = (now - r) % 18446744073709551616
theorem Nr.mono {now a d n2 : Int} (h : Nr now a) (_h0 : 0 ≤ now) (_h1 : now < 18446744073709551616) (d0 : 0 ≤ d) (d1 : d < 4503599627370496) (e : n2 = (now + d) % 18446744073709551616) : sn now a ≤ sn n2 a := by
  obtain ⟨r, r0, r6, rfl⟩ := h
  subst e
  unfold sn
  refine Fx.cl_mono ?_
  omega
theorem sn_self (a : Int) : sn a a = 0 := by unfold sn; rw [Int.sub_self]; decide
set_option maxRecDepth 20000 in
set_option maxHeartbeats 2000000 in
theorem FilterGrows_row (v : Value) (now later : Int) (xs : List Smp) (w : World) (hv : Sr w.heap.size w v xs) (n0 : 0 ≤ now) (n1 : now < 18446744073709551616) (l0 : 0 ≤ later) (l1 : later < 4294967296) :
    Calls Try.prog 6 #[v, .int .u64 now, .int .u32 later] w fun e w' => e = .returned (.bool true) ∧ Below w.heap.size w w' := by
  obtain ⟨ao, cap, rfl, -⟩ := hv.ex
  obtain ⟨n, hn⟩ : ∃ n, n = xs.length := ⟨_, rfl⟩
  rw [← hn] at hv ⊢
  have HV : Hid (Sr w.heap.size w (.slice ao n cap) xs ∧ n = xs.length) := ⟨hv, hn⟩
  clear hv hn
  by_cases h1 : 65536 < (n : Int)
  · go_enter Try.func6, Try.ntmps6
    go_wp2
    go_ret
    exact ⟨rfl, (by repeat' (first | with_reducible exact Below.refl _ _ | with_reducible refine Below.setCell ?_ (by first | (simp; done) | (simp; omega) | omega) _ | with_reducible refine below_drewN ?_ _ | with_reducible refine Below.drew ?_ | with_reducible refine Below.alloc ?_ (by first | (simp; done) | (simp; omega) | omega) _))⟩
  by_cases h2 : (n : Int) = 0
  · go_enter Try.func6, Try.ntmps6
    go_wp2
    go_ret
    exact ⟨rfl, (by repeat' (first | with_reducible exact Below.refl _ _ | with_reducible refine Below.setCell ?_ (by first | (simp; done) | (simp; omega) | omega) _ | with_reducible refine below_drewN ?_ _ | with_reducible refine Below.drew ?_ | with_reducible refine Below.alloc ?_ (by first | (simp; done) | (simp; omega) | omega) _))⟩
  have h2' : ((n : Int) == 0) = false := by simpa using h2
  have h3 : 1 ≤ (n : Int) := by omega
  obtain ⟨s0, hs0⟩ : ∃ s0, s0 = n - 20 := ⟨_, rfl⟩
  have m3 : ∀ u, (Builtin.max_ #[3, 3] 3 #[.int .i64 0, .int .i64 ((n : Int) - 20)]).run Try.prog u = .ok (.int .i64 (s0 : Int)) u := fun u => by
    have : (Builtin.max_ #[3, 3] 3 #[.int .i64 0, .int .i64 ((n : Int) - 20)]).run Try.prog u = .ok (.int .i64 (if (0 : Int) < (n : Int) - 20 then (n : Int) - 20 else 0)) u := by simp [go_sem]
    rw [this, hs0]; congr 2; split <;> omega
  have hs1 : (s0 : Int) < n := by omega
  clear hs0
  go_enter Try.func6, Try.ntmps6
  refine post_hid fun Q hQ => ?_
  go_wp2_with fail
  refine (new_any w).mono ?_
  rintro e w1 ⟨rfl, hl1, hb1, hz1⟩
  obtain ⟨p, hp⟩ : ∃ p, p = w.heap.size := ⟨_, rfl⟩
  rw [← hp] at hl1 ⊢
  have HP : Hid (p = w.heap.size) := hp
  have H1 : Hid (Fl w1 p [] false 0 ∧ Below w.heap.size w w1) := ⟨hl1, hb1⟩
  clear hl1 hb1 hz1 hp
  go_wp2_with fail
  go_loopw [8] (fun i wr => ∃ (k : Nat) (L : List Smp), i = .int .i64 k ∧ (s0 : Int) ≤ k ∧ (k : Int) ≤ n ∧ Hid (Fl wr p L false 0 ∧ (∀ s ∈ L, okS s ∧ Nr now s.a) ∧ (s0 < k → 0 < L.length) ∧ Below w.heap.size w wr)) (fun i _ => n - (intOf i).toNat)
  case atStart => exact ⟨s0, [], rfl, by omega, by omega, ⟨H1.out.1, fun s hs => (by cases hs), fun h => by omega, H1.out.2⟩⟩
  case round =>
    clear H1
    obtain ⟨k, L, rfl, hk0, hk, HK⟩ := hrel
    by_cases hlt : (k : Int) < n
    · have hkx : k < xs.length := by have := HV.out.2; omega
      obtain ⟨ad, hix, hab, hac⟩ := (HV.out.1.below HK.out.2.2.2 (Nat.le_refl _)).at k hkx
      have oky : okS (xs.getD k z0) := HV.out.1.ok _ (by rw [getD_lt xs k hkx]; exact List.getElem_mem hkx)
      obtain ⟨y, hy⟩ : ∃ y, y = xs.getD k z0 := ⟨_, rfl⟩
      rw [← hy] at hac oky
      obtain ⟨yo, yd, yp, ya⟩ := y
      have HC : Hid (∀ j u, (smL ⟨yo, yd, yp, ya⟩)[j]? = some u → wr.cell? (ad.add j) = some u) := hac
      have HO : Hid (okS ⟨yo, yd, yp, ya⟩) := oky
      obtain ⟨xb, hxb⟩ : ∃ xb, wr.heap.size = xb := ⟨_, rfl⟩
      have HT : Hid ((wr.alloc (.cells #[.int .i64 0, .int .i64 0, .int .i64 0, .int .u64 0] 27)).heap[xb]? = some (.cells #[.int .i64 0, .int .i64 0, .int .i64 0, .int .u64 0] 27 (0, 0))) := by
        have h0 := alloc_at wr (.cells #[.int .i64 0, .int .i64 0, .int .i64 0, .int .u64 0] 27)
        rw [hxb] at h0
        exact h0
      obtain ⟨b, hb⟩ : ∃ b, b = IntKind.u64.wrap (now - (k : Int) % 7) := ⟨_, rfl⟩
      have hb' : IntKind.u64.wrap (now - (k : Int) % 7) = b := hb.symm
      have HBb : Hid ((0 ≤ b ∧ b < 18446744073709551616) ∧ Nr now b) := by
        refine ⟨by rw [hb, IntKind.wrap_u64]; omega, (k : Int) % 7, by omega, by omega, ?_⟩
        rw [hb, IntKind.wrap_u64]
      have hT : Bk xb ((wr.alloc (.cells #[.int .i64 0, .int .i64 0, .int .i64 0, .int .u64 0] 27)).setRow xb (smL ⟨yo, yd, yp, ya⟩).toArray) (smL ⟨yo, yd, yp, ya⟩).toArray 27 := setRow_heap _ _ _ _ _ _ HT.out
      have t3 : ((wr.alloc (.cells #[.int .i64 0, .int .i64 0, .int .i64 0, .int .u64 0] 27)).setRow xb (smL ⟨yo, yd, yp, ya⟩).toArray).cell? ⟨xb, 3, none⟩ = some (.int .u64 ya) := hT.cell 3
      have tf := hT.frozen
      have hU : Bk xb (((wr.alloc (.cells #[.int .i64 0, .int .i64 0, .int .i64 0, .int .u64 0] 27)).setRow xb (smL ⟨yo, yd, yp, ya⟩).toArray).setCell ⟨xb, 3, none⟩ (.int .u64 b)) (smL ⟨yo, yd, yp, b⟩).toArray 27 := hT.set (j := 3) (.int .u64 b)
      have hxw : w.heap.size ≤ xb := by rw [← hxb]; exact HK.out.2.2.2.size
      have hxp : p < xb := by rw [← hxb]; exact HK.out.1.lt
      have hBT : Below w.heap.size w ((wr.alloc (.cells #[.int .i64 0, .int .i64 0, .int .i64 0, .int .u64 0] 27)).setRow xb (smL ⟨yo, yd, yp, ya⟩).toArray) := below_row (HK.out.2.2.2.alloc HK.out.2.2.2.size _) hxw _
      have hBU : Below w.heap.size w (((wr.alloc (.cells #[.int .i64 0, .int .i64 0, .int .i64 0, .int .u64 0] 27)).setRow xb (smL ⟨yo, yd, yp, ya⟩).toArray).setCell ⟨xb, 3, none⟩ (.int .u64 b)) := below_grown hBT (grownBy_set _ ⟨xb, 3, none⟩ _) hxw
      have hFU : Fl (((wr.alloc (.cells #[.int .i64 0, .int .i64 0, .int .i64 0, .int .u64 0] 27)).setRow xb (smL ⟨yo, yd, yp, ya⟩).toArray).setCell ⟨xb, 3, none⟩ (.int .u64 b)) p L false 0 := (HK.out.1.kept ((setRow_other _ _ _ _ (by omega)).trans (((Below.refl wr.heap.size wr).alloc (Nat.le_refl _) _).block _ HK.out.1.lt))).setNew ⟨xb, 3, none⟩ (Nat.ne_of_gt hxp) _
      have HCU : Hid (∀ j u, (smL ⟨yo, yd, yp, b⟩)[j]? = some u → (((wr.alloc (.cells #[.int .i64 0, .int .i64 0, .int .i64 0, .int .u64 0] 27)).setRow xb (smL ⟨yo, yd, yp, ya⟩).toArray).setCell ⟨xb, 3, none⟩ (.int .u64 b)).cell? ((⟨xb, 0, none⟩ : Addr).add j) = some u) := cells_of (l := smL ⟨yo, yd, yp, b⟩) hU
      have HA : Hid _ := fadd_any p L false 0 ⟨yo, yd, yp, b⟩ _ hFU
      have HBU : Hid (Below w.heap.size w (((wr.alloc (.cells #[.int .i64 0, .int .i64 0, .int .i64 0, .int .u64 0] 27)).setRow xb (smL ⟨yo, yd, yp, ya⟩).toArray).setCell ⟨xb, 3, none⟩ (.int .u64 b))) := hBU
      clear hac hkx hab hy oky hb hT hU hxw hxp hBT hBU hFU
      go_wp2_with (first | (refine step_ldat 27 _ rfl rfl ad (by rfl) (smL ⟨yo, yd, yp, ya⟩) _ Try.underlying27 rfl (by kernel_rfl) HC.out ?_) | (refine step_ldat 27 _ rfl rfl ⟨xb, 0, none⟩ (by rfl) (smL ⟨yo, yd, yp, b⟩) _ Try.underlying27 rfl (by kernel_rfl) HCU.out ?_) | (refine step_stR (by rfl) _ _ rfl xb (smL ⟨yo, yd, yp, ya⟩).toArray (by rfl) (by rfl) #[.int .i64 0, .int .i64 0, .int .i64 0, .int .u64 0] (by kernel_rfl) (by rfl) (by kernel_rfl) HT.out ?_) | (go_at_call 9; refine Calls.mono HA.out ?_; rintro e w3 ⟨rfl, hl3, hg3⟩))
      go_roundw
      case rel =>
        refine ⟨k + 1, adS L ⟨yo, yd, yp, b⟩, by go_num, by omega, by omega, ⟨hl3, fun s hs => ?_, fun _ => by rw [adS_len _ _ HK.out.1.len]; omega, below_grown HBU.out hg3 (Nat.le_of_eq HP.out.symm)⟩⟩
        rcases List.mem_cons.1 (List.mem_of_mem_take hs) with rfl | hs
        · exact ⟨⟨HO.out.1, HO.out.2.1, HO.out.2.2.1, HBb.out.1⟩, HBb.out.2⟩
        · exact HK.out.2.1 s hs
      case measure => simp [intOf]; omega
    · have hkn : k = n := by omega
      subst hkn
      have hll : 0 < L.length := HK.out.2.2.1 (by omega)
      have hok : ∀ s ∈ L, okS s := fun s hs => (HK.out.2.1 s hs).1
      have q := best_any p L false 0 now wr HK.out.1 hll hok
      obtain ⟨x, hx⟩ : ∃ x, x = fst (srt L) := ⟨_, rfl⟩
      rw [← hx] at q
      have e1 : nwB false 0 x.a = true := rfl
      have e2 : nwL false 0 x.a = x.a := rfl
      rw [e1, e2] at q
      obtain ⟨D, hD⟩ : ∃ D, D = ds (srt L) now 8 := ⟨_, rfl⟩
      obtain ⟨J, hJ⟩ : ∃ J, J = jt (srt L) := ⟨_, rfl⟩
      rw [← hD, ← hJ] at q
      obtain ⟨n2, hn2⟩ : ∃ n2, n2 = IntKind.u64.wrap (now + later * 1048576) := ⟨_, rfl⟩
      have hn2' : IntKind.u64.wrap (now + later * 1048576) = n2 := hn2.symm
      obtain ⟨D2, hD2⟩ : ∃ D2, D2 = ds (srt L) n2 8 := ⟨_, rfl⟩
      have HBe : Hid _ := q
      have HB2 : Hid (∀ u, Fl u p L true x.a → Calls Try.prog 10 #[.pointer (some ⟨p, 0, none⟩), .int .u64 n2] u fun e w' => e = .returned (.agg (bsL x.o x.d D2 J x.a false).toArray) ∧ u.grownBy w' (some p)) := fun u hu => by
        have q2 := best_any p L true x.a n2 u hu hll hok
        have e3 : nwB true x.a x.a = false := by unfold nwB; rw [sn_self]; rfl
        rw [← hx, e3, ← hD2, ← hJ] at q2
        exact q2.mono fun e w' h => ⟨h.1, h.2.2⟩
      have bD : D ≤ D2 ∧ D2 ≤ 68719476736 := by
        rw [hD, hD2]
        refine ⟨ds_mono (fun s hs => ?_) 8, ds_le _ _⟩
        have hs' := (srt_perm L).mem_iff.1 hs
        exact (HK.out.2.1 s hs').2.mono n0 n1 (d := later * 1048576) (by omega) (by omega) (by rw [hn2, IntKind.wrap_u64])
      have H2 : Hid (Below w.heap.size w wr) := HK.out.2.2.2
      clear q hx e1 e2 hD hJ hn2 hD2 hll hok HK
      go_wp2_with fail
      refine Calls.mono HBe.out ?_
      rintro e w3 ⟨rfl, hl3, hg3⟩
      obtain ⟨ab, hab⟩ : ∃ ab, w3.heap.size = ab := ⟨_, rfl⟩
      have HT : Hid ((w3.alloc (.cells #[.int .i64 0, .int .i64 0, .int .i64 0, .int .i64 0, .int .u64 0, .bool false] 33)).heap[ab]? = some (.cells #[.int .i64 0, .int .i64 0, .int .i64 0, .int .i64 0, .int .u64 0, .bool false] 33 (0, 0))) := by
        have h0 := alloc_at w3 (.cells #[.int .i64 0, .int .i64 0, .int .i64 0, .int .i64 0, .int .u64 0, .bool false] 33)
        rw [hab] at h0
        exact h0
      have hb3 := below_grown H2.out hg3 (Nat.le_of_eq HP.out.symm)
      have hxp : p < ab := by rw [← hab]; exact hl3.lt
      have HF1 : Hid (Fl ((w3.alloc (.cells #[.int .i64 0, .int .i64 0, .int .i64 0, .int .i64 0, .int .u64 0, .bool false] 33)).setRow ab (bsL x.o x.d D J x.a true).toArray) p L true x.a) := hl3.kept ((setRow_other _ _ _ _ (by omega)).trans (((Below.refl w3.heap.size w3).alloc (Nat.le_refl _) _).block _ hl3.lt))
      have HA1 : Hid (Bk ab ((w3.alloc (.cells #[.int .i64 0, .int .i64 0, .int .i64 0, .int .i64 0, .int .u64 0, .bool false] 33)).setRow ab (bsL x.o x.d D J x.a true).toArray) (bsL x.o x.d D J x.a true).toArray 33 ∧ Below w.heap.size w ((w3.alloc (.cells #[.int .i64 0, .int .i64 0, .int .i64 0, .int .i64 0, .int .u64 0, .bool false] 33)).setRow ab (bsL x.o x.d D J x.a true).toArray)) := ⟨setRow_heap _ _ _ _ _ _ HT.out, below_row (hb3.alloc hb3.size _) (by rw [← hab]; exact hb3.size) _⟩
      have Hab : Hid (p < ab) := hxp
      clear hl3 hg3 HBe hb3 hxp
      go_wp2_with (first | (refine step_stR (by rfl) _ _ rfl ab (bsL x.o x.d D J x.a true).toArray (by rfl) (by rfl) #[.int .i64 0, .int .i64 0, .int .i64 0, .int .i64 0, .int .u64 0, .bool false] (by kernel_rfl) (by rfl) (by kernel_rfl) HT.out ?_) | (go_at_call 10; fail))
      refine (HB2.out _ HF1.out).mono ?_
      rintro e w5 ⟨rfl, hg5⟩
      obtain ⟨bb, hbb⟩ : ∃ bb, w5.heap.size = bb := ⟨_, rfl⟩
      have HT2 : Hid ((w5.alloc (.cells #[.int .i64 0, .int .i64 0, .int .i64 0, .int .i64 0, .int .u64 0, .bool false] 33)).heap[bb]? = some (.cells #[.int .i64 0, .int .i64 0, .int .i64 0, .int .i64 0, .int .u64 0, .bool false] 33 (0, 0))) := by
        have h0 := alloc_at w5 (.cells #[.int .i64 0, .int .i64 0, .int .i64 0, .int .i64 0, .int .u64 0, .bool false] 33)
        rw [hbb] at h0
        exact h0
      have hB5 : Bk ab w5 (bsL x.o x.d D J x.a true).toArray 33 := HA1.out.1.kept (hg5.block _ HA1.out.1.lt (fun e => by have := Hab.out; injection e with e; omega))
      have hb5 := below_grown HA1.out.2 hg5 (Nat.le_of_eq HP.out.symm)
      have hlt5 : ab < bb := by rw [← hbb]; exact hB5.lt
      have hA6 : Bk ab ((w5.alloc (.cells #[.int .i64 0, .int .i64 0, .int .i64 0, .int .i64 0, .int .u64 0, .bool false] 33)).setRow bb (bsL x.o x.d D2 J x.a false).toArray) (bsL x.o x.d D J x.a true).toArray 33 := hB5.kept ((setRow_other _ _ _ _ (by omega)).trans (((Below.refl w5.heap.size w5).alloc (Nat.le_refl _) _).block _ hB5.lt))
      have hB6 : Bk bb ((w5.alloc (.cells #[.int .i64 0, .int .i64 0, .int .i64 0, .int .i64 0, .int .u64 0, .bool false] 33)).setRow bb (bsL x.o x.d D2 J x.a false).toArray) (bsL x.o x.d D2 J x.a false).toArray 33 := setRow_heap _ _ _ _ _ _ HT2.out
      have HB6 : Hid (Below w.heap.size w ((w5.alloc (.cells #[.int .i64 0, .int .i64 0, .int .i64 0, .int .i64 0, .int .u64 0, .bool false] 33)).setRow bb (bsL x.o x.d D2 J x.a false).toArray)) := below_row (hb5.alloc hb5.size _) (by rw [← hbb]; exact hb5.size) _
      have a0 : ((w5.alloc (.cells #[.int .i64 0, .int .i64 0, .int .i64 0, .int .i64 0, .int .u64 0, .bool false] 33)).setRow bb (bsL x.o x.d D2 J x.a false).toArray).cell? ⟨ab, 0, none⟩ = some (.int .i64 x.o) := hA6.cell 0
      have a1 : ((w5.alloc (.cells #[.int .i64 0, .int .i64 0, .int .i64 0, .int .i64 0, .int .u64 0, .bool false] 33)).setRow bb (bsL x.o x.d D2 J x.a false).toArray).cell? ⟨ab, 1, none⟩ = some (.int .i64 x.d) := hA6.cell 1
      have a2 : ((w5.alloc (.cells #[.int .i64 0, .int .i64 0, .int .i64 0, .int .i64 0, .int .u64 0, .bool false] 33)).setRow bb (bsL x.o x.d D2 J x.a false).toArray).cell? ⟨ab, 2, none⟩ = some (.int .i64 D) := hA6.cell 2
      have a3 : ((w5.alloc (.cells #[.int .i64 0, .int .i64 0, .int .i64 0, .int .i64 0, .int .u64 0, .bool false] 33)).setRow bb (bsL x.o x.d D2 J x.a false).toArray).cell? ⟨ab, 3, none⟩ = some (.int .i64 J) := hA6.cell 3
      have a4 : ((w5.alloc (.cells #[.int .i64 0, .int .i64 0, .int .i64 0, .int .i64 0, .int .u64 0, .bool false] 33)).setRow bb (bsL x.o x.d D2 J x.a false).toArray).cell? ⟨ab, 4, none⟩ = some (.int .u64 x.a) := hA6.cell 4
      have a5 : ((w5.alloc (.cells #[.int .i64 0, .int .i64 0, .int .i64 0, .int .i64 0, .int .u64 0, .bool false] 33)).setRow bb (bsL x.o x.d D2 J x.a false).toArray).cell? ⟨ab, 5, none⟩ = some (.bool true) := hA6.cell 5
      have b0 : ((w5.alloc (.cells #[.int .i64 0, .int .i64 0, .int .i64 0, .int .i64 0, .int .u64 0, .bool false] 33)).setRow bb (bsL x.o x.d D2 J x.a false).toArray).cell? ⟨bb, 0, none⟩ = some (.int .i64 x.o) := hB6.cell 0
      have b1 : ((w5.alloc (.cells #[.int .i64 0, .int .i64 0, .int .i64 0, .int .i64 0, .int .u64 0, .bool false] 33)).setRow bb (bsL x.o x.d D2 J x.a false).toArray).cell? ⟨bb, 1, none⟩ = some (.int .i64 x.d) := hB6.cell 1
      have b2 : ((w5.alloc (.cells #[.int .i64 0, .int .i64 0, .int .i64 0, .int .i64 0, .int .u64 0, .bool false] 33)).setRow bb (bsL x.o x.d D2 J x.a false).toArray).cell? ⟨bb, 2, none⟩ = some (.int .i64 D2) := hB6.cell 2
      have b3 : ((w5.alloc (.cells #[.int .i64 0, .int .i64 0, .int .i64 0, .int .i64 0, .int .u64 0, .bool false] 33)).setRow bb (bsL x.o x.d D2 J x.a false).toArray).cell? ⟨bb, 3, none⟩ = some (.int .i64 J) := hB6.cell 3
      have b4 : ((w5.alloc (.cells #[.int .i64 0, .int .i64 0, .int .i64 0, .int .i64 0, .int .u64 0, .bool false] 33)).setRow bb (bsL x.o x.d D2 J x.a false).toArray).cell? ⟨bb, 4, none⟩ = some (.int .u64 x.a) := hB6.cell 4
      have b5 : ((w5.alloc (.cells #[.int .i64 0, .int .i64 0, .int .i64 0, .int .i64 0, .int .u64 0, .bool false] 33)).setRow bb (bsL x.o x.d D2 J x.a false).toArray).cell? ⟨bb, 5, none⟩ = some (.bool false) := hB6.cell 5
      clear hB5 hb5 hlt5 hA6 hB6 hg5 HA1 HF1 HT
      go_wp2_with (refine step_stR (by rfl) _ _ rfl bb (bsL x.o x.d D2 J x.a false).toArray (by rfl) (by rfl) #[.int .i64 0, .int .i64 0, .int .i64 0, .int .i64 0, .int .u64 0, .bool false] (by kernel_rfl) (by rfl) (by kernel_rfl) HT2.out ?_)
      rw [hQ.out]
      go_ret
      exact ⟨rfl, HB6.out⟩
end Go.Proofs.Ytmjkdfjfjidekaa
