/- What the reference's Check returns. -/
import Derived.Test.YtdobghhjlfffpaaXD
import Derived.Test.YtdobghhjlfffpaaWL
namespace Go.Proofs.Ytdobghhjlfffpaa
open Go.RowKit
set_option maxHeartbeats 400000 in
theorem rfromShort_max (w : World) :
    Calls Try.prog 42 #[.int .u32 4294967295] w fun e w' => e = .returned (.int .i64 281474976645120) ∧ w' = w := by
  go_enter Try.func42, Try.ntmps42
  go_wp2
  go_ret
  exact ⟨rfl, rfl⟩
set_option maxRecDepth 8000 in
set_option maxHeartbeats 8000000 in
theorem rcheck_head (h : Hd) (ea : Option Addr) (en ec : Nat) (key : Int) (nak : Bool) (ma : Option Addr) (mn mc : Nat) (w : World) (hf : hfB h = false) :
    Calls Try.prog 27 #[pkV h (.slice ea en ec) key nak (.slice ma mn mc)] w fun e' w' => e' = .returned (.int .i64 32) ∧ Below w.heap.size w w' := by
  unfold pkV
  cases hleap : wiB h.leap 0 3
  · go_enter Try.func27, Try.ntmps27
    go_wp2_with (first | (go_at_call 42; refine (rfromShort_max _).mono ?_; rintro e' w' ⟨rfl, hw⟩; rw [hw]; clear hw) | (go_at_call 41; refine (rwithin_any _ _ _ _).mono ?_; rintro e' w' ⟨rfl, hw⟩; rw [hw]; clear hw))
    go_ret
    exact ⟨rfl, (by repeat' (first | with_reducible exact Below.refl _ _ | with_reducible refine Below.setCell ?_ (by first | (simp; done) | (simp; omega) | omega) _ | with_reducible refine below_drewN ?_ _ | with_reducible refine Below.drew ?_ | with_reducible refine Below.alloc ?_ (by first | (simp; done) | (simp; omega) | omega) _))⟩
  cases hver : wiB h.ver 1 4
  · go_enter Try.func27, Try.ntmps27
    go_wp2_with (first | (go_at_call 42; refine (rfromShort_max _).mono ?_; rintro e' w' ⟨rfl, hw⟩; rw [hw]; clear hw) | (go_at_call 41; refine (rwithin_any _ _ _ _).mono ?_; rintro e' w' ⟨rfl, hw⟩; rw [hw]; clear hw))
    go_ret
    exact ⟨rfl, (by repeat' (first | with_reducible exact Below.refl _ _ | with_reducible refine Below.setCell ?_ (by first | (simp; done) | (simp; omega) | omega) _ | with_reducible refine below_drewN ?_ _ | with_reducible refine Below.drew ?_ | with_reducible refine Below.alloc ?_ (by first | (simp; done) | (simp; omega) | omega) _))⟩
  cases hmode : wiB h.mode 1 5
  · go_enter Try.func27, Try.ntmps27
    go_wp2_with (first | (go_at_call 42; refine (rfromShort_max _).mono ?_; rintro e' w' ⟨rfl, hw⟩; rw [hw]; clear hw) | (go_at_call 41; refine (rwithin_any _ _ _ _).mono ?_; rintro e' w' ⟨rfl, hw⟩; rw [hw]; clear hw))
    go_ret
    exact ⟨rfl, (by repeat' (first | with_reducible exact Below.refl _ _ | with_reducible refine Below.setCell ?_ (by first | (simp; done) | (simp; omega) | omega) _ | with_reducible refine below_drewN ?_ _ | with_reducible refine Below.drew ?_ | with_reducible refine Below.alloc ?_ (by first | (simp; done) | (simp; omega) | omega) _))⟩
  cases hstr : wiB h.str 0 255
  · go_enter Try.func27, Try.ntmps27
    go_wp2_with (first | (go_at_call 42; refine (rfromShort_max _).mono ?_; rintro e' w' ⟨rfl, hw⟩; rw [hw]; clear hw) | (go_at_call 41; refine (rwithin_any _ _ _ _).mono ?_; rintro e' w' ⟨rfl, hw⟩; rw [hw]; clear hw))
    go_ret
    exact ⟨rfl, (by repeat' (first | with_reducible exact Below.refl _ _ | with_reducible refine Below.setCell ?_ (by first | (simp; done) | (simp; omega) | omega) _ | with_reducible refine below_drewN ?_ _ | with_reducible refine Below.drew ?_ | with_reducible refine Below.alloc ?_ (by first | (simp; done) | (simp; omega) | omega) _))⟩
  cases hpoll : wiB h.poll (-128) 127
  · go_enter Try.func27, Try.ntmps27
    go_wp2_with (first | (go_at_call 42; refine (rfromShort_max _).mono ?_; rintro e' w' ⟨rfl, hw⟩; rw [hw]; clear hw) | (go_at_call 41; refine (rwithin_any _ _ _ _).mono ?_; rintro e' w' ⟨rfl, hw⟩; rw [hw]; clear hw))
    go_ret
    exact ⟨rfl, (by repeat' (first | with_reducible exact Below.refl _ _ | with_reducible refine Below.setCell ?_ (by first | (simp; done) | (simp; omega) | omega) _ | with_reducible refine below_drewN ?_ _ | with_reducible refine Below.drew ?_ | with_reducible refine Below.alloc ?_ (by first | (simp; done) | (simp; omega) | omega) _))⟩
  cases hprec : wiB h.prec (-128) 127
  · go_enter Try.func27, Try.ntmps27
    go_wp2_with (first | (go_at_call 42; refine (rfromShort_max _).mono ?_; rintro e' w' ⟨rfl, hw⟩; rw [hw]; clear hw) | (go_at_call 41; refine (rwithin_any _ _ _ _).mono ?_; rintro e' w' ⟨rfl, hw⟩; rw [hw]; clear hw))
    go_ret
    exact ⟨rfl, (by repeat' (first | with_reducible exact Below.refl _ _ | with_reducible refine Below.setCell ?_ (by first | (simp; done) | (simp; omega) | omega) _ | with_reducible refine below_drewN ?_ _ | with_reducible refine Below.drew ?_ | with_reducible refine Below.alloc ?_ (by first | (simp; done) | (simp; omega) | omega) _))⟩
  rcases (by omega : h.del < 0 ∨ 0 ≤ h.del) with gdel0 | gdel0
  · go_enter Try.func27, Try.ntmps27
    go_wp2_with (first | (go_at_call 42; refine (rfromShort_max _).mono ?_; rintro e' w' ⟨rfl, hw⟩; rw [hw]; clear hw) | (go_at_call 41; refine (rwithin_any _ _ _ _).mono ?_; rintro e' w' ⟨rfl, hw⟩; rw [hw]; clear hw))
    go_ret
    exact ⟨rfl, (by repeat' (first | with_reducible exact Below.refl _ _ | with_reducible refine Below.setCell ?_ (by first | (simp; done) | (simp; omega) | omega) _ | with_reducible refine below_drewN ?_ _ | with_reducible refine Below.drew ?_ | with_reducible refine Below.alloc ?_ (by first | (simp; done) | (simp; omega) | omega) _))⟩
  rcases (by omega : 281474976645120 < h.del ∨ h.del ≤ 281474976645120) with gdel1 | gdel1
  · go_enter Try.func27, Try.ntmps27
    go_wp2_with (first | (go_at_call 42; refine (rfromShort_max _).mono ?_; rintro e' w' ⟨rfl, hw⟩; rw [hw]; clear hw) | (go_at_call 41; refine (rwithin_any _ _ _ _).mono ?_; rintro e' w' ⟨rfl, hw⟩; rw [hw]; clear hw))
    go_ret
    exact ⟨rfl, (by repeat' (first | with_reducible exact Below.refl _ _ | with_reducible refine Below.setCell ?_ (by first | (simp; done) | (simp; omega) | omega) _ | with_reducible refine below_drewN ?_ _ | with_reducible refine Below.drew ?_ | with_reducible refine Below.alloc ?_ (by first | (simp; done) | (simp; omega) | omega) _))⟩
  rcases (by omega : h.dis < 0 ∨ 0 ≤ h.dis) with gdis0 | gdis0
  · go_enter Try.func27, Try.ntmps27
    go_wp2_with (first | (go_at_call 42; refine (rfromShort_max _).mono ?_; rintro e' w' ⟨rfl, hw⟩; rw [hw]; clear hw) | (go_at_call 41; refine (rwithin_any _ _ _ _).mono ?_; rintro e' w' ⟨rfl, hw⟩; rw [hw]; clear hw))
    go_ret
    exact ⟨rfl, (by repeat' (first | with_reducible exact Below.refl _ _ | with_reducible refine Below.setCell ?_ (by first | (simp; done) | (simp; omega) | omega) _ | with_reducible refine below_drewN ?_ _ | with_reducible refine Below.drew ?_ | with_reducible refine Below.alloc ?_ (by first | (simp; done) | (simp; omega) | omega) _))⟩
  rcases (by omega : 281474976645120 < h.dis ∨ h.dis ≤ 281474976645120) with gdis1 | gdis1
  · go_enter Try.func27, Try.ntmps27
    go_wp2_with (first | (go_at_call 42; refine (rfromShort_max _).mono ?_; rintro e' w' ⟨rfl, hw⟩; rw [hw]; clear hw) | (go_at_call 41; refine (rwithin_any _ _ _ _).mono ?_; rintro e' w' ⟨rfl, hw⟩; rw [hw]; clear hw))
    go_ret
    exact ⟨rfl, (by repeat' (first | with_reducible exact Below.refl _ _ | with_reducible refine Below.setCell ?_ (by first | (simp; done) | (simp; omega) | omega) _ | with_reducible refine below_drewN ?_ _ | with_reducible refine Below.drew ?_ | with_reducible refine Below.alloc ?_ (by first | (simp; done) | (simp; omega) | omega) _))⟩
  unfold hfB at hf
  rw [hleap, hver, hmode, hstr, hpoll, hprec, wiB_t ⟨gdel0, gdel1⟩, wiB_t ⟨gdis0, gdis1⟩] at hf
  cases hf
set_option maxRecDepth 8000 in
set_option maxHeartbeats 16000000 in
theorem rcheck_any (N : Nat) (h : Hd) (ev : Value) (xs : List Xt) (key : Int) (nak : Bool) (ma : Option Addr) (mn mc : Nat) (w : World) (he : Es N w ev xs) (hN : N ≤ w.heap.size) (hl : xs.length ≤ 65536) (hx : ∀ x ∈ xs, x.dat.length ≤ 65536) (hmn : (mn : Int) ≤ 65536) :
    Calls Try.prog 27 #[pkV h ev key nak (.slice ma mn mc)] w fun e' w' => e' = .returned (.int .i64 (ckE h xs key nak mn)) ∧ Below w.heap.size w w' := by
  have H : Hid (Es N w ev xs) := he
  obtain ⟨ea, ec, rfl, h1, -⟩ := he
  obtain ⟨en, hen⟩ : ∃ L, L = xs.length := ⟨_, rfl⟩
  cases hf : hfB h
  · have e : ckE h xs key nak mn = 32 := by unfold ckE; rw [hf]; simp
    rw [e]
    exact rcheck_head h ea _ ec key nak ma mn mc w hf
  have HF : Hid (hfB h = true) := hf
  unfold hfB at hf
  simp only [Bool.and_eq_true] at hf
  obtain ⟨⟨⟨⟨⟨⟨⟨f1, f2⟩, f3⟩, f4⟩, f5⟩, f6⟩, f7⟩, f8⟩ := hf
  rw [wiB_iff] at f3 f4
  obtain ⟨f30, f31⟩ := f3
  obtain ⟨f40, f41⟩ := f4
  obtain ⟨FD, hFD⟩ : ∃ F, F = dfB key mn := ⟨_, rfl⟩
  have HFD : Hid (∀ w, Calls Try.prog 48 #[.int .i64 key, .slice ma mn mc] w fun e' w' => e' = .returned (.bool FD) ∧ w' = w) := fun w => by rw [hFD]; exact rdigest_any key ma mn mc w
  have HDD : Hid (FD = dfB key mn) := hFD
  rw [← hen] at H ⊢
  have HL : Hid (en = xs.length) := hen
  have HXL : Hid (∀ x ∈ xs, x.dat.length ≤ 65536) := hx
  obtain ⟨EN, hEN⟩ : ∃ x : Int, (en : Int) = x := ⟨_, rfl⟩
  have HEN : Hid ((en : Int) = EN) := hEN
  have l1 : EN ≤ 65536 := by omega
  have l0 : 0 ≤ EN := by omega
  clear h1 hx hl hen hFD
  unfold pkV
  by_cases h4 : 4 < EN
  · go_enter Try.func27, Try.ntmps27
    go_wp2_with (first | (go_at_call 42; refine (rfromShort_max _).mono ?_; rintro e' w' ⟨rfl, hw⟩; rw [hw]; clear hw) | (go_at_call 41; refine (rwithin_any _ _ _ _).mono ?_; rintro e' w' ⟨rfl, hw⟩; rw [hw]; clear hw) | (go_at_call 48; refine (HFD.out _).mono ?_; rintro e' w' ⟨rfl, hw⟩; rw [hw]; clear hw))
    go_ret
    exact ⟨ret_i64 (by unfold ckE; rw [HF.out, if_pos rfl, if_pos (by have := HL.out; have := HEN.out; omega)]), (by repeat' (first | with_reducible exact Below.refl _ _ | with_reducible refine Below.setCell ?_ (by first | (simp; done) | (simp; omega) | omega) _ | with_reducible refine below_drewN ?_ _ | with_reducible refine Below.drew ?_ | with_reducible refine Below.alloc ?_ (by first | (simp; done) | (simp; omega) | omega) _))⟩
  have HN4 : Hid (¬ 4 < xs.length) := by have := HL.out; show ¬ _; omega
  have h4' : EN ≤ 4 := by omega
  clear h4
  go_enter Try.func27, Try.ntmps27
  go_wp2_with (first | (go_at_call 42; refine (rfromShort_max _).mono ?_; rintro e' w' ⟨rfl, hw⟩; rw [hw]; clear hw) | (go_at_call 41; refine (rwithin_any _ _ _ _).mono ?_; rintro e' w' ⟨rfl, hw⟩; rw [hw]; clear hw) | (go_at_call 48; refine (HFD.out _).mono ?_; rintro e' w' ⟨rfl, hw⟩; rw [hw]; clear hw))
  clear f1 f2 f5 f6 f7 f8 f30 f31 f40 f41
  obtain ⟨W0, hW0⟩ : ∃ W, W = w.alloc (.cells #[.int .i64 h.leap, .int .i64 h.ver, .int .i64 h.mode, .int .i64 h.str, .int .i64 h.poll, .int .i64 h.prec, .int .i64 h.del, .int .i64 h.dis, .int .u32 h.rid, .int .u64 h.t0, .int .u64 h.t1, .int .u64 h.t2, .int .u64 h.t3, .slice ea en ec, .int .i64 key, .bool nak, .slice ma mn mc] 29) := ⟨_, rfl⟩
  have K0 : Hid (Ck w.heap.size W0 #[.int .i64 h.leap, .int .i64 h.ver, .int .i64 h.mode, .int .i64 h.str, .int .i64 h.poll, .int .i64 h.prec, .int .i64 h.del, .int .i64 h.dis, .int .u32 h.rid, .int .u64 h.t0, .int .u64 h.t1, .int .u64 h.t2, .int .u64 h.t3, .slice ea en ec, .int .i64 key, .bool nak, .slice ma mn mc] ∧ Below w.heap.size w W0) := by rw [hW0]; exact ⟨Ck.new _ _ _, (by repeat' (first | with_reducible exact Below.refl _ _ | with_reducible refine Below.setCell ?_ (by first | (simp; done) | (simp; omega) | omega) _ | with_reducible refine below_drewN ?_ _ | with_reducible refine Below.drew ?_ | with_reducible refine Below.alloc ?_ (by first | (simp; done) | (simp; omega) | omega) _))⟩
  rw [← hW0]
  clear hW0
  obtain ⟨c0, c1, c2, c3, c4, c5, c6, c7, c8, c9, c10, c11, c12, c13, c14, c15, c16⟩ := K0.out.1.c17
  have HT : Hid (∀ k, k ≤ xs.length → 0 ≤ sumX (xs.take k) ∧ sumX (xs.take k) ≤ 4295229440) := fun k hk => by
    have := sumX_bd (xs := xs.take k) (fun x hx' => HXL.out x (List.mem_of_mem_take hx'))
    have hlk : (xs.take k).length ≤ 65536 := by rw [List.length_take]; have := HN4.out; omega
    omega
  have HXF : Hid (xsB xs = false → ckE h xs key nak mn = 32) := fun e => by unfold ckE; rw [HF.out, if_pos rfl, if_neg HN4.out, e]; simp
  go_loop [4, 5] (fun t i => ∃ (k : Nat) (T KI : Int), t = .int .i64 T ∧ i = .int .i64 KI ∧ 0 ≤ KI ∧ KI ≤ EN ∧ Hid (KI = (k : Int) ∧ T = 48 + sumX (xs.take k) ∧ ∀ j (hj : j < xs.length), j < k → xtB xs[j].ty xs[j].dat.length = true)) (fun _ i => (EN - intOf i).toNat)
  case atStart => exact ⟨0, 48, 0, rfl, rfl, by omega, l0, rfl, by simp [sumX], fun j _ hj => absurd hj (by omega)⟩
  case round =>
    obtain ⟨k, T, KI, rfl, rfl, hk0, hk, hT⟩ := hrel
    have hTb := HT.out k (by have := HL.out; have := HEN.out; have := hT.out.1; omega)
    have t0 : 0 ≤ T := by rw [hT.out.2.1]; omega
    have t1 : T ≤ 4295400000 := by rw [hT.out.2.1]; omega
    clear hTb
    by_cases hlt : KI < EN
    · have hkx : k < xs.length := by have := HL.out; have := HEN.out; have := hT.out.1; omega
      obtain ⟨ad, g1, g2, g3, g4, -⟩ := (H.out.below K0.out.2 hN).at k hkx
      have hix : ∀ w, Sem.run Try.prog (Instr.indexAt 26 (.slice ea en ec) (.int .i64 KI)) w = .ok (.pointer (some (ad.add (k * 2)))) w := by rw [hT.out.1]; exact xidx_run en ec k g1.out (by have := HEN.out; have := hT.out.1; omega)
      obtain ⟨A, hA0⟩ : ∃ A, A = ad.add (k * 2) := ⟨_, rfl⟩
      rw [← hA0] at hix g2 g3
      obtain ⟨ty, hty⟩ : ∃ t, t = xs[k].ty := ⟨_, rfl⟩
      obtain ⟨dv, hdv⟩ : ∃ d, d = xs[k].dv := ⟨_, rfl⟩
      rw [← hty] at g2
      rw [← hdv] at g3 g4
      obtain ⟨da, dc, hd, -⟩ := g4
      subst hd
      obtain ⟨dn, hdn⟩ : ∃ n, n = xs[k].dat.length := ⟨_, rfl⟩
      rw [← hdn] at g3
      have g3' : W0.cell? { block := A.block, off := A.off + 1 } = some (.slice da dn dc) := by simpa [Addr.add] using g3
      obtain ⟨DN, hDN⟩ : ∃ x : Int, (dn : Int) = x := ⟨_, rfl⟩
      have d1 : DN ≤ 65536 := by have := HXL.out _ (List.getElem_mem hkx); omega
      have d0 : 0 ≤ DN := by omega
      have em : min DN 65536 = DN := by omega
      obtain ⟨M4, hM4⟩ : ∃ x, DN % 4 = x := ⟨_, rfl⟩
      have e4 : DN.tmod 4 = M4 := by rw [Int.tmod_eq_emod_of_nonneg d0, hM4]
      have HE : Hid (xtB xs[k].ty xs[k].dat.length = (wiB ty 0 65535 && decide (24 ≤ DN ∧ M4 = 0)) ∧ DN = (xs[k].dat.length : Int)) := by
        refine ⟨?_, by omega⟩
        unfold xtB dtB
        rw [← hty, ← hdn, hDN, hM4]
      have HFa : Hid (xtB xs[k].ty xs[k].dat.length = false → ckE h xs key nak mn = 32) := fun e => HXF.out (by
        rw [Bool.eq_false_iff]
        intro ht
        unfold xsB at ht
        rw [List.all_eq_true] at ht
        rw [ht xs[k] (List.getElem_mem hkx)] at e
        cases e)
      clear hA0 hty hdv hdn g1 g3 hM4
      cases hw0 : wiB ty 0 65535
      · go_wp2_with (first | (go_at_call 42; refine (rfromShort_max _).mono ?_; rintro e' w' ⟨rfl, hw⟩; rw [hw]; clear hw) | (go_at_call 41; refine (rwithin_any _ _ _ _).mono ?_; rintro e' w' ⟨rfl, hw⟩; rw [hw]; clear hw) | (go_at_call 48; refine (HFD.out _).mono ?_; rintro e' w' ⟨rfl, hw⟩; rw [hw]; clear hw))
        go_ret
        exact ⟨ret_i64 (HFa.out (by rw [HE.out.1, hw0]; simp)).symm, K0.out.2⟩
      by_cases h24 : DN < 24
      · go_wp2_with (first | (go_at_call 42; refine (rfromShort_max _).mono ?_; rintro e' w' ⟨rfl, hw⟩; rw [hw]; clear hw) | (go_at_call 41; refine (rwithin_any _ _ _ _).mono ?_; rintro e' w' ⟨rfl, hw⟩; rw [hw]; clear hw) | (go_at_call 48; refine (HFD.out _).mono ?_; rintro e' w' ⟨rfl, hw⟩; rw [hw]; clear hw))
        go_ret
        exact ⟨ret_i64 (HFa.out (by rw [HE.out.1, decide_eq_false (by omega)]; simp)).symm, K0.out.2⟩
      have h24' : 24 ≤ DN := by omega
      clear h24
      by_cases hz : M4 = 0
      · subst hz
        go_wp2_with (first | (go_at_call 42; refine (rfromShort_max _).mono ?_; rintro e' w' ⟨rfl, hw⟩; rw [hw]; clear hw) | (go_at_call 41; refine (rwithin_any _ _ _ _).mono ?_; rintro e' w' ⟨rfl, hw⟩; rw [hw]; clear hw) | (go_at_call 48; refine (HFD.out _).mono ?_; rintro e' w' ⟨rfl, hw⟩; rw [hw]; clear hw))
        refine ⟨⟨k + 1, _, KI + 1, rfl, rfl, by omega, by omega, ?_, ?_, fun j hj hjk => ?_⟩, by simp [intOf]; omega⟩
        · have := hT.out.1; omega
        · rw [sumX_take xs k hkx, ← HE.out.2, hT.out.2.1]; omega
        · by_cases hjk' : j < k
          · exact hT.out.2.2 j hj hjk'
          · have : j = k := by omega
            subst this
            rw [HE.out.1, hw0, decide_eq_true ⟨h24', by first | rfl | trivial⟩]; rfl
      · have bz : (M4 != 0) = true := by rw [bne_iff_ne]; exact hz
        have HZ : Hid (¬ M4 = 0) := hz
        clear hz
        go_wp2_with (first | (go_at_call 42; refine (rfromShort_max _).mono ?_; rintro e' w' ⟨rfl, hw⟩; rw [hw]; clear hw) | (go_at_call 41; refine (rwithin_any _ _ _ _).mono ?_; rintro e' w' ⟨rfl, hw⟩; rw [hw]; clear hw) | (go_at_call 48; refine (HFD.out _).mono ?_; rintro e' w' ⟨rfl, hw⟩; rw [hw]; clear hw))
        go_ret
        exact ⟨ret_i64 (HFa.out (by rw [HE.out.1, decide_eq_false (fun x => HZ.out x.2)]; simp)).symm, K0.out.2⟩
    · have hkE : xs.take k = xs := List.take_of_length_le (by have := HL.out; have := HEN.out; have := hT.out.1; omega)
      have HXB : Hid (xsB xs = true) := by
        show _ = _
        unfold xsB
        rw [List.all_eq_true]
        intro x hx
        obtain ⟨j, hj, rfl⟩ := List.mem_iff_getElem.1 hx
        exact hT.out.2.2 j hj (by have := HL.out; have := HEN.out; have := hT.out.1; omega)
      have HT2 : Hid (T = 48 + sumX xs) := by have := hT.out.2.1; rw [hkE] at this; exact this
      clear hkE hT
      obtain ⟨MN, hMN⟩ : ∃ x : Int, (mn : Int) = x := ⟨_, rfl⟩
      have HMN : Hid ((mn : Int) = MN) := hMN
      have m0 : 0 ≤ MN := by omega
      have m1 : MN ≤ 65536 := by omega
      have HCK : Hid (ckE h xs key nak mn = if kdB key nak mn = true then (if 512 < szI xs key nak mn then 31 else 0) else 32) := by
        show _ = _
        unfold ckE
        rw [HF.out, if_pos rfl, if_neg HN4.out, HXB.out, Bool.true_and]
      obtain ⟨KZ, hKZ⟩ : ∃ b, (key != 0) = b := ⟨_, rfl⟩
      have HKZ : Hid ((key != 0) = KZ) := hKZ
      have HKD : Hid (kdB key nak mn = (FD && !(KZ && nak))) := by show _ = _; unfold kdB; rw [← HDD.out, HKZ.out]
      have HDZ : Hid (dsz key mn = if KZ = true then 4 + MN else 0) := by
        show _ = _
        unfold dsz
        rw [HMN.out]
        cases hq : KZ
        · rw [if_pos (by have := HKZ.out; rw [hq, bne_eq_false_iff_eq] at this; exact this)]; simp
        · rw [if_neg (by have := HKZ.out; rw [hq, bne_iff_ne] at this; exact this)]; simp
      cases FD
      · go_wp2_with (first | (go_at_call 42; refine (rfromShort_max _).mono ?_; rintro e' w' ⟨rfl, hw⟩; rw [hw]; clear hw) | (go_at_call 41; refine (rwithin_any _ _ _ _).mono ?_; rintro e' w' ⟨rfl, hw⟩; rw [hw]; clear hw) | (go_at_call 48; refine (HFD.out _).mono ?_; rintro e' w' ⟨rfl, hw⟩; rw [hw]; clear hw))
        go_ret
        exact ⟨ret_i64 (by rw [HCK.out, HKD.out]; simp), K0.out.2⟩
      obtain ⟨SZ, hSZ⟩ : ∃ x, x = szI xs key nak mn := ⟨_, rfl⟩
      have HS : Hid (SZ = szI xs key nak mn) := hSZ
      have HS2 : Hid (SZ = T + (if KZ = true then 4 + MN else 0) + (if nak = true then 4 else 0)) := by
        show _ = _
        rw [hSZ]
        unfold szI
        rw [HDZ.out, HT2.out]
        omega
      clear hSZ
      cases KZ
      all_goals
        cases nak
        all_goals
          have hSZ2 := HS2.out
          simp at hSZ2
          by_cases hs : 512 < SZ
          all_goals
            go_wp2_with (first | (go_at_call 42; refine (rfromShort_max _).mono ?_; rintro e' w' ⟨rfl, hw⟩; rw [hw]; clear hw) | (go_at_call 41; refine (rwithin_any _ _ _ _).mono ?_; rintro e' w' ⟨rfl, hw⟩; rw [hw]; clear hw) | (go_at_call 48; refine (HFD.out _).mono ?_; rintro e' w' ⟨rfl, hw⟩; rw [hw]; clear hw))
            all_goals
              go_ret
              refine ⟨ret_i64 ?_, K0.out.2⟩
              rw [HCK.out, HKD.out]
              first
              | (simp; done)
              | (rw [if_pos (by decide), ← HS.out]; first | rw [if_pos (by omega)] | rw [if_neg (by omega)])
end Go.Proofs.Ytdobghhjlfffpaa
