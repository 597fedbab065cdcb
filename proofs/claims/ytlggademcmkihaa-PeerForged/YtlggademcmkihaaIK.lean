/- PeerForged, walked: the key is 0. -/
import Derived.Test.YtlggademcmkihaaIJ
namespace Go.Proofs.Ytlggademcmkihaa
open Go Go.RowKit Go.Sort
set_option maxRecDepth 20000 in
set_option maxHeartbeats 4000000 in
theorem forged_0 (a : As) (own : Int) (v : Value) (fv : Value) (xs : List Stp) (fs : List (List Stp)) (w : World) (hk : W64 a.kind) (hv : Sx w.heap.size w v xs) (hf : Sxx w.heap.size w fv fs) (h0 : a.key = 0) :
    Calls Try.prog 7 #[.agg (asL a).toArray, .int .u32 own, v, fv] w fun e w' => e = .returned (.bool true) ∧ Below w.heap.size w w' := by
  obtain ⟨ao, cap, rfl, -⟩ := hv.ex
  obtain ⟨n, hn⟩ : ∃ n, n = xs.length := ⟨_, rfl⟩
  obtain ⟨fo, fc, rfl, -⟩ := hf.ex
  obtain ⟨m, hm⟩ : ∃ m, m = fs.length := ⟨_, rfl⟩
  rw [← hn] at hv ⊢
  rw [← hm] at hf ⊢
  have hnb : (n : Int) ≤ 9223372036854775807 := by have := hv.len; omega
  have hmb : (m : Int) ≤ 9223372036854775807 := by have := hf.len; omega
  have HV : Hid (Sx w.heap.size w (.slice ao n cap) xs ∧ n = xs.length ∧ Sxx w.heap.size w (.slice fo m fc) fs ∧ m = fs.length) := ⟨hv, hn, hf, hm⟩
  obtain ⟨a', ha'⟩ : ∃ a' : As, a' = { a with key := 1 } := ⟨_, rfl⟩
  have HA : Hid (okS (ps0 a'.kind a'.key own) ∧ a'.key ≠ 0) := by
    rw [ha']
    exact ⟨⟨hk, by simp [ps0], fun _ => ⟨rfl, rfl⟩⟩, by show (1 : Int) ≠ 0; decide⟩
  clear hv hn hf hm hk
  go_enter Try.func7, Try.ntmps7
  refine post_hid fun Q hQ => ?_
  refine seq_hid fun R hR => ?_
  go_wp2_with fail
  refine world_hid fun W hW => ?_
  have HW : Hid (Bk w.heap.size W (asL a).toArray 31 ∧ Below w.heap.size w W) := by
    rw [hW.out]
    exact ⟨Bk.new _ _ _, (Below.refl _ _).alloc (Nat.le_refl _) _⟩
  clear hW
  rw [hR.out]
  clear hR
  refine seq_hid fun R hR => ?_
  go_wp2_with (go_at_call 10; refine (shown_any _).mono ?_; rintro e w1 ⟨rfl, hb1⟩; have HW1 : Hid (Bk w.heap.size w1 (asL a).toArray 31 ∧ Below w.heap.size w w1) := ⟨HW.out.1.kept (hb1.block _ HW.out.1.lt), HW.out.2.trans (hb1.mono HW.out.2.size)⟩; clear hb1)
  rw [hR.out]
  clear hR HW
  have c2 : w1.cell? ⟨w.heap.size, 2, none⟩ = some (.int .i64 0) := by rw [← h0]; exact HW1.out.1.cell 2
  have f2 : w1.frozen? ⟨w.heap.size, 2, none⟩ = false := HW1.out.1.frozen 2
  have kf : True := trivial
  refine seq_hid fun R hR => ?_
  go_wp2_with fail
  refine world_hid fun w2 hw2 => ?_
  have HW2 : Hid (Bk w.heap.size w2 (asL a').toArray 31 ∧ Below w.heap.size w w2) := by
    rw [hw2.out, ha']
    exact ⟨HW1.out.1.set (j := 2) (.int .i64 1), HW1.out.2.setCell (Nat.le_refl _) _⟩
  clear hw2 c2 f2 kf ha'
  rw [hR.out]
  clear hR HW1
  refine seq_hid fun R hR => ?_
  have c0 : w2.cell? ⟨w.heap.size, 0, none⟩ = some (.int .i64 a'.kind) := HW2.out.1.cell 0
  have c1 : w2.cell? ⟨w.heap.size, 1, none⟩ = some (.int .u32 a'.addr) := HW2.out.1.cell 1
  have c2 : w2.cell? ⟨w.heap.size, 2, none⟩ = some (.int .i64 a'.key) := HW2.out.1.cell 2
  have c3 : w2.cell? ⟨w.heap.size, 3, none⟩ = some (.int .i64 a'.minp) := HW2.out.1.cell 3
  have c4 : w2.cell? ⟨w.heap.size, 4, none⟩ = some (.int .i64 a'.maxp) := HW2.out.1.cell 4
  have c5 : w2.cell? ⟨w.heap.size, 5, none⟩ = some (.bool a'.burst) := HW2.out.1.cell 5
  have c6 : w2.cell? ⟨w.heap.size, 6, none⟩ = some (.bool a'.ib) := HW2.out.1.cell 6
  have c7 : w2.cell? ⟨w.heap.size, 7, none⟩ = some (.bool a'.pref) := HW2.out.1.cell 7
  have c8 : w2.cell? ⟨w.heap.size, 8, none⟩ = some (.int .i64 a'.ttl) := HW2.out.1.cell 8
  have c9 : w2.cell? ⟨w.heap.size, 9, none⟩ = some (.bool a'.pulse) := HW2.out.1.cell 9
  have c10 : w2.cell? ⟨w.heap.size, 10, none⟩ = some (.int .i64 a'.fudge) := HW2.out.1.cell 10
  have c11 : w2.cell? ⟨w.heap.size, 11, none⟩ = some (.int .i64 a'.str) := HW2.out.1.cell 11
  go_wp2_with fail
  go_region_held3 (fun w' => w'.cell? ⟨w.heap.size, 0, none⟩ = some (.int .i64 a'.kind) ∧ w'.cell? ⟨w.heap.size, 1, none⟩ = some (.int .u32 a'.addr) ∧ w'.cell? ⟨w.heap.size, 2, none⟩ = some (.int .i64 a'.key) ∧ w'.cell? ⟨w.heap.size, 3, none⟩ = some (.int .i64 a'.minp) ∧ w'.cell? ⟨w.heap.size, 4, none⟩ = some (.int .i64 a'.maxp) ∧ w'.cell? ⟨w.heap.size, 5, none⟩ = some (.bool a'.burst) ∧ w'.cell? ⟨w.heap.size, 6, none⟩ = some (.bool a'.ib) ∧ w'.cell? ⟨w.heap.size, 7, none⟩ = some (.bool a'.pref) ∧ w'.cell? ⟨w.heap.size, 8, none⟩ = some (.int .i64 a'.ttl) ∧ w'.cell? ⟨w.heap.size, 9, none⟩ = some (.bool a'.pulse) ∧ w'.cell? ⟨w.heap.size, 10, none⟩ = some (.int .i64 a'.fudge) ∧ w'.cell? ⟨w.heap.size, 11, none⟩ = some (.int .i64 a'.str)) (first | with_reducible exact ⟨c0, c1, c2, c3, c4, c5, c6, c7, c8, c9, c10, c11⟩ | with_reducible exact ⟨d0, d1, d2, d3, d4, d5, d6, d7, d8, d9, d10, d11⟩ | with_reducible exact ⟨e0, e1, e2, e3, e4, e5, e6, e7, e8, e9, e10, e11⟩ | go_keep) (first
    | (go_at_call 11; have hh := HN3; refine (new_any a' own _).mono ?_; rintro e w4 ⟨q, rfl, hq4, hl4, hb4⟩; have HB4 : Hid (Bk w.heap.size w4 (asL a').toArray 31) := (HB3.out.kept (hb4.block _ HB3.out.lt)); have e0 : w4.cell? ⟨w.heap.size, 0, none⟩ = some (.int .i64 a'.kind) := HB4.out.cell 0; have e1 : w4.cell? ⟨w.heap.size, 1, none⟩ = some (.int .u32 a'.addr) := HB4.out.cell 1; have e2 : w4.cell? ⟨w.heap.size, 2, none⟩ = some (.int .i64 a'.key) := HB4.out.cell 2; have e3 : w4.cell? ⟨w.heap.size, 3, none⟩ = some (.int .i64 a'.minp) := HB4.out.cell 3; have e4 : w4.cell? ⟨w.heap.size, 4, none⟩ = some (.int .i64 a'.maxp) := HB4.out.cell 4; have e5 : w4.cell? ⟨w.heap.size, 5, none⟩ = some (.bool a'.burst) := HB4.out.cell 5; have e6 : w4.cell? ⟨w.heap.size, 6, none⟩ = some (.bool a'.ib) := HB4.out.cell 6; have e7 : w4.cell? ⟨w.heap.size, 7, none⟩ = some (.bool a'.pref) := HB4.out.cell 7; have e8 : w4.cell? ⟨w.heap.size, 8, none⟩ = some (.int .i64 a'.ttl) := HB4.out.cell 8; have e9 : w4.cell? ⟨w.heap.size, 9, none⟩ = some (.bool a'.pulse) := HB4.out.cell 9; have e10 : w4.cell? ⟨w.heap.size, 10, none⟩ = some (.int .i64 a'.fudge) := HB4.out.cell 10; have e11 : w4.cell? ⟨w.heap.size, 11, none⟩ = some (.int .i64 a'.str) := HB4.out.cell 11; have HN4 : Hid (Pm w4 q (ps0 a'.kind a'.key own) ∧ w3.heap.size ≤ q ∧ Below w3.heap.size w3 w4) := ⟨hq4, hl4, hb4⟩; clear hq4 hl4 hb4)
    | (go_at_call 11; refine (new_any a' own _).mono ?_; rintro e w3 ⟨p, rfl, hp3, hl3, hb3⟩; have HB3 : Hid (Bk w.heap.size w3 (asL a').toArray 31) := (HW2.out.1.kept (hb3.block _ HW2.out.1.lt)); have d0 : w3.cell? ⟨w.heap.size, 0, none⟩ = some (.int .i64 a'.kind) := HB3.out.cell 0; have d1 : w3.cell? ⟨w.heap.size, 1, none⟩ = some (.int .u32 a'.addr) := HB3.out.cell 1; have d2 : w3.cell? ⟨w.heap.size, 2, none⟩ = some (.int .i64 a'.key) := HB3.out.cell 2; have d3 : w3.cell? ⟨w.heap.size, 3, none⟩ = some (.int .i64 a'.minp) := HB3.out.cell 3; have d4 : w3.cell? ⟨w.heap.size, 4, none⟩ = some (.int .i64 a'.maxp) := HB3.out.cell 4; have d5 : w3.cell? ⟨w.heap.size, 5, none⟩ = some (.bool a'.burst) := HB3.out.cell 5; have d6 : w3.cell? ⟨w.heap.size, 6, none⟩ = some (.bool a'.ib) := HB3.out.cell 6; have d7 : w3.cell? ⟨w.heap.size, 7, none⟩ = some (.bool a'.pref) := HB3.out.cell 7; have d8 : w3.cell? ⟨w.heap.size, 8, none⟩ = some (.int .i64 a'.ttl) := HB3.out.cell 8; have d9 : w3.cell? ⟨w.heap.size, 9, none⟩ = some (.bool a'.pulse) := HB3.out.cell 9; have d10 : w3.cell? ⟨w.heap.size, 10, none⟩ = some (.int .i64 a'.fudge) := HB3.out.cell 10; have d11 : w3.cell? ⟨w.heap.size, 11, none⟩ = some (.int .i64 a'.str) := HB3.out.cell 11; have HN3 : Hid (Pm w3 p (ps0 a'.kind a'.key own) ∧ w2.heap.size ≤ p ∧ Below w2.heap.size w2 w3) := ⟨hp3, hl3, ⟨hb3.os, hb3.tape, hb3.output, hb3.size, hb3.block⟩⟩; clear hp3 hl3 hb3))
  obtain ⟨s0, hs0⟩ : ∃ s0, ps0 a'.kind a'.key own = s0 := ⟨_, rfl⟩
  have HF : Hid (Pm w4 p s0 ∧ Pm w4 q s0 ∧ p ≠ q ∧ w.heap.size ≤ p ∧ w.heap.size ≤ q ∧ Below w.heap.size w w4 ∧ okS s0 ∧ s0.key ≠ 0) := by
    rw [← hs0]
    have l1 := HW2.out.2.size
    have l2 := HN3.out.1.lt
    have l3 := HN3.out.2.1
    have l4 := HN4.out.2.1
    exact ⟨HN3.out.1.kept (HN4.out.2.2.block _ l2), HN4.out.1, by omega, by omega, by omega, HW2.out.2.trans ((HN3.out.2.2.trans (HN4.out.2.2.mono HN3.out.2.2.size)).mono l1), HA.out.1, HA.out.2⟩
  clear HN3 HN4 HB3 HB4 HW2 HA hs0 hh c0 c1 c2 c3 c4 c5 c6 c7 c8 c9 c10 c11 d0 d1 d2 d3 d4 d5 d6 d7 d8 d9 d10 d11 e0 e1 e2 e3 e4 e5 e6 e7 e8 e9 e10 e11
  go_wp2_with fail
  rw [hR.out]
  clear hR
  refine seq_hid fun R hR => ?_
  go_wp2_with fail
  refine world_hid fun w5 hw5 => ?_
  have HF5 : Hid (FW w w5 p q w4.heap.size (w4.heap.size + 1) s0 0) := by
    rw [hw5.out]
    have h1 := Bk.new w4 #[.int .u64 0] 23
    have h2 := Bk.new (w4.alloc (.cells #[.int .u64 0] 23)) #[.int .u64 0] 23
    rw [size_alloc1] at h2
    have hb : Below w4.heap.size w4 ((w4.alloc (.cells #[.int .u64 0] 23)).alloc (.cells #[.int .u64 0] 23)) := ((Below.refl _ _).alloc (Nat.le_refl _) _).alloc (by simp) _
    have l1 := HF.out.1.lt
    have l2 := HF.out.2.1.lt
    have l3 := HF.out.2.2.2.2.2.1.size
    exact ⟨HF.out.1.kept (hb.block _ l1), HF.out.2.1.kept (hb.block _ l2), h1.kept (((Below.refl _ _).alloc (Nat.le_refl _) _).block _ (by simp)), h2, ⟨HF.out.2.2.1, by omega, by omega, by omega, by omega, by omega⟩, ⟨HF.out.2.2.2.1, HF.out.2.2.2.2.1, by omega, by omega⟩, HF.out.2.2.2.2.2.1.trans (hb.mono l3), HF.out.2.2.2.2.2.2.1, by unfold U64; decide, HF.out.2.2.2.2.2.2.2⟩
  obtain ⟨X, hX⟩ : ∃ X, w4.heap.size = X := ⟨_, rfl⟩
  rw [hX] at HF5 ⊢
  obtain ⟨Y, hY⟩ : ∃ Y, X + 1 = Y := ⟨_, rfl⟩
  rw [hY] at HF5 ⊢
  clear hw5 hX hY HF
  rw [hR.out]
  clear hR
  go_wp2_with fail
  go_loopw [37] (fun i wr => ∃ (k : Nat) (s : Ps) (org : Int), i = .int .i64 k ∧ (k : Int) ≤ n ∧ Hid (FW w wr p q X Y s org)) (fun i _ => n - (intOf i).toNat)
  case atStart => exact ⟨0, s0, 0, rfl, by omega, HF5⟩
  case round =>
    clear HF5
    obtain ⟨k, s, org, rfl, hk, HK⟩ := hrel
    by_cases hlt : (k : Int) < n
    · have hkx : k < xs.length := by have := HV.out.2.1; omega
      obtain ⟨z, hz⟩ : ∃ z, xs[k]? = some z := ⟨_, List.getElem?_eq_getElem hkx⟩
      have hsx : Sx w.heap.size wr (.slice ao n cap) xs := HV.out.1.below HK.out.be (Nat.le_refl _)
      obtain ⟨ad, hix, hab, hac⟩ := hsx.at k z hz
      have HC : Hid (∀ j u, (spC z)[j]? = some u → wr.cell? (ad.add j) = some u) := hac
      have HOz : Hid (okX z) := hsx.ok z (List.mem_of_getElem? hz)
      have HL : Hid (FL w wr p q X Y s s org org []) := ⟨HK.out.pp, HK.out.pq, HK.out.bx, HK.out.byy, HK.out.ne, HK.out.lo, HK.out.be, fun b hb => by cases hb⟩
      have HOk : Hid (okS s ∧ U64 org ∧ s.key ≠ 0) := ⟨HK.out.ok, HK.out.o64, HK.out.ky⟩
      obtain ⟨pk, hpk⟩ : ∃ pk, dsP s z = pk := ⟨_, rfl⟩
      obtain ⟨bo, hbo⟩ : ∃ bo, dsB s z = bo := ⟨_, rfl⟩
      obtain ⟨V, hV⟩ : ∃ V, dsV s z org = V := ⟨_, rfl⟩
      obtain ⟨mm, hmm⟩ : ∃ mm, dsM s z org = mm := ⟨_, rfl⟩
      obtain ⟨s', hs'⟩ : ∃ s', dsS s z org = s' := ⟨_, rfl⟩
      obtain ⟨org', horg'⟩ : ∃ o, dsO s z org = o := ⟨_, rfl⟩
      have HDo : Hid (∀ (r o : Nat) (u : World), Pm u r s → Bk o u #[.int .u64 org] 23 → r ≠ o → Calls Try.prog 13 #[.pointer (some ⟨r, 0, none⟩), .agg (spC z).toArray, .pointer (some ⟨o, 0, none⟩)] u fun e w' => e = .returned (.tuple #[.agg (pkC pk).toArray, .bool bo, .int .i64 V, .agg (smL mm).toArray]) ∧ Pm w' r s' ∧ Bk o w' #[.int .u64 org'] 23 ∧ G2 r o u w') := fun r o u h1 h2 h3 => by
        rw [← hpk, ← hbo, ← hV, ← hmm, ← hs', ← horg']
        exact does_any r o s z org u h1 h2 h3 HOk.out.1 HOz.out HOk.out.2.1
      have HE : Hid (okS s' ∧ U64 org' ∧ s'.key ≠ 0) := by
        rw [← hs', ← horg']
        exact ⟨HOk.out.1.ds z org, dsO_u64 HOz.out HOk.out.2.1, by rw [dsS_key]; exact HOk.out.2.2⟩
      clear hac hab hz hkx hsx hpk hbo hV hmm hs' horg'
      go_upto_region 10 with (first
        | (refine step_ldat 46 _ rfl rfl ad (by rfl) (spC z) _ Try.underlying46 rfl (by kernel_rfl) HC.out ?_)
        | (refine step_fnew (by rfl) _ _ rfl (spC sp0) (spC z) (by rfl) (by rfl) HL.out (by kernel_rfl) rfl (spC_one _) ?_; intro w6 hl6; have HL6 : Hid _ := hl6; clear hl6))
      obtain ⟨bs, hbs⟩ : ∃ bs, wr.heap.size = bs := ⟨_, rfl⟩
      rw [hbs] at HL6 ⊢
      clear hix HC HL hbs
      obtain ⟨t', ht'⟩ : ∃ t', s'.t = t' := ⟨_, rfl⟩
      obtain ⟨wt, hwt⟩ : ∃ b, decide (s'.req ≠ 0) = b := ⟨_, rfl⟩
      have HT : Hid (∀ r u, Pm u r s' → Calls Try.prog 19 #[.pointer (some ⟨r, 0, none⟩)] u fun e w' => e = .returned (.agg (tdL t').toArray) ∧ Below u.heap.size u w') := fun r u hu => by rw [← ht']; exact told_any r s' u hu
      have HWt : Hid (∀ r u, Pm u r s' → Calls Try.prog 20 #[.pointer (some ⟨r, 0, none⟩)] u fun e w' => e = .returned (.bool wt) ∧ w' = u) := fun r u hu => by rw [← hwt]; exact waits_any r s' u hu
      clear ht' hwt
      by_cases hkm : (k : Int) < m
      · have hkf : k < fs.length := by have := HV.out.2.2.2; omega
        obtain ⟨zs, hzs⟩ : ∃ zs, fs[k]? = some zs := ⟨_, List.getElem?_eq_getElem hkf⟩
        obtain ⟨ad2, v', hix2, hab2, hac2, hsx2⟩ := (HV.out.2.2.1.below HL6.out.be (Nat.le_refl _)).at k zs hzs
        have HS2 : Hid (Sx w.heap.size w6 v' zs) := hsx2
        clear hkf hzs hab2 hsx2
        go_upto_region 12 with (go_at_call 28; refine (junk_any w.heap.size q s v' zs _ HL6.out.pq HOk.out.1 HOk.out.2.2 HS2.out HL6.out.be.size HL6.out.lo.2.1).mono ?_; rintro e w7 ⟨rfl, hp7, hg7⟩; have HL7 : Hid _ := HL6.out.junk hp7 hg7; clear hp7 hg7)
        clear hix2 hac2 HS2 HL6
        go_upto_region 13 with (first
          | (refine step_ldat 46 _ rfl rfl ⟨bs, 0, none⟩ (by rfl) (spC z) _ Try.underlying46 rfl (by kernel_rfl) (HL7.out.at bs (spC z) 46 (by simp)) ?_)
          | (go_at_call 13; refine (HDo.out p X _ HL7.out.pp HL7.out.bx HL7.out.ne.2.1).mono ?_; rintro e w8 ⟨rfl, hp8, ho8, hg8⟩; have HL8 : Hid _ := HL7.out.doesP hp8 ho8 hg8; have HZ8 : Hid _ := HL8.out.two (pkC pk0) (smL sm0) 44 48; have HB8 : Hid (w.heap.size ≤ w8.heap.size ∧ bs < w8.heap.size) := ⟨HL8.out.be.size, (HL8.out.bl (bs, spC z, 46) (by simp)).1.lt⟩; clear hp8 ho8 hg8)
          | (refine step_fown (by rfl) _ _ rfl w8.heap.size (pkC pk) (by rfl) (by rfl) [(w8.heap.size + 1, smL sm0, 48)] _ HZ8.out ?_ HB8.out.1 (by kernel_rfl) rfl (pkC_one _) ?_; (have l1 := HB8.out; intro b hb; simp at hb; rcases hb with rfl | rfl <;> (simp; try omega)); intro w9 hl9; have HL9 : Hid _ := hl9; clear hl9)
          | (refine step_fown (by rfl) _ _ rfl (w8.heap.size + 1) (smL mm) (by rfl) (by rfl) [] _ HL9.out ?_ (Nat.le_succ_of_le HB8.out.1) (by kernel_rfl) rfl (smL_one _) ?_; (have l1 := HB8.out; intro b hb; simp at hb; rcases hb with rfl | rfl <;> (simp; try omega)); intro w10 hl10; have HL10 : Hid _ := hl10; clear hl10))
        obtain ⟨b8, hb8⟩ : ∃ b, w8.heap.size = b := ⟨_, rfl⟩
        rw [hb8] at HL10 HB8 ⊢
        clear HL8 HZ8 HL9 HL7 hb8
        go_upto_region 14 with (first
          | (refine step_ldat 46 _ rfl rfl ⟨bs, 0, none⟩ (by rfl) (spC z) _ Try.underlying46 rfl (by kernel_rfl) (HL10.out.at bs (spC z) 46 (by simp)) ?_)
          | (go_at_call 13; refine (HDo.out q Y _ HL10.out.pq HL10.out.byy HL10.out.ne.2.2.2.2.1).mono ?_; rintro e w11 ⟨rfl, hp11, ho11, hg11⟩; have HL11 : Hid _ := HL10.out.doesQ hp11 ho11 hg11; have HZ11 : Hid _ := HL11.out.two (pkC pk0) (smL sm0) 44 48; have HB11 : Hid (w.heap.size ≤ w11.heap.size ∧ bs < w11.heap.size ∧ b8 + 1 < w11.heap.size) := ⟨HL11.out.be.size, (HL11.out.bl (bs, spC z, 46) (by simp)).1.lt, (HL11.out.bl (b8 + 1, smL mm, 48) (by simp)).1.lt⟩; clear hp11 ho11 hg11)
          | (refine step_fown (by rfl) _ _ rfl w11.heap.size (pkC pk) (by rfl) (by rfl) [(w11.heap.size + 1, smL sm0, 48)] _ HZ11.out ?_ HB11.out.1 (by kernel_rfl) rfl (pkC_one _) ?_; (have l1 := HB11.out; intro b hb; simp at hb; rcases hb with rfl | rfl | rfl | rfl <;> (simp; try omega)); intro w12 hl12; have HL12 : Hid _ := hl12; clear hl12)
          | (refine step_fown (by rfl) _ _ rfl (w11.heap.size + 1) (smL mm) (by rfl) (by rfl) [] _ HL12.out ?_ (Nat.le_succ_of_le HB11.out.1) (by kernel_rfl) rfl (smL_one _) ?_; (have l1 := HB11.out; intro b hb; simp at hb; rcases hb with rfl | rfl | rfl | rfl <;> (simp; try omega)); intro w13 hl13; have HL13 : Hid _ := hl13; clear hl13))
        obtain ⟨b11, hb11⟩ : ∃ b, w11.heap.size = b := ⟨_, rfl⟩
        rw [hb11] at HL13 HB11 ⊢
        clear HL11 HZ11 HL12 HL10 hb11
        clear HB8 HB11 HDo
        go_wp2_with (first
          | (refine step_ldatW (by rfl) 44 _ rfl ⟨b8, 0, none⟩ (by rfl) (pkC pk) _ Try.underlying44 rfl (by kernel_rfl) (HL13.out.at b8 (pkC pk) 44 (by simp)) ?_)
          | (refine step_ldatW (by rfl) 44 _ rfl ⟨b11, 0, none⟩ (by rfl) (pkC pk) _ Try.underlying44 rfl (by kernel_rfl) (HL13.out.at b11 (pkC pk) 44 (by simp)) ?_)
          | (go_at_call 15; refine (same_any pk _).mono ?_; rintro e w14 ⟨rfl, hb14⟩; have HL14 : Hid _ := HL13.out.step hb14; clear hb14)
          | (refine step_ldatW (by rfl) 48 _ rfl ⟨b8 + 1, 0, none⟩ (by rfl) (smL mm) _ Try.underlying48 rfl (by kernel_rfl) (HL14.out.at (b8 + 1) (smL mm) 48 (by simp)) ?_)
          | (refine step_ldatW (by rfl) 48 _ rfl ⟨b11 + 1, 0, none⟩ (by rfl) (smL mm) _ Try.underlying48 rfl (by kernel_rfl) (HL14.out.at (b11 + 1) (smL mm) 48 (by simp)) ?_)
          | (refine step_valW (by rfl) _ (ne_sm mm _ _ _ _ rfl (by rfl) (by rfl) _) ?_)
          | (refine step_valW (by rfl) _ (ne_td t' _ _ _ _ rfl (by rfl) (by rfl) _) ?_)
          | (go_at_call 19; refine (HT.out q _ HL15.out.pq).mono ?_; rintro e w16 ⟨rfl, hb16⟩; have HL16 : Hid _ := HL15.out.step hb16; clear hb16; have cx : w16.cell? ⟨X, 0, none⟩ = some (.int .u64 org') := HL16.out.bx.cell 0; have cy : w16.cell? ⟨Y, 0, none⟩ = some (.int .u64 org') := HL16.out.byy.cell 0)
          | (go_at_call 19; refine (HT.out p _ HL14.out.pp).mono ?_; rintro e w15 ⟨rfl, hb15⟩; have HL15 : Hid _ := HL14.out.step hb15; clear hb15)
          | (go_at_call 20; refine (HWt.out _ _ ?_).mono ?_; (first | exact HL16.out.pp | exact HL16.out.pq); rintro e wq ⟨rfl, hwq⟩; rw [hwq]; clear hwq))
        go_roundw
        case rel => exact ⟨k + 1, s', org', by go_num, by omega, ⟨HL16.out.pp, HL16.out.pq, HL16.out.bx, HL16.out.byy, HL16.out.ne, HL16.out.lo, HL16.out.be, HE.out.1, HE.out.2.1, HE.out.2.2⟩⟩
        case measure => simp [intOf]; omega
      · go_upto_region 12 with fail
        have HL7 : Hid _ := HL6.out
        obtain ⟨w7, hw7⟩ : ∃ w7, w6 = w7 := ⟨_, rfl⟩
        subst hw7
        clear HL6
        go_upto_region 13 with (first
          | (refine step_ldat 46 _ rfl rfl ⟨bs, 0, none⟩ (by rfl) (spC z) _ Try.underlying46 rfl (by kernel_rfl) (HL7.out.at bs (spC z) 46 (by simp)) ?_)
          | (go_at_call 13; refine (HDo.out p X _ HL7.out.pp HL7.out.bx HL7.out.ne.2.1).mono ?_; rintro e w8 ⟨rfl, hp8, ho8, hg8⟩; have HL8 : Hid _ := HL7.out.doesP hp8 ho8 hg8; have HZ8 : Hid _ := HL8.out.two (pkC pk0) (smL sm0) 44 48; have HB8 : Hid (w.heap.size ≤ w8.heap.size ∧ bs < w8.heap.size) := ⟨HL8.out.be.size, (HL8.out.bl (bs, spC z, 46) (by simp)).1.lt⟩; clear hp8 ho8 hg8)
          | (refine step_fown (by rfl) _ _ rfl w8.heap.size (pkC pk) (by rfl) (by rfl) [(w8.heap.size + 1, smL sm0, 48)] _ HZ8.out ?_ HB8.out.1 (by kernel_rfl) rfl (pkC_one _) ?_; (have l1 := HB8.out; intro b hb; simp at hb; rcases hb with rfl | rfl <;> (simp; try omega)); intro w9 hl9; have HL9 : Hid _ := hl9; clear hl9)
          | (refine step_fown (by rfl) _ _ rfl (w8.heap.size + 1) (smL mm) (by rfl) (by rfl) [] _ HL9.out ?_ (Nat.le_succ_of_le HB8.out.1) (by kernel_rfl) rfl (smL_one _) ?_; (have l1 := HB8.out; intro b hb; simp at hb; rcases hb with rfl | rfl <;> (simp; try omega)); intro w10 hl10; have HL10 : Hid _ := hl10; clear hl10))
        obtain ⟨b8, hb8⟩ : ∃ b, w8.heap.size = b := ⟨_, rfl⟩
        rw [hb8] at HL10 HB8 ⊢
        clear HL8 HZ8 HL9 HL7 hb8
        go_upto_region 14 with (first
          | (refine step_ldat 46 _ rfl rfl ⟨bs, 0, none⟩ (by rfl) (spC z) _ Try.underlying46 rfl (by kernel_rfl) (HL10.out.at bs (spC z) 46 (by simp)) ?_)
          | (go_at_call 13; refine (HDo.out q Y _ HL10.out.pq HL10.out.byy HL10.out.ne.2.2.2.2.1).mono ?_; rintro e w11 ⟨rfl, hp11, ho11, hg11⟩; have HL11 : Hid _ := HL10.out.doesQ hp11 ho11 hg11; have HZ11 : Hid _ := HL11.out.two (pkC pk0) (smL sm0) 44 48; have HB11 : Hid (w.heap.size ≤ w11.heap.size ∧ bs < w11.heap.size ∧ b8 + 1 < w11.heap.size) := ⟨HL11.out.be.size, (HL11.out.bl (bs, spC z, 46) (by simp)).1.lt, (HL11.out.bl (b8 + 1, smL mm, 48) (by simp)).1.lt⟩; clear hp11 ho11 hg11)
          | (refine step_fown (by rfl) _ _ rfl w11.heap.size (pkC pk) (by rfl) (by rfl) [(w11.heap.size + 1, smL sm0, 48)] _ HZ11.out ?_ HB11.out.1 (by kernel_rfl) rfl (pkC_one _) ?_; (have l1 := HB11.out; intro b hb; simp at hb; rcases hb with rfl | rfl | rfl | rfl <;> (simp; try omega)); intro w12 hl12; have HL12 : Hid _ := hl12; clear hl12)
          | (refine step_fown (by rfl) _ _ rfl (w11.heap.size + 1) (smL mm) (by rfl) (by rfl) [] _ HL12.out ?_ (Nat.le_succ_of_le HB11.out.1) (by kernel_rfl) rfl (smL_one _) ?_; (have l1 := HB11.out; intro b hb; simp at hb; rcases hb with rfl | rfl | rfl | rfl <;> (simp; try omega)); intro w13 hl13; have HL13 : Hid _ := hl13; clear hl13))
        obtain ⟨b11, hb11⟩ : ∃ b, w11.heap.size = b := ⟨_, rfl⟩
        rw [hb11] at HL13 HB11 ⊢
        clear HL11 HZ11 HL12 HL10 hb11
        clear HB8 HB11 HDo
        go_wp2_with (first
          | (refine step_ldatW (by rfl) 44 _ rfl ⟨b8, 0, none⟩ (by rfl) (pkC pk) _ Try.underlying44 rfl (by kernel_rfl) (HL13.out.at b8 (pkC pk) 44 (by simp)) ?_)
          | (refine step_ldatW (by rfl) 44 _ rfl ⟨b11, 0, none⟩ (by rfl) (pkC pk) _ Try.underlying44 rfl (by kernel_rfl) (HL13.out.at b11 (pkC pk) 44 (by simp)) ?_)
          | (go_at_call 15; refine (same_any pk _).mono ?_; rintro e w14 ⟨rfl, hb14⟩; have HL14 : Hid _ := HL13.out.step hb14; clear hb14)
          | (refine step_ldatW (by rfl) 48 _ rfl ⟨b8 + 1, 0, none⟩ (by rfl) (smL mm) _ Try.underlying48 rfl (by kernel_rfl) (HL14.out.at (b8 + 1) (smL mm) 48 (by simp)) ?_)
          | (refine step_ldatW (by rfl) 48 _ rfl ⟨b11 + 1, 0, none⟩ (by rfl) (smL mm) _ Try.underlying48 rfl (by kernel_rfl) (HL14.out.at (b11 + 1) (smL mm) 48 (by simp)) ?_)
          | (refine step_valW (by rfl) _ (ne_sm mm _ _ _ _ rfl (by rfl) (by rfl) _) ?_)
          | (refine step_valW (by rfl) _ (ne_td t' _ _ _ _ rfl (by rfl) (by rfl) _) ?_)
          | (go_at_call 19; refine (HT.out q _ HL15.out.pq).mono ?_; rintro e w16 ⟨rfl, hb16⟩; have HL16 : Hid _ := HL15.out.step hb16; clear hb16; have cx : w16.cell? ⟨X, 0, none⟩ = some (.int .u64 org') := HL16.out.bx.cell 0; have cy : w16.cell? ⟨Y, 0, none⟩ = some (.int .u64 org') := HL16.out.byy.cell 0)
          | (go_at_call 19; refine (HT.out p _ HL14.out.pp).mono ?_; rintro e w15 ⟨rfl, hb15⟩; have HL15 : Hid _ := HL14.out.step hb15; clear hb15)
          | (go_at_call 20; refine (HWt.out _ _ ?_).mono ?_; (first | exact HL16.out.pp | exact HL16.out.pq); rintro e wq ⟨rfl, hwq⟩; rw [hwq]; clear hwq))
        go_roundw
        case rel => exact ⟨k + 1, s', org', by go_num, by omega, ⟨HL16.out.pp, HL16.out.pq, HL16.out.bx, HL16.out.byy, HL16.out.ne, HL16.out.lo, HL16.out.be, HE.out.1, HE.out.2.1, HE.out.2.2⟩⟩
        case measure => simp [intOf]; omega
    · go_wp2_with fail
      rw [hQ.out]
      go_ret
      exact ⟨rfl, HK.out.be⟩
end Go.Proofs.Ytlggademcmkihaa
