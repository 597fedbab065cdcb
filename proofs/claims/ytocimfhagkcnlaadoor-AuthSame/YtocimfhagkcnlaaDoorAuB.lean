/- Auth: Digest of a SHA key walked. -/
import Derived.Test.YtocimfhagkcnlaaDoorAuA
import Derived.Test.YtocimfhagkcnlaaDoorAE
import Derived.Test.YtocimfhagkcnlaaDoorKL
import Derived.Test.YtocimfhagkcnlaaDoorShelf
namespace Go.Proofs.YtocimfhagkcnlaaDoor
open Go Go.RowKit Go.Sort
set_option linter.unusedVariables false
theorem below_thru' {a b c : World} (h : Below a.heap.size a b) (k : Below b.heap.size b c) : Below a.heap.size a c := h.trans (k.mono h.size)
theorem back_bytes {xs : List Int} (h : okb xs) : (Lib.bytesOf xs).map (fun b => (b.toNat : Int)) = xs := by
  unfold Lib.bytesOf
  rw [List.map_map]
  have : ∀ a ∈ xs, ((fun b : UInt8 => (b.toNat : Int)) ∘ fun n : Int => UInt8.ofNat n.toNat) a = a := fun a ha => by
    have := h a ha
    simp only [Function.comp, UInt8.toNat_ofNat']
    omega
  exact (List.map_congr_left this).trans (List.map_id' xs)
theorem bytes_inj {xs ys : List Int} (h : okb xs) (k : okb ys) (e : Lib.bytesOf xs = Lib.bytesOf ys) : xs = ys := by
  rw [← back_bytes h, ← back_bytes k, e]
theorem sv_holds {N : Nat} {w : World} {v : Value} {bs : List Int} (h : Sv N w v bs) : Lib.HoldsBytes w v (Lib.bytesOf bs) := by
  obtain ⟨ao, cap, h1, h2, h3, h4, h5⟩ := h
  refine ⟨ao, cap, by rw [Lib.bytesOf_length]; exact h1, fun hn => ?_, fun a ha i x hx => ?_⟩
  · have := h3 hn
    have e : bs = [] := List.length_eq_zero_iff.1 (by omega)
    rw [e]; rfl
  · have hi : i < bs.length := by rw [← Lib.bytesOf_length bs]; exact (List.getElem?_eq_some_iff.1 hx).1
    obtain ⟨ad, k1, _, k3⟩ := h4 i hi
    rw [ha] at k1
    injection k1 with k1
    subst k1
    rw [k3]
    unfold Lib.bytesOf at hx
    rw [List.getElem?_map, List.getElem?_eq_getElem hi] at hx
    injection hx with hx
    rw [List.getD_eq_getElem?_getD, List.getElem?_eq_getElem hi, ← hx]
    have := h5 bs[i] (List.getElem_mem hi)
    simp only [Option.getD_some, UInt8.toNat_ofNat']
    congr 3
    omega
theorem fresh_sv {B : Nat} {w : World} {v : Value} {xs : List Int} (h : Lib.FreshBytes B w v (Lib.bytesOf xs)) (ok : okb xs) : Sv w.heap.size w v xs := by
  obtain ⟨g, cap, zs, h1, h2, h3, h4, h5, h6, h7, h8, _⟩ := h
  rw [Lib.bytesOf_length] at h1 h3 h7
  have okz : okb (zs.take xs.length) := fun b hb => h6 b (List.mem_of_mem_take hb)
  have e := bytes_inj okz ok h7
  refine ⟨some ⟨g, 0, none⟩, cap, h1, h3, (fun q => by cases q), fun k hk => ⟨_, rfl, ?_, ?_⟩, ok⟩
  · have hc := h8 k (by omega)
    rcases Nat.lt_or_ge g w.heap.size with q | q
    · exact q
    · unfold World.cell? at hc
      simp [Array.getElem?_eq_none q] at hc
  · have hc := h8 k (by omega)
    have e1 : (⟨g, 0, none⟩ : Addr).add k = ⟨g, k, none⟩ := by unfold Addr.add; split <;> simp_all
    rw [e1, hc]
    have : zs.getD k 0 = xs.getD k 0 := by
      rw [← e, List.getD_eq_getElem?_getD, List.getD_eq_getElem?_getD, List.getElem?_take_of_lt hk]
    rw [this]
set_option maxRecDepth 20000 in
set_option maxHeartbeats 1000000 in
theorem digestS_any (id : Int) (vk vb : Value) (ks bs : List Int) (w : World) (hk : Sv w.heap.size w vk ks) (hb : Sv w.heap.size w vb bs) (hid : 1 ≤ id ∧ id ≤ 65535) (hkl : 1 ≤ ks.length ∧ ks.length ≤ 32) (hbl : bs.length ≤ 100000000) (hkt : Kt w) : Calls Tryd.prog 17 #[.agg #[.int .i64 id, .int .i64 1, vk], vb] w fun e w' => ∃ v', e = .returned (.tuple #[v', .int .i64 0]) ∧ Hid (Own w' w.heap.size v' ((sha (ks ++ bs)).take 20)) ∧ Hid (Below w.heap.size w w') := by
  have HK : Hid (Sv w.heap.size w vk ks ∧ Sv w.heap.size w vb bs ∧ Kt w ∧ bs.length ≤ 100000000 ∧ ks.length ≤ 32) := ⟨hk, hb, hkt, hbl, hkl.2⟩
  obtain ⟨ao, cap, hv, _⟩ := hk
  obtain ⟨n, hn⟩ : ∃ n, ks.length = n := ⟨_, rfl⟩
  rw [hn] at hv hkl
  subst hv
  obtain ⟨bo, bcap, hvb, _⟩ := hb
  obtain ⟨bn, hbn⟩ : ∃ bn, bs.length = bn := ⟨_, rfl⟩
  rw [hbn] at hvb
  subst hvb
  have HC : Hid (∀ u, Calls Tryd.prog 19 #[.agg #[.int .i64 id, .int .i64 1, .slice ao n cap]] u fun e w' => e = .returned (.int .i64 0) ∧ Below u.heap.size u w') := fun u => by
    have := checkKey_any id 1 ao n cap u
    have e : ckK id 1 n = 0 := by unfold ckK; rw [if_neg (by omega), if_pos (.inl ⟨rfl, hkl.1, hkl.2⟩)]
    rw [e] at this
    exact this
  clear hid hkl hbl hkt hn hbn
  go_enter Tryd.func17, Tryd.ntmps17
  refine post_hid fun Q hQ => ?_
  go_upto_region 1 with (refine step_boxL (by rfl) 33 _ rfl [.int .i64 id, .int .i64 1, .slice ao n cap].toArray (by rfl) (fun u => by rfl) ?_; intro W0 g0 H0)
  have HG : Hid (Below w.heap.size w W0 ∧ Bk g0 W0 [.int .i64 id, .int .i64 1, .slice ao n cap].toArray 33) := ⟨H0.out.be, H0.out.bk⟩
  have HS0 : Hid (∀ j u, [Value.int .i64 id, .int .i64 1, .slice ao n cap][j]? = some u → W0.cell? ((⟨g0, 0, none⟩ : Addr).add j) = some u) := cells_of HG.out.2
  clear H0
  go_upto_region 7 with (first
    | (refine step_ldat 33 _ rfl rfl ⟨g0, 0, none⟩ (by rfl) [.int .i64 id, .int .i64 1, .slice ao n cap] _ Tryd.underlying33 rfl (by kernel_rfl) HS0.out ?_)
    | (go_at_call 19; refine (HC.out _).mono ?_; rintro e W1 ⟨rfl, hb1⟩; have H1 : Hid (Below w.heap.size w W1 ∧ Bk g0 W1 [.int .i64 id, .int .i64 1, .slice ao n cap].toArray 33) := ⟨below_thru' HG.out.1 hb1, HG.out.2.kept (hb1.block _ HG.out.2.lt)⟩; have q1 : W1.cell? ⟨g0, 1, none⟩ = some (.int .i64 1) := H1.out.2.cell 1; have q2 : W1.cell? ⟨g0, 2, none⟩ = some (.slice ao n cap) := H1.out.2.cell 2; clear hb1))
  have HJ : Hid (∀ u g, Below w.heap.size w u → Bk g u [Value.slice ao n cap, .slice bo bn bcap].toArray 23 → Calls Tryd.prog 43 #[.slice (some ⟨g, 0, none⟩) 2 2, .slice none 0 0] u fun e w' => ∃ v', e = .returned v' ∧ Hid (Sv w'.heap.size w' v' (ks ++ bs) ∧ Below u.heap.size u w')) := fun u g hu hg => by
    have h1 := sv_holds (HK.out.1.below hu (Nat.le_refl _))
    have h2 := sv_holds (HK.out.2.1.below hu (Nat.le_refl _))
    have okk : okb ks := by obtain ⟨_, _, _, _, _, _, h⟩ := HK.out.1; exact h
    have okb' : okb bs := by obtain ⟨_, _, _, _, _, _, h⟩ := HK.out.2.1; exact h
    have hp : Lib.PartsAt u ⟨g, 0, none⟩ [.slice ao n cap, .slice bo bn bcap] [Lib.bytesOf ks, Lib.bytesOf bs] := by
      refine ⟨rfl, fun i v hv => cells_of hg i v hv, fun i v l hv hl => ?_⟩
      match i with
      | 0 => simp at hv hl; rw [← hv, ← hl]; exact h1
      | 1 => simp at hv hl; rw [← hv, ← hl]; exact h2
      | i + 2 => simp at hv
    refine (Tryd.bytes_Join_many g 0 2 2 _ _ (.slice none 0 0) [] u rfl (by decide) hp (by decide) ⟨none, 0, rfl, fun _ => rfl, fun a ha => by cases ha⟩ (by decide) ?_).mono ?_
    · have := HK.out.2.2.2
      simp [Lib.lens, Lib.bytesOf_length]
      omega
    · rintro e w' ⟨v', rfl, f1, f2⟩
      refine ⟨v', rfl, ?_, f2⟩
      have e1 : Lib.join [Lib.bytesOf ks, Lib.bytesOf bs] [] = Lib.bytesOf (ks ++ bs) := by
        simp [Lib.join, List.intercalate, Lib.bytesOf]
      rw [e1] at f1
      exact fresh_sv f1 (okb_app okk okb')
  have HS : Hid (∀ u v, Sv u.heap.size u v (ks ++ bs) → Kt u → Calls Tryd.prog 10 #[v] u fun e w' => e = .returned (.agg (by' (sha (ks ++ bs))).toArray) ∧ Below u.heap.size u w') := fun u v hv hk => sha_any v (ks ++ bs) u hv (by rw [List.length_append]; have := HK.out.2.2.2; omega) hk
  have HSl : Hid ((sha (ks ++ bs)).length = 32) := by show _ = _; unfold sha shE; split <;> exact bB_len _ _
  obtain ⟨D, hD⟩ : ∃ D, sha (ks ++ bs) = D := ⟨_, rfl⟩
  have HD : Hid (sha (ks ++ bs) = D) := hD
  rw [hD] at HS HSl
  clear hD
  have hsz : (by' D).toArray.size = 32 := by rw [List.size_toArray, by_len]; exact HSl.out
  have hkt1 : Kt W1 := HK.out.2.2.1.below H1.out.1 HK.out.2.2.1.1
  obtain ⟨z32, hz32⟩ : ∃ z : Array Value, z = (by' (List.replicate 32 0)).toArray := ⟨_, rfl⟩
  have hal : ∀ u : World, (Instr.alloc 26 true (.tuple #[])).run Tryd.prog u = .ok (.pointer (some ⟨u.heap.size, 0, none⟩)) (u.alloc (.cells z32 26)) := fun u => by rw [hz32]; kernel_rfl
  have hzs : z32.size = 32 := by rw [hz32]; rfl
  have hone : (by' D).toArray.all (·.oneCell') = true := by
    rw [List.all_toArray]
    rw [List.all_eq_true]
    intro x hx
    unfold by' at hx
    obtain ⟨y, _, rfl⟩ := List.mem_map.1 hx
    rfl
  clear hz32
  go_upto_region 8 with (first
    | (go_at_call 43; have hbp : Below w.heap.size w _ := below_thru' H1.out.1 ((Below.refl W1.heap.size W1).alloc (Nat.le_refl _) (.cells [Value.slice ao n cap, .slice bo bn bcap].toArray 23)); refine (HJ.out _ _ hbp (Bk.new _ _ _)).mono ?_; rintro e W2 ⟨x2, rfl, h2⟩; have hb2 : Below w.heap.size w W2 := below_thru' hbp h2.out.2)
    | (go_at_call 10; refine (HS.out _ _ h2.out.1 (HK.out.2.2.1.below hb2 HK.out.2.2.1.1)).mono ?_; rintro e W3 ⟨rfl, hb3⟩)
    | (refine step_alL (by rfl) 26 rfl z32 hal ?_; intro W4 g4 H4)
    | (refine step_stL (by rfl) _ _ rfl g4 (by' D).toArray (by rfl) (by rfl) z32 (by rw [hsz]; kernel_rfl) (by rw [hzs, hsz]) hone H4.out.bk ?_; intro W5 H5))
  have H6 : Hid (Below w.heap.size w W5 ∧ Bk g4 W5 (by' D).toArray 26) := by
    have hb := H5.out.below H4.out.be H4.out.be.size (Nat.le_of_eq H4.out.at'.symm)
    exact ⟨below_thru' (below_thru' hb2 hb3) hb, H5.out.bk⟩
  have HCl : Hid (Calls Tryd.prog 44 #[.slice (some ⟨g4, 0, none⟩) 20 32] W5 fun e w' => ∃ v', e = .returned v' ∧ w'.ownsRow W5.heap.size 5 1 v' 20 ((D.take 20).map (Value.int .u8)) ∧ v' ≠ .slice none 0 0 ∧ Below W5.heap.size W5 w') := by
    refine Tryd.bytes_Clone_at ⟨g4, 0, none⟩ 20 32 (D.take 20) W5 (by rw [List.length_take, HSl.out]; rfl) (by decide) (fun i hi => ?_)
    have hi' : i < D.length := by rw [HSl.out]; omega
    refine cells_of H6.out.2 i _ ?_
    unfold by'
    rw [List.getElem?_map, List.getElem?_eq_getElem hi', List.getD_eq_getElem?_getD, List.getElem?_take_of_lt hi, List.getElem?_eq_getElem hi']
    rfl
  clear H4 H5 hb2 hb3 hbp q1 q2 hsz hzs hone hkt1
  go_wp2_with (go_at_call 44; refine HCl.out.mono ?_; rintro e W6 ⟨v6, rfl, ho, hne, hb6⟩)
  rw [hQ.out]
  go_ret2
  refine ⟨v6, rfl, ?_, below_thru' H6.out.1 hb6⟩
  rw [HD.out]
  have hl : (D.take 20).length = 20 := by rw [List.length_take, HSl.out]; rfl
  have ho2 : Own W6 W5.heap.size v6 (D.take 20) := by unfold Own U; rw [hl]; exact ho
  exact ho2.mono H6.out.1.size
end Go.Proofs.YtocimfhagkcnlaaDoor
