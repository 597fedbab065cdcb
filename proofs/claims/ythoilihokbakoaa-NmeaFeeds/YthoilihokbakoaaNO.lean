/- The law NmeaPieces, walked. -/
import Derived.Test.YthoilihokbakoaaNN
namespace Go.Proofs.Ythoilihokbakoaa
open Go Go.RowKit
theorem Ln.new2 {w w1 w2 : World} (h1 : Ln w1 w.heap.size none 0) (hb1 : Below w.heap.size w w1) (h2 : Ln w2 w1.heap.size none 0) (hb2 : Below w1.heap.size w1 w2) (l : List (List UInt8)) :
    PI l w ((w2.alloc (.cells #[] 5)).alloc (.cells #[] 9)) w.heap.size w1.heap.size w2.heap.size 0 (.slice (some ⟨w2.heap.size, 0, none⟩) 0 0) (.slice (some ⟨w2.heap.size + 1, 0, none⟩) 0 0) := by
  have e1 := h1.lt
  have e2 := h2.lt
  have b2 : Below w2.heap.size w2 ((w2.alloc (.cells #[] 5)).alloc (.cells #[] 9)) := ((Below.refl _ _).alloc (Nat.le_refl _) _).alloc (by simp) _
  have hb := hb1.size
  refine ⟨(hb1.trans (hb2.mono hb1.size)).trans (b2.mono (by omega)), ?_, h2.below b2 e2, ?_, ?_, Nat.le_refl _, hb1.size, by omega, by omega, e2, by simp; omega⟩
  · rw [Sk_zero]; exact (h1.below hb2 e1).below b2 (by omega)
  · have := (Own.made w2 w2.heap.size (Nat.le_refl _)).alloc (.cells #[] 9)
    simpa [ib] using this
  · rw [Sk_zero]
    have := OwT.fresh (w2.alloc (.cells #[] 5)) w2.heap.size (by simp)
    simpa using this
set_option maxRecDepth 4000 in
set_option maxHeartbeats 4000000 in
theorem NmeaPieces_row (ao : Option Addr) (L cap : Nat) (l : List (List UInt8)) (w : World) (hL : L = l.length) (hp : Pc w.heap.size w ao l) (hl : l.length ≤ 70368744177664) :
    Calls Try.prog 5 #[.slice ao L cap] w fun e w' => e = .returned (.bool true) ∧ Below w.heap.size w w' := by
  have HP : Hid (L = l.length ∧ Pc w.heap.size w ao l) := ⟨hL, hp⟩
  have HH : Hid (Calls Try.prog 7 #[.slice ao L cap] w fun e w' => HvR l e ∧ w' = w) := heavy_any _ L cap ao l w hL hp hl
  have hLi : (L : Int) ≤ 70368744177664 := by omega
  clear hp hL hl
  go_enter Try.func5, Try.ntmps5
  go_wp2_with fail
  refine HH.out.mono ?_
  rintro e w' ⟨⟨B, rfl, hB⟩, hw'⟩
  rw [hw']
  clear hw' HH
  cases B with
  | true =>
    go_wp2
    go_ret
    exact ⟨rfl, Below.refl _ _⟩
  | false =>
    have HS : Hid (l.length + sumL l ≤ 65536) := hB rfl
    clear hB
    go_wp2_with fail
    refine (new_any _).mono ?_
    rintro e w1 ⟨rfl, hn1, hb1⟩
    go_wp2_with fail
    refine (new_any _).mono ?_
    rintro e w2 ⟨rfl, hn2, hb2⟩
    have HI : Hid (PI l w ((w2.alloc (.cells #[] 5)).alloc (.cells #[] 9)) w.heap.size w1.heap.size w2.heap.size 0 (.slice (some ⟨w2.heap.size, 0, none⟩) 0 0) (.slice (some ⟨w2.heap.size + 1, 0, none⟩) 0 0)) := Ln.new2 hn1 hb1 hn2 hb2 l
    clear hn1 hb1 hn2 hb2
    go_wp2
    obtain ⟨p, hpe⟩ : ∃ p, p = w.heap.size := ⟨_, rfl⟩
    obtain ⟨q, hqe⟩ : ∃ q, q = w1.heap.size := ⟨_, rfl⟩
    obtain ⟨B, hBe⟩ : ∃ B, B = w2.heap.size := ⟨_, rfl⟩
    have HI : Hid (PI l w ((w2.alloc (.cells #[] 5)).alloc (.cells #[] 9)) p q B 0 (.slice (some ⟨w2.heap.size, 0, none⟩) 0 0) (.slice (some ⟨w2.heap.size + 1, 0, none⟩) 0 0)) := by rw [hpe, hqe, hBe]; exact HI
    rw [← hpe, ← hqe]
    clear hpe hqe hBe
    go_loopw [5, 6, 7] (fun a o i wr => ∃ (k : Nat) (va vo : Value), va = a ∧ vo = o ∧ i = .int .i64 (k : Int) ∧ Hid (k ≤ L ∧ PI l w wr p q B k va vo)) (fun _ _ i _ => L - (intOf i).toNat)
    case atStart => exact ⟨0, _, _, rfl, rfl, rfl, Nat.zero_le _, HI.out⟩
    case round =>
      obtain ⟨k, va, vo, rfl, rfl, rfl, H⟩ := hrel
      clear HI
      by_cases hlt : k < L
      · have hlti : (k : Int) < L := by omega
        obtain ⟨ad, bo, m, cp, b, hao, had, hlk, hm, hcl, hsv⟩ := (HP.out.2.below H.out.2.bl (Nat.le_refl _)).get (k := k) (by have := HP.out.1; omega)
        have hix := idx_p L cap k hao hlti
        have hbl : b.length ≤ 65536 := by have := sumL_mem l k b hlk; have := HS.out; omega
        have hlo : (Sk l k).lost ≤ 65536 := by have := Sk_grow l k; have := HS.out; omega
        have hfl : (l.take k).flatten.length ≤ 65536 := by rw [flat_len]; have := sumL_le l k; have := HS.out; omega
        have hou : (Sk l k).out.length ≤ 65536 := by have := Sk_grow l k; have := HS.out; omega
        have HX : Hid (l[k]? = some b ∧ m = b.length ∧ ad.block < w.heap.size ∧ Sv w.heap.size wr (.slice bo m cp) (ib b) ∧ (Sk l k).lost ≤ 65536 ∧ b.length ≤ 65536 ∧ (l.take k).flatten.length ≤ 65536 ∧ (Sk l k).out.length ≤ 65536) := ⟨hlk, hm, had, hsv, hlo, hbl, hfl, hou⟩
        clear hao had hlk hm hsv hbl hlo hfl hou
        go_wp2_with (at_builtin; refine wpList_app8 (by rfl) _ _ 31 (by rfl) Try.underlying31 B w.heap.size _ _ (ib (l.take k).flatten) (ib b) (by rfl) (by rfl) H.out.2.al HX.out.2.2.2.1 (by rw [ib_len, ib_len]; have := HX.out.2.2.2.2.2.1; have := HX.out.2.2.2.2.2.2.1; omega) H.out.2.sB ?_; intro va2 w3 ho3 hg3 hv3; have hcl3 : w3.cell? (ad.add k) = some (.slice bo m cp) := hg3.cell hcl (by rw [add_block]; intro e; have := H.out.2.al.lt' _ e.symm; have := HX.out.2.2.1; have := H.out.2.p0; have := H.out.2.pB; omega))
        have HG3 : Hid (wr.grownBy w3 va.ownBlock ∧ Own w3 B va2 (ib (l.take k).flatten ++ ib b) ∧ Below w.heap.size wr w3 ∧ Ln w3 p (Sk l k).st (Sk l k).lost ∧ OwT w3 B vo (Sk l k).out) := ⟨hg3, ho3, (H.out.2.app hg3).1, (H.out.2.app hg3).2.1, (H.out.2.app hg3).2.2.2⟩
        have HF : Hid (Calls Try.prog 9 #[.pointer (some ⟨p, 0, none⟩), .slice bo m cp] w3 (FdE ⟨(Sk l k).st, [], (Sk l k).lost⟩ b w3 p)) := feed_any _ _ p m cp bo b w3 HG3.out.2.2.2.1 HX.out.2.1 ((HX.out.2.2.2.1.below HG3.out.2.2.1 (Nat.le_refl _)).rb (Nat.le_trans H.out.2.bl.size HG3.out.2.2.1.size) H.out.2.p0) (by have := HX.out.2.2.2.2.2.1; omega) (by have := HX.out.2.2.2.2.1; omega)
        clear hg3 ho3 hv3
        refine HF.out.mono ?_
        rintro e w4 ⟨u, rfl, f4, o4, l4⟩
        have HF4 : Hid (Fq w3 w4 p ∧ OwT w4 w3.heap.size u (fdL ⟨(Sk l k).st, [], (Sk l k).lost⟩ b).out ∧ Ln w4 p (fdL ⟨(Sk l k).st, [], (Sk l k).lost⟩ b).st (fdL ⟨(Sk l k).st, [], (Sk l k).lost⟩ b).lost ∧ OwT w4 B vo (Sk l k).out ∧ (fdL ⟨(Sk l k).st, [], (Sk l k).lost⟩ b).out.length ≤ 200000 ∧ B ≤ w4.heap.size) := by
          have h1 := fdL_grow b ⟨(Sk l k).st, [], (Sk l k).lost⟩
          have h2 := HX.out.2.2.2.2.1
          have h3 := HX.out.2.2.2.2.2.1
          have h4 : opn (Sk l k).st ≤ 1 := by unfold opn; split <;> omega
          simp at h1
          exact ⟨f4, o4, l4, HG3.out.2.2.2.2.fq f4 H.out.2.pB, by omega, Nat.le_trans H.out.2.sB (Nat.le_trans HG3.out.1.size f4.size)⟩
        clear f4 o4 l4 HF
        go_wp2_with (at_builtin; refine wpList_appTs (by rfl) _ _ 29 (by rfl) Try.underlying29 B w3.heap.size vo u (Sk l k).out (fdL ⟨(Sk l k).st, [], (Sk l k).lost⟩ b).out (by rfl) (by rfl) HF4.out.2.2.2.1 HF4.out.2.1 (by have := HF4.out.2.2.2.2.1; have := HX.out.2.2.2.2.2.2.2; omega) HF4.out.2.2.2.2.2 ?_; intro vo2 w5 ho5 hg5 hv5; have HN : Hid (PI l w w5 p q B (k + 1) va2 vo2) := H.out.2.next HX.out.1 HG3.out.1 HG3.out.2.1 HF4.out.1 HF4.out.2.2.1 hg5 ho5; clear ho5 hg5 hv5)
        refine ⟨⟨k + 1, va2, vo2, rfl, rfl, by go_num, by omega, HN.out⟩, by simp [intOf]; omega⟩
      · have hlti : ¬ (k : Int) < L := by omega
        have hke : k = l.length := by have := HP.out.1; have := H.out.1; omega
        have hal : Sk l k = fdL ⟨none, [], 0⟩ l.flatten := by rw [hke]; exact Sk_all l
        have hfl : (l.take k).flatten = l.flatten := by rw [hke, List.take_length]
        obtain ⟨va2, vn, vc, hva⟩ := H.out.2.al.form
        subst hva
        have hfb : l.flatten.length ≤ 65536 := by rw [flat_len]; have := HS.out; omega
        have hOl : (Sk l k).out.length ≤ 65536 := by have := Sk_grow l k; have := HS.out; omega
        have hown : Own wr B (.slice va2 vn vc) (ib l.flatten) := by have := H.out.2.al; rw [hfl] at this; exact this
        obtain ⟨hrd, hvn⟩ := hown.rb (q := wr.heap.size) (.inr (Nat.le_refl _))
        obtain ⟨hrq, -⟩ := hown.rb (q := q) (.inl H.out.2.qB)
        have HE : Hid (Sk l k = fdL ⟨none, [], 0⟩ l.flatten ∧ l.flatten.length ≤ 65536 ∧ (Sk l k).out.length ≤ 65536 ∧ Rb wr wr.heap.size va2 l.flatten ∧ vn = l.flatten.length ∧ Rb wr q va2 l.flatten) := ⟨hal, hfb, hOl, hrd, hvn, hrq⟩
        have HR : Hid (∀ t, Calls Try.prog 10 #[.pointer (some ⟨wr.heap.size, 0, none⟩), .slice va2 vn vc] (wr.alloc (.cells #[.bool false, .string ⟨#[]⟩, .int .i64 0] t)) (RdE ⟨none, [], 0⟩ l.flatten (wr.alloc (.cells #[.bool false, .string ⟨#[]⟩, .int .i64 0] t)) wr.heap.size)) := fun t => rfeed_any none 0 wr.heap.size vn vc va2 l.flatten _ (Ld.fresh wr t) (fun cur h => by cases h) hvn (hrd.below ((Below.refl _ _).alloc (Nat.le_refl _) _) (Nat.le_refl _)) (by omega) (by omega)
        clear hke hal hfl hfb hOl hown hrd hvn hrq
        go_wp2_with fail
        refine (HR.out _).mono ?_
        rintro e w5 ⟨r1, rfl, f5, o5, l5⟩
        have b5 : Below wr.heap.size wr w5 := Fq.belowN rfl ((Below.refl _ _).alloc (Nat.le_refl _) _) f5
        rw [← HE.out.1] at o5
        have HST : Hid (Calls Try.prog 12 #[vo, r1] w5 fun e w' => e = .returned (.bool true) ∧ ∃ n, w' = w5.drewN n) := sameTexts7_any vo r1 (Sk l k).out w5 (H.out.2.ou.belowH b5).rt o5.rt (by have := HE.out.2.2.1; omega)
        have HB5 : Hid (Below wr.heap.size wr w5) := b5
        clear f5 o5 l5 b5 HR
        go_wp2_with fail
        refine HST.out.mono ?_
        rintro e w6 ⟨rfl, n6, hw6⟩
        have HB6 : Hid (Below wr.heap.size wr w6) := by rw [hw6]; exact below_drewN HB5.out n6
        clear hw6 HST HB5
        have HF : Hid (Calls Try.prog 9 #[.pointer (some ⟨q, 0, none⟩), .slice va2 vn vc] w6 (FdE ⟨none, [], 0⟩ l.flatten w6 q)) := feed_any none 0 q vn vc va2 l.flatten w6 (H.out.2.lq.below HB6.out H.out.2.lq.lt) HE.out.2.2.2.2.1 (HE.out.2.2.2.2.2.below HB6.out (Nat.le_refl _)) (by have := HE.out.2.1; omega) (by omega)
        go_wp2_with fail
        refine HF.out.mono ?_
        rintro e w7 ⟨r2, rfl, f7, o7, l7⟩
        rw [← HE.out.1] at o7 l7
        have HST : Hid (Calls Try.prog 12 #[vo, r2] w7 fun e w' => e = .returned (.bool true) ∧ ∃ n, w' = w7.drewN n) := sameTexts7_any vo r2 (Sk l k).out w7 ((H.out.2.ou.belowH HB6.out).fq f7 H.out.2.qB).rt o7.rt (by have := HE.out.2.2.1; omega)
        have HL7 : Hid (Ln w7 p (Sk l k).st (Sk l k).lost ∧ Ln w7 q (Sk l k).st (Sk l k).lost ∧ Below w.heap.size w w7) := ⟨(H.out.2.lp.below HB6.out H.out.2.lp.lt).fq f7 H.out.2.pq, l7, (H.out.2.bl.trans (HB6.out.mono H.out.2.bl.size)).trans (f7.below (Nat.le_trans H.out.2.bl.size HB6.out.size) H.out.2.q0)⟩
        clear f7 o7 l7 HF HB6
        go_wp2_with fail
        refine HST.out.mono ?_
        rintro e w8 ⟨rfl, n8, hw8⟩
        obtain ⟨n, hn⟩ : ∃ n, n = (Sk l k).lost := ⟨_, rfl⟩
        have HL8 : Hid (Below w.heap.size w w8 ∧ (Calls Try.prog 11 #[.pointer (some ⟨p, 0, none⟩)] w8 fun e w' => e = .returned (.int .i64 (n : Int)) ∧ w' = w8) ∧ (Calls Try.prog 11 #[.pointer (some ⟨q, 0, none⟩)] w8 fun e w' => e = .returned (.int .i64 (n : Int)) ∧ w' = w8)) := by
          rw [hw8, hn]
          have b8 : Below w7.heap.size w7 (w7.drewN n8) := below_drewN (Below.refl _ _) n8
          exact ⟨below_drewN HL7.out.2.2 n8, lost_any _ p _ _ (HL7.out.1.below b8 HL7.out.1.lt), lost_any _ q _ _ (HL7.out.2.1.below b8 HL7.out.2.1.lt)⟩
        clear hw8 hn HST HL7
        go_wp2_with fail
        refine HL8.out.2.1.mono ?_
        rintro e w9 ⟨rfl, hw9⟩
        rw [hw9]
        clear hw9
        go_wp2_with fail
        refine HL8.out.2.2.mono ?_
        rintro e w9 ⟨rfl, hw9⟩
        rw [hw9]
        clear hw9
        go_wp2_with fail
        go_ret
        exact ⟨by simp, HL8.out.1⟩
end Go.Proofs.Ythoilihokbakoaa
