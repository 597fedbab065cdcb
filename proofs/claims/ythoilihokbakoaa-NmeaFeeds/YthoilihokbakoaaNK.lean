/- The law NmeaCounts, walked. -/
import Derived.Test.YthoilihokbakoaaNJ
namespace Go.Proofs.Ythoilihokbakoaa
open Go Go.RowKit
theorem Ld.fresh (w : World) (t : TypeId) : Ld (w.alloc (.cells #[.bool false, .string ⟨#[]⟩, .int .i64 0] t)) w.heap.size none 0 := by
  refine ⟨by simp, fun j => World.frozen?_alloc_new w _ _ j, ?_, ?_, ?_⟩
  · rw [World.cell?_alloc_new]; rfl
  · rw [World.cell?_alloc_new]; rfl
  · rw [World.cell?_alloc_new]; rfl
theorem Both.start {l : List (List UInt8)} {w w1 : World} (h1 : Ln w1 w.heap.size none 0) (hb : Below w.heap.size w w1) (t : TypeId) : Both l w (w1.alloc (.cells #[.bool false, .string ⟨#[]⟩, .int .i64 0] t)) w.heap.size w1.heap.size 0 := by
  have hlt := h1.lt
  refine ⟨hb.alloc hb.size _, ?_, ?_, Nat.le_refl _, hb.size, by omega⟩
  · rw [Sk_zero]; exact h1.below ((Below.refl _ _).alloc (Nat.le_refl _) _) hlt
  · rw [Sk_zero]; exact Ld.fresh _ _
set_option maxRecDepth 4000 in
set_option maxHeartbeats 4000000 in
theorem NmeaCounts_row (ao : Option Addr) (L cap : Nat) (l : List (List UInt8)) (w : World) (hL : L = l.length) (hp : Pc w.heap.size w ao l) (hl : l.length ≤ 70368744177664) :
    Calls Try.prog 3 #[.slice ao L cap] w fun e w' => e = .returned (.bool true) ∧ Below w.heap.size w w' := by
  have HP : Hid (L = l.length ∧ Pc w.heap.size w ao l) := ⟨hL, hp⟩
  have HH : Hid (Calls Try.prog 7 #[.slice ao L cap] w fun e w' => HvR l e ∧ w' = w) := heavy_any _ L cap ao l w hL hp hl
  have hLi : (L : Int) ≤ 70368744177664 := by omega
  clear hp hL hl
  go_enter Try.func3, Try.ntmps3
  go_wp2_with fail
  refine HH.out.mono ?_
  rintro e w' ⟨⟨B, rfl, hB⟩, hw'⟩
  rw [hw']
  clear hw' HH
  cases B with
  | true =>
    go_wp2
    go_ret
    exact ⟨rfl, Below.refl _ _⟩
  | false =>
    have HS : Hid (l.length + sumL l ≤ 65536) := hB rfl
    clear hB
    go_wp2_with (go_at_call 8; refine (new_any _).mono ?_; rintro e w1 ⟨rfl, hn1, hb1⟩; have HN1 : Hid (Ln w1 w.heap.size none 0 ∧ Below w.heap.size w w1) := ⟨hn1, hb1⟩; clear hn1 hb1)
    obtain ⟨p, hpe⟩ : ∃ p, p = w.heap.size := ⟨_, rfl⟩
    obtain ⟨d, hde⟩ : ∃ d, d = w1.heap.size := ⟨_, rfl⟩
    have HB0 : Hid (Both l w (w1.alloc (.cells #[.bool false, .string ⟨#[]⟩, .int .i64 0] 28)) p d 0) := by
      show Both _ _ _ _ _ _
      rw [hpe, hde]; exact Both.start HN1.out.1 HN1.out.2 _
    rw [← hpe, ← hde]
    clear hpe hde
    go_loopw [5, 6, 7] (fun t g i wr => ∃ (k T G : Nat), t = .int .i64 (T : Int) ∧ g = .int .i64 (G : Int) ∧ i = .int .i64 (k : Int) ∧ Hid (k ≤ L ∧ T = (Sk l k).out.length ∧ G = Gk l k ∧ Both l w wr p d k)) (fun _ _ i _ => L - (intOf i).toNat)
    case atStart => exact ⟨0, 0, 0, rfl, rfl, rfl, Nat.zero_le _, by rw [Sk_zero]; rfl, rfl, HB0.out⟩
    case round =>
      obtain ⟨k, T, G, rfl, rfl, rfl, H⟩ := hrel
      clear HB0 HN1
      by_cases hlt : k < L
      · have hlti : (k : Int) < L := by omega
        obtain ⟨ad, bo, m, cp, b, hao, had, hlk, hm, hcl, hsv⟩ := (HP.out.2.below H.out.2.2.2.bl (Nat.le_refl _)).get (k := k) (by have := HP.out.1; omega)
        have hix := idx_p L cap k hao hlti
        have hbl : b.length ≤ 65536 := by have := sumL_mem l k b hlk; have := HS.out; omega
        have hlo : (Sk l k).lost ≤ 65536 := by have := Sk_grow l k; have := HS.out; omega
        have hTi : (T : Int) ≤ 65536 := by have := Sk_grow l k; have := HS.out; have := H.out.2.1; omega
        have hGi : (G : Int) ≤ 65536 := by have := Gk_le l k; have := HS.out; have := H.out.2.2.1; omega
        have hmi : (m : Int) ≤ 65536 := by omega
        have HF : Hid (Calls Try.prog 9 #[.pointer (some ⟨p, 0, none⟩), .slice bo m cp] wr (FdE ⟨(Sk l k).st, [], (Sk l k).lost⟩ b wr p)) := feed_any _ _ p m cp bo b wr H.out.2.2.2.ln hm (hsv.rb H.out.2.2.2.bl.size H.out.2.2.2.p0) (by omega) (by omega)
        have HX : Hid (l[k]? = some b ∧ m = b.length ∧ ad.block < w.heap.size ∧ Sv w.heap.size wr (.slice bo m cp) (ib b) ∧ (Sk l k).lost ≤ 65536) := ⟨hlk, hm, had, hsv, hlo⟩
        clear hao had hlk hm hsv hbl hlo
        go_wp2_with fail
        refine HF.out.mono ?_
        rintro e w2 ⟨u, rfl, f1, o1, l1⟩
        obtain ⟨uo, uc, hu⟩ := o1.form
        obtain ⟨U, hU⟩ : ∃ U, U = (fdL ⟨(Sk l k).st, [], (Sk l k).lost⟩ b).out.length := ⟨_, rfl⟩
        rw [← hU] at hu
        subst hu
        have hSk := Sk_piece l k b HX.out.1
        have hUi : (T : Int) + U ≤ 65536 := by
          have h1 := Sk_grow l (k + 1)
          rw [hSk] at h1
          have := HS.out
          have := H.out.2.1
          simp at h1
          omega
        have HT : Hid (T + U = (Sk l (k + 1)).out.length) := by show _ = _; rw [hSk, H.out.2.1, hU]; simp
        have b1 : Below w.heap.size wr w2 := f1.below H.out.2.2.2.bl.size H.out.2.2.2.p0
        have hcl2 : w2.cell? (ad.add k) = some (.slice bo m cp) := (b1.cell (p := ad.add k) (by rw [add_block]; exact HX.out.2.2.1)).trans hcl
        have HR : Hid (Calls Try.prog 10 #[.pointer (some ⟨d, 0, none⟩), .slice bo m cp] w2 (RdE ⟨(Sk l k).st, [], (Sk l k).lost⟩ b w2 d)) := rfeed_any _ _ d m cp bo b w2 (H.out.2.2.2.ld.kept (f1.block d H.out.2.2.2.ld.lt (fun e => H.out.2.2.2.pd e.symm)) f1.size) (Sk_len l k) HX.out.2.1 ((HX.out.2.2.2.1.below b1 (Nat.le_refl _)).rb (Nat.le_trans H.out.2.2.2.bl.size f1.size) H.out.2.2.2.d0) (by have := HX.out.2.1; omega) (by have := HX.out.2.2.2.2; omega)
        have HF1 : Hid (Fq wr w2 p ∧ Ln w2 p (fdL ⟨(Sk l k).st, [], (Sk l k).lost⟩ b).st (fdL ⟨(Sk l k).st, [], (Sk l k).lost⟩ b).lost ∧ Below w.heap.size wr w2) := ⟨f1, l1, b1⟩
        clear f1 l1 o1 b1 hU hSk HF hcl
        go_wp2_with fail
        refine HR.out.mono ?_
        rintro e w3 ⟨u3, rfl, f2, o2, l2⟩
        have b2 : Below w.heap.size w2 w3 := f2.below (Nat.le_trans H.out.2.2.2.bl.size HF1.out.1.size) H.out.2.2.2.d0
        have hcl3 : w3.cell? (ad.add k) = some (.slice bo m cp) := (b2.cell (p := ad.add k) (by rw [add_block]; exact HX.out.2.2.1)).trans hcl2
        have HB3 : Hid (Both l w w3 p d (k + 1)) := H.out.2.2.2.fed HX.out.1 HF1.out.1 HF1.out.2.1 f2 l2
        have HR3 : Hid (Rb w3 w.heap.size bo b ∧ G + beg b ≤ 65536 ∧ G + beg b = Gk l (k + 1)) := by
          have h1 := Gk_succ l k b HX.out.1
          have h2 := Gk_le l (k + 1)
          have h3 := H.out.2.2.1
          have h4 := HS.out
          exact ⟨((HX.out.2.2.2.1.below HF1.out.2.2 (Nat.le_refl _)).below b2 (Nat.le_refl _)).rb (Nat.le_trans (Nat.le_trans H.out.2.2.2.bl.size HF1.out.1.size) f2.size) (Nat.le_refl _), by omega, by omega⟩
        clear f2 l2 o2 b2 HR hcl2 HF1
        go_wp2
        go_loop [6, 8] (fun g j => ∃ i : Nat, j = .int .i64 (i : Int) ∧ g = .int .i64 ((G + beg (b.take i) : Nat) : Int) ∧ i ≤ m) (fun _ j => m - (intOf j).toNat)
        case atStart => exact ⟨0, rfl, by simp [beg], Nat.zero_le _⟩
        case round =>
          obtain ⟨i, rfl, rfl, him⟩ := hrel
          obtain ⟨g, hg⟩ : ∃ g : Nat, g = G + beg (b.take i) := ⟨_, rfl⟩
          rw [← hg]
          have HG : Hid (g = G + beg (b.take i)) := hg
          have hgi : (g : Int) ≤ 65536 := by have := beg_take_le b i; have := HR3.out.2.1; omega
          clear hg
          by_cases hi : i < m
          · have hii : (i : Int) < m := by omega
            obtain ⟨bd, c, hbo, hbi, hcc⟩ := HR3.out.1.get (k := i) (by have := HX.out.2.1; omega)
            have hix2 := idx_b m cp i hbo hii
            have HBT := beg_take b i c hbi
            clear hbo hbi
            by_cases h36 : (c.toNat : Int) = 36
            · have hb36 : ((c.toNat : Int) == 36) = true := by rw [h36]; rfl
              have HN : Hid (g + 1 = G + beg (b.take (i + 1))) := by show _ = _; rw [HBT, if_pos (by omega), HG.out, Nat.add_assoc]
              clear h36 HBT
              go_wp2
              refine ⟨⟨i + 1, by go_num, by rw [← HN.out]; go_num, by omega⟩, by simp [intOf]; omega⟩
            · have hb36 : ((c.toNat : Int) == 36) = false := by rw [beq_eq_false_iff_ne]; exact h36
              have HN : Hid (g = G + beg (b.take (i + 1))) := by show _ = _; rw [HBT, if_neg (by omega), HG.out, Nat.add_zero]
              clear h36 HBT
              go_wp2
              refine ⟨⟨i + 1, by go_num, by rw [← HN.out], by omega⟩, by simp [intOf]; omega⟩
          · have hii : ¬ (i : Int) < m := by omega
            have HE : Hid (g = Gk l (k + 1)) := by
              have h1 := HG.out
              rw [List.take_of_length_le (by have := HX.out.2.1; omega)] at h1
              have := HR3.out.2.2
              show _ = _
              omega
            go_wp2
            refine ⟨⟨k + 1, T + U, g, by go_num, rfl, by go_num, by omega, HT.out, HE.out, HB3.out⟩, by simp [intOf]; omega⟩
      · have hlti : ¬ (k : Int) < L := by omega
        have hcnt := Sk_count l k
        have hlo : (Sk l k).lost ≤ 65536 := by have := Sk_grow l k; have := HS.out; omega
        obtain ⟨n, hn⟩ : ∃ n, n = (Sk l k).lost := ⟨_, rfl⟩
        have hni : (n : Int) ≤ 65536 := by omega
        have hTi : (T : Int) ≤ 65536 := by have := Sk_grow l k; have := HS.out; have := H.out.2.1; omega
        have hc0 := H.out.2.2.2.ld.c0
        have HL : Hid (Calls Try.prog 11 #[.pointer (some ⟨p, 0, none⟩)] wr fun e w' => e = .returned (.int .i64 (n : Int)) ∧ w' = wr) := by rw [hn]; exact lost_any wr p _ _ H.out.2.2.2.ln
        cases hst : (Sk l k).st with
        | none =>
          rw [hst] at hc0 hcnt
          have heq : (T : Int) + n + 0 = G := by have := H.out.2.1; have := H.out.2.2.1; simp [opn] at hcnt; omega
          simp only [Option.isSome] at hc0
          have heq2 : (T : Int) + n = G := by omega
          clear hcnt hlo hn hst heq
          go_wp2_with (go_at_call 11; refine HL.out.mono ?_; rintro e w9 ⟨rfl, hw9⟩; rw [hw9]; clear hw9)
          go_ret
          refine ⟨?_, H.out.2.2.2.bl⟩
          simp
        | some cur =>
          rw [hst] at hc0 hcnt
          simp only [Option.isSome] at hc0
          have heq2 : (T : Int) + n + 1 = G := by have := H.out.2.1; have := H.out.2.2.1; simp [opn] at hcnt; omega
          clear hcnt hlo hn hst
          go_wp2_with (go_at_call 11; refine HL.out.mono ?_; rintro e w9 ⟨rfl, hw9⟩; rw [hw9]; clear hw9)
          go_ret
          refine ⟨?_, H.out.2.2.2.bl⟩
          simp
end Go.Proofs.Ythoilihokbakoaa
