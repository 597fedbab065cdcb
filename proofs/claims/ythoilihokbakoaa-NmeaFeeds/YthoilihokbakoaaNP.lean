/- The law NmeaFeeds, walked. -/
import Derived.Test.YthoilihokbakoaaNQ
import Derived.Deep.DeepCutAuto
namespace Go.Proofs.Ythoilihokbakoaa
open Go Go.RowKit
/-- an own row of bytes that has one -/
theorem Own.row {w : World} {B : Nat} {v : Value} {bs : List Int} (h : Own w B v bs) (hl : 0 < bs.length) : ∃ g cap, v = .slice (some ⟨g, 0, none⟩) bs.length cap ∧ B ≤ g ∧ g < w.heap.size ∧ bs.length ≤ cap ∧ (∀ j, j < bs.length → w.cell? ⟨g, j, none⟩ = some (.int .u8 (bs.getD j 0))) ∧ (∀ j, w.frozen? ⟨g, j, none⟩ = false) := by
  rcases h.2 with ⟨h1, h2⟩ | ⟨g, cap, cur, h1, h2, h3, h4, h5, h6, h7⟩
  · omega
  · have hg : g < w.heap.size := by
      rcases Nat.lt_or_ge g w.heap.size with hlt | hge
      · exact hlt
      · rw [Array.getElem?_eq_none hge] at h3; cases h3
    refine ⟨g, cap, h1, h2, hg, h4, fun j hj => ?_, fun j => ?_⟩
    · rw [cell_of_row w g j cur 5 (0, 0) h3]
      have e : (U bs)[j]? = some (.int .u8 (bs.getD j 0)) := by rw [U_get, getD_at _ _ hj]; rfl
      rw [← h7, List.getElem?_take_of_lt (by omega)] at e
      simpa using e
    · simp [World.frozen?, h3]
theorem ib_last (b : List UInt8) (m : Nat) (hm : m = b.length) : (ib b ++ ib [36]).getD m 0 = 36 := by
  subst hm
  rw [List.getD_eq_getElem?_getD, List.getElem?_append_right (by rw [ib_len]; omega), ib_len, Nat.sub_self]
  rfl
theorem conv_sv {N : Nat} {w : World} {bo : Option Addr} {m cp : Nat} {b : List UInt8} (h : Sv N w (.slice bo m cp) (ib b)) : (convert 31 9 (.slice bo m cp)).run Try.prog w = .ok (.string (tx b)) w := by
  obtain ⟨a1, c1, e1, h1, h2, h3, h4⟩ := h
  injection e1 with e1 e2 e3
  subst e1 e3
  rw [ib_len] at e2 h1
  subst e2
  cases bo with
  | none =>
    have hc := h2 rfl
    have hb : b = [] := List.length_eq_zero_iff.1 (by omega)
    subst hb
    rw [run_convert_bytes_nil w 31 5 Try.underlying31 Try.underlying5 _ _ 9 Try.underlying9]
    rfl
  | some ad =>
    refine conv_b w ad cp b (fun k hk => ?_)
    obtain ⟨ad', g1, _, g3⟩ := h3 k (by rw [ib_len]; exact hk)
    injection g1 with g1
    subst g1
    rw [g3, ib_at b k hk]
/-- both lines, and a row of the call's own beside them -/
structure Bx (l : List (List UInt8)) (w wr : World) (p d k g m : Nat) : Prop where
  bo : Both l w wr p d k
  w0 : w.heap.size ≤ g
  gp : g ≠ p
  gd : g ≠ d
  ce : ∀ j, j < m → ∃ v, wr.cell? ⟨g, j, none⟩ = some v
  fz : ∀ j, wr.frozen? ⟨g, j, none⟩ = false
theorem Bx.set {l : List (List UInt8)} {w wr : World} {p d k g m : Nat} (h : Bx l w wr p d k g m) (j : Nat) (x : Value) : Bx l w (wr.setCell ⟨g, j, none⟩ x) p d k g m := by
  refine ⟨⟨h.bo.bl.setCell h.w0 _, h.bo.ln.kept (Below.heap_setCell _ _ _ _ (fun e => h.gp e.symm)) (by simp), h.bo.ld.kept (Below.heap_setCell _ _ _ _ (fun e => h.gd e.symm)) (by simp), h.bo.p0, h.bo.d0, h.bo.pd⟩, h.w0, h.gp, h.gd, fun i hi => ?_, fun i => by simp [h.fz i]⟩
  obtain ⟨v, hv⟩ := h.ce i hi
  by_cases e : i = j
  · subst e; exact ⟨x, World.cell?_setCell_same _ _ _ hv⟩
  · exact ⟨v, by rw [World.cell?_setCell_other (h := ne_off (fun e' => e e'.symm))]; exact hv⟩
set_option maxRecDepth 8000 in
set_option maxHeartbeats 4000000 in
theorem NmeaFeeds_row (ao : Option Addr) (L cap : Nat) (l : List (List UInt8)) (w : World) (hL : L = l.length) (hp : Pc w.heap.size w ao l) (hl : l.length ≤ 70368744177664) :
    Calls Try.prog 4 #[.slice ao L cap] w fun e w' => e = .returned (.bool true) ∧ Below w.heap.size w w' := by
  have HP : Hid (L = l.length ∧ Pc w.heap.size w ao l) := ⟨hL, hp⟩
  have HH : Hid (Calls Try.prog 7 #[.slice ao L cap] w fun e w' => HvR l e ∧ w' = w) := heavy_any _ L cap ao l w hL hp hl
  have hLi : (L : Int) ≤ 70368744177664 := by omega
  clear hp hL hl
  go_enter Try.func4, Try.ntmps4
  go_wp2_with fail
  refine HH.out.mono ?_
  rintro e w' ⟨⟨B, rfl, hB⟩, hw'⟩
  rw [hw']
  clear hw' HH
  cases B with
  | true =>
    go_wp2
    go_ret
    exact ⟨rfl, Below.refl _ _⟩
  | false =>
    have HS : Hid (l.length + sumL l ≤ 65536) := hB rfl
    clear hB
    go_wp2_with (go_at_call 8; refine (new_any _).mono ?_; rintro e w1 ⟨rfl, hn1, hb1⟩; have HN1 : Hid (Ln w1 w.heap.size none 0 ∧ Below w.heap.size w w1) := ⟨hn1, hb1⟩; clear hn1 hb1)
    obtain ⟨p, hpe⟩ : ∃ p, p = w.heap.size := ⟨_, rfl⟩
    obtain ⟨d, hde⟩ : ∃ d, d = w1.heap.size := ⟨_, rfl⟩
    have HB0 : Hid (Both l w (w1.alloc (.cells #[.bool false, .string ⟨#[]⟩, .int .i64 0] 28)) p d 0) := by
      show Both _ _ _ _ _ _
      rw [hpe, hde]; exact Both.start HN1.out.1 HN1.out.2 _
    rw [← hpe, ← hde]
    clear hpe hde
    go_loopw [5] (fun i wr => ∃ k : Nat, i = .int .i64 (k : Int) ∧ Hid (k ≤ L ∧ Both l w wr p d k)) (fun i _ => L - (intOf i).toNat)
    case atStart => exact ⟨0, rfl, Nat.zero_le _, HB0.out⟩
    case round =>
      obtain ⟨k, rfl, H⟩ := hrel
      clear HB0 HN1
      by_cases hlt : k < L
      · have hlti : (k : Int) < L := by omega
        obtain ⟨ad, bo, m, cp, b, hao, had, hlk, hm, hcl, hsv⟩ := (HP.out.2.below H.out.2.bl (Nat.le_refl _)).get (k := k) (by have := HP.out.1; omega)
        have hix := idx_p L cap k hao hlti
        have hbl : b.length ≤ 65536 := by have := sumL_mem l k b hlk; have := HS.out; omega
        have hlo : (Sk l k).lost ≤ 65536 := by have := Sk_grow l k; have := HS.out; omega
        have hmi : (m : Int) ≤ 65536 := by omega
        have HX : Hid (l[k]? = some b ∧ m = b.length ∧ ad.block < w.heap.size ∧ Sv w.heap.size wr (.slice bo m cp) (ib b) ∧ (Sk l k).lost ≤ 65536 ∧ b.length ≤ 65536) := ⟨hlk, hm, had, hsv, hlo, hbl⟩
        have HO : Hid (Own (wr.alloc (.cells #[] 5)) wr.heap.size (.slice (some ⟨wr.heap.size, 0, none⟩) 0 0) []) := Own.made wr _ (Nat.le_refl _)
        have hcla : ∀ o, (wr.alloc o).cell? (ad.add k) = some (.slice bo m cp) := fun o => by rw [World.cell?_alloc_lt _ _ _ (World.block_lt_of_cell? _ _ hcl)]; exact hcl
        have HBW : Hid (Below wr.heap.size wr (wr.alloc (.cells #[] 5))) := (Below.refl _ _).alloc (Nat.le_refl _) _
        clear hao had hlk hm hsv hbl hlo
        go_wp2_with (first
          | (at_builtin; refine wpList_app8 (by rfl) _ _ 31 (by rfl) Try.underlying31 wr.heap.size w.heap.size (.slice (some ⟨wr.heap.size, 0, none⟩) 0 0) (.slice bo m cp) [] (ib b) (by rfl) (by rfl) HO.out (HX.out.2.2.2.1.below (HBW.out.mono H.out.2.bl.size) (Nat.le_refl _)) (by rw [ib_len]; have := HX.out.2.2.2.2.2; simp; omega) (by simp) ?_; intro v3 w3 ho3 hg3 hv3; have HO3 : Hid (Own w3 wr.heap.size v3 (ib b) ∧ Below wr.heap.size wr w3) := ⟨ho3, HBW.out.grown hg3 (by simp) (fun k e => by simp [Value.ownBlock] at e; omega)⟩; clear ho3 hg3 hv3 HO)
          | (at_builtin; refine wpList_app8 (by rfl) _ _ 31 (by rfl) Try.underlying31 wr.heap.size (w3.heap.size + 1) v3 _ (ib b) (ib [36]) (by rfl) (by rfl) (HO3.out.1.alloc _) (Sv.new w3 #[.int .u8 36] (ib [36]) rfl (ib_ok _) 1 w3.heap.size rfl rfl) (by rw [ib_len]; have := HX.out.2.2.2.2.2; simp [ib]; omega) (by have := HO3.out.2.size; simp; omega) ?_; intro v4 w4 ho4 hg4 hv4; have HO4 : Hid (Own w4 wr.heap.size v4 (ib b ++ ib [36]) ∧ Below wr.heap.size wr w4) := ⟨ho4, (HO3.out.2.alloc HO3.out.2.size _).grown hg4 (by have := HO3.out.2.size; simp; omega) (fun k e => HO3.out.1.lt' k e)⟩; have hcl4 : w4.cell? (ad.add k) = some (.slice bo m cp) := (HO4.out.2.cell (World.block_lt_of_cell? _ _ hcl)).trans hcl; obtain ⟨g, c4, hv4e, hgB, hgl, hgc, hgcell, hgf⟩ := HO4.out.1.row (by rw [← ib_app, ib_len]; simp); rw [← ib_app, ib_len] at hv4e hgc; have hm4 : (b ++ [36]).length = m + 1 := (by have := HX.out.2.1; simp; omega); rw [hm4] at hv4e hgc; subst hv4e; have HG : Hid (wr.heap.size ≤ g ∧ g < w4.heap.size ∧ (∀ j, j < (ib b ++ ib [36]).length → w4.cell? ⟨g, j, none⟩ = some (.int .u8 ((ib b ++ ib [36]).getD j 0))) ∧ ∀ j, w4.frozen? ⟨g, j, none⟩ = false) := ⟨hgB, hgl, hgcell, hgf⟩; have hgci : (m : Int) + 1 ≤ c4 := (by omega); clear ho4 hg4 hv4 hgB hgl hgcell hgf hm4 HO3))
        have HF : Hid (Calls Try.prog 9 #[.pointer (some ⟨p, 0, none⟩), .slice (some ⟨g, 0, none⟩) m c4] w4 (FdE ⟨(Sk l k).st, [], (Sk l k).lost⟩ b w4 p)) := by
          have hp0 := H.out.2.ln.lt
          have hgB := HG.out.1
          refine feed_any _ _ p m c4 _ b w4 (H.out.2.ln.below HO4.out.2 hp0) HX.out.2.1 (fun j hj => ⟨_, rfl, HG.out.2.1, by show g ≠ p; omega, ?_⟩) (by have := HX.out.2.2.2.2.2; omega) (by have := HX.out.2.2.2.2.1; omega)
          rw [add_own, HG.out.2.2.1 j (by rw [← ib_app, ib_len]; simp; omega), ← ib_app, ib_at _ j (by simp; omega), List.getElem_append_left hj]
        refine HF.out.mono ?_
        rintro e w5 ⟨u, rfl, f5, o5, l5⟩
        have hp0 := H.out.2.ln.lt
        have hd0 := H.out.2.ld.lt
        have hgB := HG.out.1
        have hpw := H.out.2.p0
        have hdw := H.out.2.d0
        have b5 : Below w.heap.size wr w5 := (HO4.out.2.mono H.out.2.bl.size).trans (f5.below (Nat.le_trans H.out.2.bl.size HO4.out.2.size) hpw)
        have hcl5 : w5.cell? (ad.add k) = some (.slice bo m cp) := (b5.cell (p := ad.add k) (by rw [add_block]; exact HX.out.2.2.1)).trans hcl
        have HR : Hid (Calls Try.prog 10 #[.pointer (some ⟨d, 0, none⟩), .slice bo m cp] w5.drew (RdE ⟨(Sk l k).st, [], (Sk l k).lost⟩ b w5.drew d)) := rfeed_any _ _ d m cp bo b w5.drew ((((H.out.2.ld.below HO4.out.2 hd0).kept (f5.block d (Nat.lt_of_lt_of_le hd0 HO4.out.2.size) (fun e => H.out.2.pd e.symm)) f5.size)).kept rfl (Nat.le_refl _)) (Sk_len l k) HX.out.2.1 ((HX.out.2.2.2.1.below b5.drew (Nat.le_refl _)).rb (Nat.le_trans H.out.2.bl.size b5.size) hdw) (by have := HX.out.2.2.2.2.2; omega) (by have := HX.out.2.2.2.2.1; omega)
        have H5 : Hid (Fq w4 w5 p ∧ OwT w5 w4.heap.size u (fdL ⟨(Sk l k).st, [], (Sk l k).lost⟩ b).out ∧ Ln w5 p (fdL ⟨(Sk l k).st, [], (Sk l k).lost⟩ b).st (fdL ⟨(Sk l k).st, [], (Sk l k).lost⟩ b).lost ∧ Below w.heap.size wr w5) := ⟨f5, o5, l5, b5⟩
        clear f5 o5 l5 b5 HF hp0 hd0 hgB hpw hdw
        go_wp2_with fail
        obtain ⟨T, hT⟩ : ∃ T, T = tx b := ⟨_, rfl⟩
        obtain ⟨nl, hnl⟩ : ∃ nl, nl = (fdL ⟨(Sk l k).st, [], (Sk l k).lost⟩ b).lost := ⟨_, rfl⟩
        have HK : Hid (∀ (w6 w7 : World) (r : Value) (n7 : Nat), Fq w5.drew w6 d → OwT w6 w5.drew.heap.size r (fdL ⟨(Sk l k).st, [], (Sk l k).lost⟩ b).out → Ld w6 d (fdL ⟨(Sk l k).st, [], (Sk l k).lost⟩ b).st (fdL ⟨(Sk l k).st, [], (Sk l k).lost⟩ b).lost → w7 = w6.drewN n7 → Rt w6 u (fdL ⟨(Sk l k).st, [], (Sk l k).lost⟩ b).out ∧ Bx l w w7 p d (k + 1) g (m + 1) ∧ w7.cell? (ad.add k) = some (.slice bo m cp) ∧ w7.cell? ⟨d, 2, none⟩ = some (.int .i64 (nl : Int)) ∧ (convert 31 9 (.slice (some ⟨g, 0, none⟩) m c4)).run Try.prog w7 = .ok (.string T) w7 ∧ (convert 31 9 (.slice bo m cp)).run Try.prog w7 = .ok (.string T) w7 ∧ w7.cell? ⟨g, m, none⟩ = some (.int .u8 36) ∧ (Calls Try.prog 11 #[.pointer (some ⟨p, 0, none⟩)] w7 fun e w' => e = .returned (.int .i64 (nl : Int)) ∧ w' = w7)) := by
          intro w6 w7 r n7 f6 o6 l6 hw7
          have hp0 := H.out.2.ln.lt
          have hd0 := H.out.2.ld.lt
          have hgB := HG.out.1
          have hpw := H.out.2.p0
          have hdw := H.out.2.d0
          have hgl := HG.out.2.1
          have hm := HX.out.2.1
          have f6' : Fq w5 w6 d := ⟨f6.os, f6.tape, f6.output, f6.size, f6.block⟩
          have b7 : Below w6.heap.size w6 w7 := by rw [hw7]; exact below_drewN (Below.refl _ _) n7
          have hgp : g ≠ p := by omega
          have hgd : g ≠ d := by omega
          have e4 : ∀ j, w7.cell? ⟨g, j, none⟩ = w4.cell? ⟨g, j, none⟩ := fun j => by
            have h1 : w7.heap[g]? = w4.heap[g]? := by
              rw [b7.block g (Nat.lt_of_lt_of_le hgl (Nat.le_trans H5.out.1.size f6'.size)), f6'.block g (Nat.lt_of_lt_of_le hgl H5.out.1.size) hgd, H5.out.1.block g hgl hgp]
            exact World.cell?_of_block h1
          have e5 : ∀ j, w7.frozen? ⟨g, j, none⟩ = w4.frozen? ⟨g, j, none⟩ := fun j => by
            have h1 : w7.heap[g]? = w4.heap[g]? := by
              rw [b7.block g (Nat.lt_of_lt_of_le hgl (Nat.le_trans H5.out.1.size f6'.size)), f6'.block g (Nat.lt_of_lt_of_le hgl H5.out.1.size) hgd, H5.out.1.block g hgl hgp]
            exact World.frozen?_of_block h1
          have hc : ∀ j, j < m + 1 → w7.cell? ⟨g, j, none⟩ = some (.int .u8 ((ib b ++ ib [36]).getD j 0)) := fun j hj => (e4 j).trans (HG.out.2.2.1 j (by rw [← ib_app, ib_len]; simp; omega))
          have b57 : Below w.heap.size w5 w7 := (f6'.below (Nat.le_trans H.out.2.bl.size H5.out.2.2.2.size) hdw).trans (b7.mono (by have := H5.out.2.2.2.size; have := H.out.2.bl.size; have := f6'.size; omega))
          have hln : Ln w7 p (fdL ⟨(Sk l k).st, [], (Sk l k).lost⟩ b).st (fdL ⟨(Sk l k).st, [], (Sk l k).lost⟩ b).lost := (H5.out.2.2.1.fq f6' H.out.2.pd).below b7 (H5.out.2.2.1.fq f6' H.out.2.pd).lt
          have hld : Ld w7 d (fdL ⟨(Sk l k).st, [], (Sk l k).lost⟩ b).st (fdL ⟨(Sk l k).st, [], (Sk l k).lost⟩ b).lost := l6.below b7 l6.lt
          have hsk := Sk_piece l k b HX.out.1
          have hou : OwT w6 w4.heap.size u (fdL ⟨(Sk l k).st, [], (Sk l k).lost⟩ b).out := H5.out.2.1.fq f6' (by have := HO4.out.2.size; omega)
          refine ⟨hou.rt, ⟨⟨H.out.2.bl.trans (H5.out.2.2.2.trans b57), by rw [hsk]; exact hln, by rw [hsk]; exact hld, hpw, hdw, H.out.2.pd⟩, by omega, hgp, hgd, fun j hj => ⟨_, hc j hj⟩, fun j => (e5 j).trans (HG.out.2.2.2 j)⟩, ?_, ?_, ?_, ?_, ?_, ?_⟩
          · exact (b57.cell (p := ad.add k) (by rw [add_block]; exact HX.out.2.2.1)).trans hcl5
          · rw [hnl]; exact hld.lo
          · rw [hT, hm]
            refine conv_b w7 _ c4 b (fun j hj => ?_)
            rw [add_own, hc j (by omega), ← ib_app, ib_at _ j (by simp; omega), List.getElem_append_left hj]
          · rw [hT]
            exact conv_sv ((HX.out.2.2.2.1.below H5.out.2.2.2 (Nat.le_refl _)).below b57 (Nat.le_refl _))
          · rw [hc m (by omega), ib_last b m hm]
          · rw [hnl]; exact lost_any w7 p _ _ hln
        have HLN : Hid ((fdL ⟨(Sk l k).st, [], (Sk l k).lost⟩ b).out.length ≤ 10000000) := by
          have h1 := fdL_grow b ⟨(Sk l k).st, [], (Sk l k).lost⟩
          have h2 := HX.out.2.2.2.2.1
          have h3 := HX.out.2.2.2.2.2
          have h4 : opn (Sk l k).st ≤ 1 := by unfold opn; split <;> omega
          simp at h1
          show _ ≤ _
          omega
        clear hT hnl
        refine wp_region_any (by kernel_rfl) ?_
        refine wpAny_take (i := 0) (v := u) rfl (by kernel_rfl) (by kernel_rfl) (by kernel_rfl) (fun _ _ _ h => h) (Or.inl ⟨by rfl, fun _ => by go_simp⟩) ?_
        simp only [Act.put, List.setIfInBounds_toArray]
        refine wpAny_take (i := 1) (v := .pointer (some ⟨d, 0, none⟩)) rfl (by kernel_rfl) (by kernel_rfl) (by kernel_rfl) (fun _ _ _ h => h) (Or.inl ⟨by rfl, fun _ => by go_simp⟩) ?_
        simp only [Act.put]
        refine wpAny_take (i := 2) (v := .slice ao L cap) rfl (by kernel_rfl) (by kernel_rfl) (by kernel_rfl) (fun _ _ _ h => h) (Or.inl ⟨by rfl, fun _ => by go_simp⟩) ?_
        simp only [Act.put]
        refine wpAny_take (i := 3) (v := .int .i64 (k : Int)) rfl (by kernel_rfl) (by kernel_rfl) (by kernel_rfl) (fun _ _ _ h => h) (Or.inl ⟨by rfl, fun _ => by go_simp⟩) ?_
        simp only [Act.put]
        refine wpAny_take (i := 4) (v := .pointer (some (ad.add k))) rfl (by kernel_rfl) (by kernel_rfl) (by kernel_rfl) (fun _ _ _ h => h) (Or.inl ⟨by rfl, fun _ => by go_simp⟩) ?_
        simp only [Act.put]
        refine wpAny_ready (rs := [5]) (by kernel_rfl) (by simp) ?_
        refine AllReady.cons rfl (fun K hK => ?_) AllReady.nil
        go_simp
        refine hK _ _ ?_
        clear hK K
        refine wpAny_ready (rs := [6]) (by kernel_rfl) (by simp) ?_
        refine AllReady.cons rfl (fun K hK => ?_) AllReady.nil
        go_simp
        refine HR.out.mono ?_
        rintro e w6 ⟨r, rfl, f6, o6, l6⟩
        refine hK _ _ ?_
        clear hK K
        have G0 := HK.out w6 w6 r 0 f6 o6 l6 rfl
        have HST : Hid (∀ n, Calls Try.prog 12 #[u, r] (w6.drewN n) fun e w' => e = .returned (.bool true) ∧ ∃ m, w' = (w6.drewN n).drewN m) := fun n => by
          have b6 : Below w6.heap.size w6 (w6.drewN n) := below_drewN (Below.refl _ _) n
          exact sameTexts7_any u r _ _ (G0.1.below b6 (Nat.le_refl _)) ((o6.drewN n).rt) HLN.out
        have HB7 : Hid (∀ n, Bx l w (w6.drewN n) p d (k + 1) g (m + 1)) := fun n => (HK.out w6 _ r n f6 o6 l6 rfl).2.1
        have kc1 := G0.2.2.1
        have kc2 := G0.2.2.2.1
        have kc3 := G0.2.2.2.2.2.2.1
        have kv1 : ∀ n, (convert 31 9 (.slice (some ⟨g, 0, none⟩) m c4)).run Try.prog (w6.drewN n) = .ok (.string T) (w6.drewN n) := fun n => (HK.out w6 _ r n f6 o6 l6 rfl).2.2.2.2.1
        have kv2 : ∀ n, (convert 31 9 (.slice bo m cp)).run Try.prog (w6.drewN n) = .ok (.string T) (w6.drewN n) := fun n => (HK.out w6 _ r n f6 o6 l6 rfl).2.2.2.2.2.1
        have HL7 : Hid (∀ n, Calls Try.prog 11 #[.pointer (some ⟨p, 0, none⟩)] (w6.drewN n) fun e w' => e = .returned (.int .i64 (nl : Int)) ∧ w' = w6.drewN n) := fun n => (HK.out w6 _ r n f6 o6 l6 rfl).2.2.2.2.2.2.2
        clear G0 f6 o6 l6 HR
        refine wpAny_rest 7 _ (fun w' => ∃ n, w' = w6.drewN n) (by kernel_rfl) (by kernel_rfl) (by kernel_rfl) ⟨0, rfl⟩ ?_
        simp only [List.drop_succ_cons, List.drop_zero]
        go_big_quiet_step ((go_at_call 12; exact Calls.quiet_of (HST.out _)))
        repeat (go_big_quiet_step ((go_at_call 11; exact Calls.quiet_of_same (HL7.out _))))
        refine wpQuiet_nil ?_
        rintro _ ⟨nq, rfl⟩
        have HB8 : Hid (Bx l w (w6.drewN nq) p d (k + 1) g (m + 1)) := HB7.out nq
        generalize w6.drewN nq = w8 at HB8 ⊢
        clear kc1 kc2 kc3 kv1 kv2 HL7 HST HB7 HK HLN H5 HG HO4 HBW hcla hcl hcl4 hcl5
        go_wp2
        obtain ⟨wa, hwa⟩ : ∃ wa, wa = wr := ⟨_, rfl⟩
        rw [← hwa] at H HX
        clear hwa
        go_loopw [8] (fun j wr => ∃ i : Nat, j = .int .i64 (i : Int) ∧ i ≤ m + 1 ∧ Hid (Bx l w wr p d (k + 1) g (m + 1))) (fun j _ => m + 1 - (intOf j).toNat)
        case atStart => exact ⟨0, rfl, Nat.zero_le _, HB8⟩
        case round =>
          obtain ⟨i, rfl, him, HQ⟩ := hrel
          clear HB8
          by_cases hi : i < m + 1
          · have hii : (i : Int) < (m : Int) + 1 := by omega
            have hii0 : (0 : Int) ≤ i := by omega
            obtain ⟨v9, hv9⟩ := HQ.out.ce i hi
            have hf9 := HQ.out.fz i
            go_wp2
            refine ⟨⟨i + 1, by go_num, by omega, HQ.out.set i _⟩, by simp [intOf]; omega⟩
          · have hii : ¬ (i : Int) < (m : Int) + 1 := by omega
            go_wp2
            refine ⟨⟨k + 1, by go_num, by omega, HQ.out.bo⟩, by simp [intOf]; omega⟩
      · have hlti : ¬ (k : Int) < L := by omega
        go_wp2
        go_ret
        exact ⟨rfl, H.out.2.bl⟩
end Go.Proofs.Ythoilihokbakoaa
