/- The law NmeaTold, walked. -/
import Derived.Test.YthoilihokbakoaaNL
namespace Go.Proofs.Ythoilihokbakoaa
open Go Go.RowKit
theorem Own.rb {w : World} {B q n cap : Nat} {ao : Option Addr} {b : List UInt8} (h : Own w B (.slice ao n cap) (ib b)) (hq : q < B ∨ w.heap.size ≤ q) : Rb w q ao b ∧ n = b.length := by
  obtain ⟨a1, c1, e1, h2, h3, h4, -⟩ := h.rs
  injection e1 with e1 e2 _
  subst e1
  refine ⟨fun k hk => ?_, by rw [e2, ib_len]⟩
  obtain ⟨ad, g1, g2, g3⟩ := h3 k (by rw [ib_len]; exact hk)
  rw [ib_at b k hk] at g3
  have := (h4 ad g1)
  exact ⟨ad, g1, this.2, by omega, g3⟩
theorem Own.form {w : World} {B : Nat} {v : Value} {bs : List Int} (h : Own w B v bs) : ∃ ao n cap, v = .slice ao n cap := by
  obtain ⟨ao, cap, h1, -⟩ := h.rs
  exact ⟨ao, _, cap, h1⟩
theorem Own.lt' {w : World} {B : Nat} {v : Value} {bs : List Int} (h : Own w B v bs) : ∀ k, v.ownBlock = some k → B ≤ k := fun k e => (World.ownsRow.lt h k e).1
theorem OwT.single {w : World} {B : Nat} {v : Value} {t : List UInt8} (h : OwT w B v [t]) : ∃ g cap, v = .slice (some ⟨g, 0, none⟩) 1 cap ∧ w.cell? ⟨g, 0, none⟩ = some (.string (tx t)) := by
  rcases h.2 with ⟨h1, h2⟩ | ⟨g, cap, cur, h1, h2, h3, h4, h5, h6, h7⟩
  · simp at h2
  · refine ⟨g, cap, h1, ?_⟩
    rw [cell_of_row w g 0 cur 9 (0, 0) h3]
    have e := SU_get [t] 0 (by simp)
    rw [← h7, List.getElem?_take_of_lt (by simp)] at e
    simpa using e
/-- the line behind bytes that are appended -/
structure TI (w wr : World) (p B : Nat) (st : Option (List UInt8)) (n : Nat) (x : Value) (bs : List Int) : Prop where
  bl : Below w.heap.size w wr
  ln : Ln wr p st n
  ow : Own wr B x bs
  p0 : w.heap.size ≤ p
  pB : p < B
  sB : B ≤ wr.heap.size
theorem TI.app {w wr W w2 : World} {p B : Nat} {st : Option (List UInt8)} {n : Nat} {x x2 : Value} {bs cs : List Int} (h : TI w wr p B st n x bs) (hb : Below wr.heap.size wr W) (ho : Own w2 B x2 cs) (hg : W.grownBy w2 x.ownBlock) : TI w w2 p B st n x2 cs := by
  have hw := h.bl.size
  have hp0 := h.p0
  have hpB := h.pB
  refine ⟨(h.bl.trans (hb.mono hw)).grown hg (Nat.le_trans hw hb.size) (fun k e => by have := h.ow.lt' k e; omega), ?_, ho, h.p0, h.pB, Nat.le_trans (Nat.le_trans h.sB hb.size) hg.size⟩
  have h1 := h.ln.below hb h.ln.lt
  exact h1.kept (hg.block p h1.lt (fun e => by have := h.ow.lt' p e.symm; omega)) hg.size
set_option maxRecDepth 4000 in
set_option maxHeartbeats 4000000 in
theorem NmeaTold_row (bv : Value) (s : ByteArray) (b : List UInt8) (w : World) (hb : Sv w.heap.size w bv (ib b)) (_hbl : b.length ≤ maxLen) (hs : s.size ≤ maxLen) :
    Calls Try.prog 6 #[bv, .string s] w fun e w' => e = .returned (.bool true) ∧ Below w.heap.size w w' := by
  have HSv := hb
  obtain ⟨ao, cap, rfl, -⟩ := hb
  rw [ib_len] at HSv ⊢
  obtain ⟨N, hN⟩ : ∃ N, N = b.length := ⟨_, rfl⟩
  rw [← hN] at HSv ⊢
  have HB : Hid (Sv w.heap.size w (.slice ao N cap) (ib b) ∧ N = b.length) := ⟨HSv, hN⟩
  have HPL : Hid (Calls Try.prog 13 #[.string s] w fun e w' => PlR s e ∧ w' = w) := plain_any s w hs
  clear HSv
  by_cases h6 : N ≤ 65536
  · have h6i : (N : Int) ≤ 65536 := by omega
    clear h6 hN
    go_enter Try.func6, Try.ntmps6
    go_wp2_with fail
    refine HPL.out.mono ?_
    rintro e w' ⟨⟨B, rfl, hB⟩, hw'⟩
    rw [hw']
    clear hw' HPL
    cases B with
    | false =>
      go_wp2
      go_ret
      exact ⟨rfl, Below.refl _ _⟩
    | true =>
      have HS : Hid (plainL s.data.toList) := hB rfl
      have hss : s.data.toList.length = s.size := by simp
      have hs81 : (s.size : Int) ≤ 81 := by have := HS.out.2; omega
      have HZ : Hid (s.data.toList.length = s.size) := hss
      clear hB hss
      go_wp2_with (go_at_call 8; refine (new_any _).mono ?_; rintro e w1 ⟨rfl, hn1, hb1⟩; have HN1 : Hid (Ln w1 w.heap.size none 0 ∧ Below w.heap.size w w1) := ⟨hn1, hb1⟩; clear hn1 hb1)
      obtain ⟨p, hpe⟩ : ∃ p, p = w.heap.size := ⟨_, rfl⟩
      have HP : Hid (p = w.heap.size) := hpe
      have HF : Hid (Calls Try.prog 9 #[.pointer (some ⟨p, 0, none⟩), .slice ao N cap] w1 (FdE ⟨none, [], 0⟩ b w1 p)) := feed_any _ _ p N cap ao b w1 (by rw [hpe]; exact HN1.out.1) HB.out.2 ((HB.out.1.below HN1.out.2 (Nat.le_refl _)).rb HN1.out.2.size (by omega)) (by have := HB.out.2; omega) (by omega)
      rw [← hpe]
      clear hpe
      refine HF.out.mono ?_
      rintro e w2 ⟨u, rfl, f1, o1, l1⟩
      have HT : Hid (TI w w2 p (p + 1) (fdL ⟨none, [], 0⟩ b).st (fdL ⟨none, [], 0⟩ b).lost (.slice none 0 0) []) := by
        have hp := HP.out
        have h2 := l1.lt
        exact ⟨HN1.out.2.trans (f1.below HN1.out.2.size (by omega)), l1, Own.nil _ _, by omega, by omega, by omega⟩
      have HLO : Hid ((fdL ⟨none, [], 0⟩ b).lost ≤ 65536) := by
        have := fdL_grow b ⟨none, [], 0⟩
        simp [opn] at this
        have := HB.out.2
        show _ ≤ _
        omega
      clear f1 o1 l1 HF HN1
      have HO : Hid (TI w (w2.alloc (.cells #[] 5)) p (p + 1) (fdL ⟨none, [], 0⟩ b).st (fdL ⟨none, [], 0⟩ b).lost (.slice (some ⟨w2.heap.size, 0, none⟩) 0 0) []) :=
        ⟨HT.out.bl.alloc HT.out.bl.size _, HT.out.ln.below ((Below.refl _ _).alloc (Nat.le_refl _) _) HT.out.ln.lt, Own.made w2 _ HT.out.sB, HT.out.p0, HT.out.pB, by have := HT.out.sB; simp; omega⟩
      have HS1 : Hid (Sv (w2.heap.size + 1 + 1) ((w2.alloc (.cells #[] 5)).alloc (.cells #[.int .u8 36] 5)) (.slice (some ⟨w2.heap.size + 1, 0, none⟩) 1 1) (ib [36])) := Sv.new (w2.alloc (.cells #[] 5)) #[.int .u8 36] (ib [36]) rfl (ib_ok _) 1 (w2.heap.size + 1) rfl (by simp)
      obtain ⟨st, hst⟩ : ∃ st, st = (fdL ⟨none, [], 0⟩ b).st := ⟨_, rfl⟩
      obtain ⟨n, hn⟩ : ∃ n, n = (fdL ⟨none, [], 0⟩ b).lost := ⟨_, rfl⟩
      rw [← hst, ← hn] at HO
      rw [← hn] at HLO
      clear hst hn HT
      go_wp2_with (first
        | (at_builtin; refine wpList_app8 (by rfl) _ _ 31 (by rfl) Try.underlying31 (p + 1) (w2.heap.size + 1 + 1) (.slice (some ⟨w2.heap.size, 0, none⟩) 0 0) _ [] (ib [36]) (by rfl) (by rfl) (HO.out.ow.alloc _) HS1.out (by simp [ib]) (by have := HO.out.sB; simp at this ⊢; omega) ?_; intro v3 w3 ho3 hg3 hv3; have HT1 : Hid (TI w w3 p (p + 1) st n v3 (ib [36])) := HO.out.app ((Below.refl _ _).alloc (Nat.le_refl _) _) ho3 hg3; clear ho3 hg3 hv3 HO HS1)
        | (at_builtin; refine wpList_apps (by rfl) _ _ 31 (by rfl) Try.underlying31 (p + 1) v3 (ib [36]) s (by rfl) (by rfl) HT1.out.ow (by simp [ib]; omega) HT1.out.sB ?_; intro v4 w4 ho4 hg4; have HT2 : Hid (TI w w4 p (p + 1) st n v4 (ib [36] ++ ib s.data.toList)) := HT1.out.app (Below.refl _ _) ho4 hg4; clear ho4 hg4 HT1)
        | (at_builtin; refine wpList_app8 (by rfl) _ _ 31 (by rfl) Try.underlying31 (p + 1) (w4.heap.size + 1) v4 _ (ib [36] ++ ib s.data.toList) (ib [13, 10]) (by rfl) (by rfl) (HT2.out.ow.alloc _) (Sv.new w4 #[.int .u8 13, .int .u8 10] (ib [13, 10]) rfl (ib_ok _) 2 w4.heap.size rfl rfl) (by have := HZ.out; simp [ib]; omega) (by have := HT2.out.sB; simp; omega) ?_; intro v5 w5 ho5 hg5 hv5; have HT3 : Hid (TI w w5 p (p + 1) st n v5 (ib [36] ++ ib s.data.toList ++ ib [13, 10])) := HT2.out.app ((Below.refl _ _).alloc (Nat.le_refl _) _) ho5 hg5; clear ho5 hg5 hv5 HT2))
      have HFX : Hid (Calls Try.prog 9 #[.pointer (some ⟨p, 0, none⟩), v5] w5 (FdE ⟨st, [], n⟩ ([36] ++ s.data.toList ++ [13, 10]) w5 p)) := by
        obtain ⟨a5, n5, c5, rfl⟩ := HT3.out.ow.form
        have ho := HT3.out.ow
        rw [← ib_app, ← ib_app] at ho
        obtain ⟨h1, h2⟩ := ho.rb (q := p) (.inl HT3.out.pB)
        have h3 := HS.out.2
        exact feed_any st n p n5 c5 a5 _ w5 HT3.out.ln h2 h1 (by simp at h3 ⊢; omega) (by have := HLO.out; omega)
      refine HFX.out.mono ?_
      rintro e w6 ⟨u2, rfl, f6, o6, l6⟩
      have hout : (fdL ⟨st, [], n⟩ ([36] ++ s.data.toList ++ [13, 10])).out = [s.data.toList] := by
        rw [fdL_from]
        simpa using fdL_told st s.data.toList HS.out
      rw [hout] at o6
      obtain ⟨g, c6, rfl, hc6⟩ := o6.single
      rw [tx_of] at hc6
      have HB6 : Hid (Below w.heap.size w w6) := HT3.out.bl.trans (f6.below HT3.out.bl.size HT3.out.p0)
      clear f6 o6 l6 hout HFX HT3
      go_wp2
      go_ret
      exact ⟨rfl, HB6.out⟩
  · have h6i : (65536 : Int) < N := by omega
    clear h6 hN
    go_enter Try.func6, Try.ntmps6
    go_wp2
    go_ret
    exact ⟨rfl, Below.refl _ _⟩
end Go.Proofs.Ythoilihokbakoaa
