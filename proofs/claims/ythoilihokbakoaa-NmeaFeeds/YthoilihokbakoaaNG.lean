/- What Feed of the reference's line does. -/
import Derived.Test.YthoilihokbakoaaNF
namespace Go.Proofs.Ythoilihokbakoaa
open Go Go.RowKit
/-- what the reference's Feed answers -/
def RdE (s0 : LS) (b : List UInt8) (w : World) (q : Nat) (e : Ending) (w' : World) : Prop := ∃ u, e = .returned u ∧ Fq w w' q ∧ OwT w' w.heap.size u (fdL s0 b).out ∧ Ld w' q (fdL s0 b).st (fdL s0 b).lost
theorem Fq.alloc {w w' : World} {q : Nat} (h : Fq w w' q) (o : Obj) : Fq w (w'.alloc o) q := h.trans (Fq.of_below ((Below.refl _ _).alloc (Nat.le_refl _) o) (Nat.le_refl _))
theorem OwT.cell {w : World} {B : Nat} {v : Value} {ts : List (List UInt8)} (h : OwT w B v ts) {q j : Nat} (hq : q < B) (x : Value) : OwT (w.setCell ⟨q, j, none⟩ x) B v ts := ownsRow_setCell_below h hq x
theorem Ld.setIn {w : World} {q : Nat} {st : Option (List UInt8)} {n : Nat} (h : Ld w q st n) (cur : List UInt8) : Ld ((w.setCell ⟨q, 0, none⟩ (.bool true)).setCell ⟨q, 1, none⟩ (.string (tx cur))) q (some cur) n := by
  refine ⟨by simpa [World.setCell] using h.lt, fun j => by simp [h.fz j], ?_, ?_, ?_⟩
  · rw [World.cell?_setCell_other (h := ne_off (by decide)), World.cell?_setCell_same _ _ _ h.c0]; rfl
  · rw [World.cell?_setCell_same (w.setCell ⟨q, 0, none⟩ (.bool true)) _ _ (by rw [World.cell?_setCell_other (h := ne_off (by decide))]; exact h.cs)]; rfl
  · rw [World.cell?_setCell_other (h := ne_off (by decide)), World.cell?_setCell_other (h := ne_off (by decide))]; exact h.lo
theorem Ld.setOut {w : World} {q : Nat} {st : Option (List UInt8)} {n : Nat} (h : Ld w q st n) : Ld ((w.setCell ⟨q, 0, none⟩ (.bool false)).setCell ⟨q, 1, none⟩ (.string ⟨#[]⟩)) q none n := by
  refine ⟨by simpa [World.setCell] using h.lt, fun j => by simp [h.fz j], ?_, ?_, ?_⟩
  · rw [World.cell?_setCell_other (h := ne_off (by decide)), World.cell?_setCell_same _ _ _ h.c0]; rfl
  · rw [World.cell?_setCell_same (w.setCell ⟨q, 0, none⟩ (.bool false)) _ _ (by rw [World.cell?_setCell_other (h := ne_off (by decide))]; exact h.cs)]; rfl
  · rw [World.cell?_setCell_other (h := ne_off (by decide)), World.cell?_setCell_other (h := ne_off (by decide))]; exact h.lo
theorem Ld.setLost {w : World} {q : Nat} {st : Option (List UInt8)} {n : Nat} (h : Ld w q st n) (m : Nat) : Ld (w.setCell ⟨q, 2, none⟩ (.int .i64 (m : Int))) q st m := by
  refine ⟨by simpa [World.setCell] using h.lt, fun j => by simp [h.fz j], ?_, ?_, ?_⟩
  · rw [World.cell?_setCell_other (h := ne_off (by decide))]; exact h.c0
  · rw [World.cell?_setCell_other (h := ne_off (by decide))]; exact h.cs
  · rw [World.cell?_setCell_same _ _ _ h.lo]
theorem Ld.setS {w : World} {q : Nat} {cur : List UInt8} {n : Nat} (h : Ld w q (some cur) n) (cur2 : List UInt8) : Ld (w.setCell ⟨q, 1, none⟩ (.string (tx cur2))) q (some cur2) n := by
  refine ⟨by simpa [World.setCell] using h.lt, fun j => by simp [h.fz j], ?_, ?_, ?_⟩
  · rw [World.cell?_setCell_other (h := ne_off (by decide))]; exact h.c0
  · rw [World.cell?_setCell_same _ _ _ h.cs]; rfl
  · rw [World.cell?_setCell_other (h := ne_off (by decide))]; exact h.lo
set_option maxRecDepth 8000 in
set_option maxHeartbeats 4000000 in
theorem rfeed_any (st : Option (List UInt8)) (n0 q N cap : Nat) (ao : Option Addr) (b : List UInt8) (w : World) (hL0 : Ld w q st n0) (hst : ∀ cur, st = some cur → cur.length ≤ 82) (hN : N = b.length) (hb : Rb w q ao b) (hbl : b.length ≤ 1000000) (hn : n0 ≤ 1000000) :
    Calls Try.prog 10 #[.pointer (some ⟨q, 0, none⟩), .slice ao N cap] w (RdE ⟨st, [], n0⟩ b w q) := by
  have hNi : (N : Int) ≤ 1000000 := by omega
  have HB : Hid (Rb w q ao b ∧ N = b.length ∧ q < w.heap.size) := ⟨hb, hN, hL0.lt⟩
  have HL0 : Hid (Ld w q st n0 ∧ ∀ cur, st = some cur → cur.length ≤ 82) := ⟨hL0, hst⟩
  clear hb hN hL0 hst
  go_enter Try.func10, Try.ntmps10
  go_wp2
  go_loopw [5, 6] (fun o i wr => ∃ (v : Value) (k : Nat) (s : Option (List UInt8)) (n : Nat) (O : List (List UInt8)), v = o ∧ i = .int .i64 (k : Int) ∧ Hid (RF ⟨st, [], n0⟩ b w wr q n0 s n v O k)) (fun _ i _ => N - (intOf i).toNat)
  case atStart => exact ⟨_, 0, st, n0, [], rfl, rfl, (Fq.refl _ _).alloc _, HL0.out.1.below ((Below.refl _ _).alloc (Nat.le_refl _) _) HL0.out.1.lt, OwT.fresh _ _ (Nat.le_refl _), Nat.zero_le _, Nat.le_refl _, Nat.le_refl _, rfl, HL0.out.2⟩
  case round =>
    obtain ⟨v, k, s, n, O, rfl, rfl, H⟩ := hrel
    have hki : (k : Int) ≤ N := by have := HB.out.2.1; have := H.out.hk; omega
    by_cases hlt : k < N
    · have hlti : (k : Int) < N := by omega
      obtain ⟨ad, c, hao, hbk, hcell⟩ := (HB.out.1.fq H.out.fr).get (k := k) (by have := HB.out.2.1; omega)
      have hix := idx_b N cap k hao hlti
      have HC : Hid (∀ st2 n2 v2 O2 (w2 : World), Fq w w2 q → Ld w2 q st2 n2 → OwT w2 w.heap.size v2 O2 → stp ⟨s, O, n⟩ c = ⟨st2, O2, n2⟩ → RF ⟨st, [], n0⟩ b w w2 q n0 st2 n2 v2 O2 (k + 1)) := fun st2 n2 v2 O2 w2 h1 h2 h3 h4 => H.out.step hbk h1 h2 h3 h4
      clear hbk hao
      have hfz := H.out.ld.fz
      have hc0 := H.out.ld.c0
      have hcs := H.out.ld.cs
      have hlo := H.out.ld.lo
      have hnb2 : (n : Int) ≤ 4000000 := by have := H.out.lo; have := H.out.hk; omega
      by_cases h36 : (c.toNat : Int) = 36
      · have hb36 : ((c.toNat : Int) == 36) = true := by rw [h36]; rfl
        have HC36 : Hid (c.toNat = 36) := by show _ = _; omega
        clear h36
        cases s with
        | none =>
          simp only [Option.isSome] at hc0
          have HN := HC.out (some []) n v O _ (H.out.fr.cell _ |>.cell _) (H.out.ld.setIn []) ((H.out.ow.cell HB.out.2.2 _).cell HB.out.2.2 _) (stp_begin HC36.out)
          have HN : Hid _ := HN
          go_wp2
          refine ⟨⟨v, k + 1, _, _, _, rfl, by go_num, HN⟩, by simp [intOf]; omega⟩
        | some cur =>
          simp only [Option.isSome] at hc0
          have HN := HC.out (some []) (n + 1) v O _ ((H.out.fr.cell _).cell _ |>.cell _) ((H.out.ld.setLost (n + 1)).setIn []) (((H.out.ow.cell HB.out.2.2 _).cell HB.out.2.2 _).cell HB.out.2.2 _) (stp_again HC36.out)
          have HN : Hid _ := HN
          go_wp2
          refine ⟨⟨v, k + 1, _, _, _, rfl, by go_num, HN⟩, by simp [intOf]; omega⟩
      · have hb36 : ((c.toNat : Int) == 36) = false := by rw [beq_eq_false_iff_ne]; exact h36
        have HC36 : Hid (c.toNat ≠ 36) := by show _ ≠ _; omega
        clear h36
        cases s with
        | none =>
          simp only [Option.isSome] at hc0
          have HN := HC.out none n v O _ H.out.fr H.out.ld H.out.ow (stp_out HC36.out)
          have HN : Hid _ := HN
          go_wp2
          refine ⟨⟨v, k + 1, _, _, _, rfl, by go_num, HN⟩, by simp [intOf]; omega⟩
        | some cur =>
          simp only [Option.isSome] at hc0
          simp only [Option.getD_some] at hcs
          obtain ⟨X, hX⟩ : ∃ X, X = tx cur := ⟨_, rfl⟩
          rw [← hX] at hcs
          have HX : Hid (X = tx cur ∧ X.size = cur.length ∧ cur.length ≤ 82) := ⟨hX, by rw [hX]; rfl, H.out.sl cur rfl⟩
          have hXs : (X.size : Int) ≤ 82 := by have := HX.out; omega
          clear hX
          by_cases h10 : (c.toNat : Int) = 10
          · have hb10 : ((c.toNat : Int) == 10) = true := by rw [h10]; rfl
            have HC10 : Hid (c.toNat = 10) := by show _ = _; omega
            clear h10
            obtain ⟨Y, hY⟩ : ∃ Y, Y = tx (chop cur) := ⟨_, rfl⟩
            have HA : Hid (∀ (u : World) (m : Nat), m = u.heap.size → w.heap.size ≤ u.heap.size → OwT (u.alloc (.cells #[.string Y] 9)) w.heap.size (.slice (some ⟨m, 0, none⟩) 1 1) [chop cur]) := fun u m hm hu => by subst hm; exact OwT.one u _ _ _ hY hu
            have HO : Hid (O.length + [chop cur].length ≤ 8000000) := by have := H.out.ln; have := H.out.hk; show _ ≤ _; simp; omega
            by_cases h13 : cur.getLast? = some 13
            · have hXp : 0 < X.size := by
                rcases Nat.eq_zero_or_pos X.size with h0 | h0
                · have : cur = [] := List.length_eq_zero_iff.1 (by have := HX.out.2.1; omega)
                  rw [this] at h13; cases h13
                · exact h0
              have hXi : 0 < (X.size : Int) := by omega
              have hX1 : (((X[X.size - 1]'(by omega)).toNat : Int) == 13) = true := by rw [tx_cr HX.out.1 hXp]; simpa using h13
              have hX2 : X.extract 0 (X.size - 1) = Y := by rw [hY]; exact tx_chop HX.out.1 h13
              have HU : Hid (Ld (wr.setCell ⟨q, 1, none⟩ (.string Y)) q (some (chop cur)) n ∧ Fq w (wr.setCell ⟨q, 1, none⟩ (.string Y)) q ∧ OwT (wr.setCell ⟨q, 1, none⟩ (.string Y)) w.heap.size v O ∧ w.heap.size ≤ (wr.setCell ⟨q, 1, none⟩ (.string Y)).heap.size) := ⟨by rw [hY]; exact H.out.ld.setS _, H.out.fr.cell _, H.out.ow.cell HB.out.2.2 _, (H.out.fr.cell _).size⟩
              clear hY h13
              go_wp2_with (at_builtin; refine wpList_appTs (by rfl) _ _ 29 (by rfl) Try.underlying29 w.heap.size w.heap.size v _ O [chop cur] (by rfl) (by rfl) (HU.out.2.2.1.alloc _) (HA.out _ _ (by simp) HU.out.2.2.2) HO.out (by have := H.out.fr.size; simp; omega) ?_; intro v2 w2 ho2 hg2 hv2; have HL2 : Hid (Ld w2 q (some (chop cur)) n ∧ Fq w w2 q ∧ OwT w2 w.heap.size v2 (O ++ [chop cur])) := ⟨HU.out.1.app HU.out.2.2.1 HB.out.2.2 ((Below.refl _ _).alloc (Nat.le_refl _) _) hg2, HU.out.2.1.app HU.out.2.2.1 ((Below.refl _ _).alloc (Nat.le_refl _) _) hg2, ho2⟩; have k0 := HL2.out.1.c0; have k1 := HL2.out.1.cs; have kf := HL2.out.1.fz; simp only [Option.isSome, Option.getD_some] at k0 k1; have HN := HC.out none n v2 (O ++ [chop cur]) _ (HL2.out.2.1.cell _ |>.cell _) HL2.out.1.setOut ((HL2.out.2.2.cell HB.out.2.2 _).cell HB.out.2.2 _) (stp_done HC10.out); have HN : Hid _ := HN; clear ho2 hg2 hv2)
              refine ⟨⟨v2, k + 1, _, _, _, rfl, by go_num, HN⟩, by simp [intOf]; omega⟩
            · have hYX : X = Y := by rw [hY, HX.out.1]; unfold chop; rw [if_neg h13]
              have HU : Hid (Ld wr q (some (chop cur)) n ∧ Fq w wr q ∧ OwT wr w.heap.size v O ∧ w.heap.size ≤ wr.heap.size) := ⟨by (have h5 := H.out.ld; have h6 : chop cur = cur := (by unfold chop; rw [if_neg h13]); rw [h6]; exact h5), H.out.fr, H.out.ow, H.out.fr.size⟩
              subst hYX
              by_cases h0 : X.size = 0
              · have h0i : (X.size : Int) = 0 := by omega
                clear hY h13 h0
                go_wp2_with (at_builtin; refine wpList_appTs (by rfl) _ _ 29 (by rfl) Try.underlying29 w.heap.size w.heap.size v _ O [chop cur] (by rfl) (by rfl) (HU.out.2.2.1.alloc _) (HA.out _ _ (by simp) HU.out.2.2.2) HO.out (by have := H.out.fr.size; simp; omega) ?_; intro v2 w2 ho2 hg2 hv2; have HL2 : Hid (Ld w2 q (some (chop cur)) n ∧ Fq w w2 q ∧ OwT w2 w.heap.size v2 (O ++ [chop cur])) := ⟨HU.out.1.app HU.out.2.2.1 HB.out.2.2 ((Below.refl _ _).alloc (Nat.le_refl _) _) hg2, HU.out.2.1.app HU.out.2.2.1 ((Below.refl _ _).alloc (Nat.le_refl _) _) hg2, ho2⟩; have k0 := HL2.out.1.c0; have k1 := HL2.out.1.cs; have kf := HL2.out.1.fz; simp only [Option.isSome, Option.getD_some] at k0 k1; have HN := HC.out none n v2 (O ++ [chop cur]) _ (HL2.out.2.1.cell _ |>.cell _) HL2.out.1.setOut ((HL2.out.2.2.cell HB.out.2.2 _).cell HB.out.2.2 _) (stp_done HC10.out); have HN : Hid _ := HN; clear ho2 hg2 hv2)
                refine ⟨⟨v2, k + 1, _, _, _, rfl, by go_num, HN⟩, by simp [intOf]; omega⟩
              · have h0i : 0 < (X.size : Int) := by omega
                have hX1 : (((X[X.size - 1]'(by omega)).toNat : Int) == 13) = false := by rw [tx_cr HX.out.1 (by omega)]; simpa using h13
                clear hY h13
                go_wp2_with (at_builtin; refine wpList_appTs (by rfl) _ _ 29 (by rfl) Try.underlying29 w.heap.size w.heap.size v _ O [chop cur] (by rfl) (by rfl) (HU.out.2.2.1.alloc _) (HA.out _ _ (by simp) HU.out.2.2.2) HO.out (by have := H.out.fr.size; simp; omega) ?_; intro v2 w2 ho2 hg2 hv2; have HL2 : Hid (Ld w2 q (some (chop cur)) n ∧ Fq w w2 q ∧ OwT w2 w.heap.size v2 (O ++ [chop cur])) := ⟨HU.out.1.app HU.out.2.2.1 HB.out.2.2 ((Below.refl _ _).alloc (Nat.le_refl _) _) hg2, HU.out.2.1.app HU.out.2.2.1 ((Below.refl _ _).alloc (Nat.le_refl _) _) hg2, ho2⟩; have k0 := HL2.out.1.c0; have k1 := HL2.out.1.cs; have kf := HL2.out.1.fz; simp only [Option.isSome, Option.getD_some] at k0 k1; have HN := HC.out none n v2 (O ++ [chop cur]) _ (HL2.out.2.1.cell _ |>.cell _) HL2.out.1.setOut ((HL2.out.2.2.cell HB.out.2.2 _).cell HB.out.2.2 _) (stp_done HC10.out); have HN : Hid _ := HN; clear ho2 hg2 hv2)
                refine ⟨⟨v2, k + 1, _, _, _, rfl, by go_num, HN⟩, by simp [intOf]; omega⟩
          · have hb10 : ((c.toNat : Int) == 10) = false := by rw [beq_eq_false_iff_ne]; exact h10
            have HC10 : Hid (c.toNat ≠ 10) := by show _ ≠ _; omega
            clear h10
            have HZ : Hid (X ++ tx [c] = tx (cur ++ [c])) := by show _ = _; rw [HX.out.1]; apply ByteArray.ext; unfold tx; simp
            obtain ⟨Z, hZ⟩ : ∃ Z, X ++ tx [c] = Z := ⟨_, rfl⟩
            obtain ⟨T, hT⟩ : ∃ T, T = tx [c] := ⟨_, rfl⟩
            have hTs : T.size = 1 := by rw [hT]; rfl
            have hcat : ¬ 9223372036854775807 < X.size + 1 := by have := HX.out; omega
            rw [← hT] at hZ HZ
            have hcv : (convert 31 9 (.slice (some ⟨wr.heap.size, 0, none⟩) 1 1)).run Try.prog (wr.alloc (.cells #[.int .u8 (c.toNat : Int)] 5)).drew = .ok (.string T) (wr.alloc (.cells #[.int .u8 (c.toNat : Int)] 5)).drew := by
              rw [hT]
              refine conv_b _ ⟨wr.heap.size, 0, none⟩ 1 [c] (fun j hj => ?_)
              have hj0 : j = 0 := by simp at hj; omega
              subst hj0
              rw [add_own]
              exact World.cell?_alloc_new wr _ _ 0
            have hql : q < wr.heap.size := H.out.ld.lt
            have HW8 : Hid (Ld (wr.setCell ⟨q, 1, none⟩ (.string Z)) q (some (cur ++ [c])) n ∧ Fq w (wr.setCell ⟨q, 1, none⟩ (.string Z)) q ∧ OwT (wr.setCell ⟨q, 1, none⟩ (.string Z)) w.heap.size v O) := by
              refine ⟨?_, H.out.fr.cell _, H.out.ow.cell HB.out.2.2 _⟩
              rw [show Z = tx (cur ++ [c]) from hZ.symm.trans HZ.out]
              exact H.out.ld.setS _
            have HNo : Hid (mtB cur c = true → RF ⟨st, [], n0⟩ b w ((wr.setCell ⟨q, 1, none⟩ (.string Z)).alloc (.cells #[.int .u8 (c.toNat : Int)] 5)).drew q n0 (some (cur ++ [c])) n v O (k + 1)) := fun hm => HC.out _ _ _ _ _ ((HW8.out.2.1.alloc _).drew) (HW8.out.1.below (((Below.refl _ _).alloc (Nat.le_refl _) _).drew) HW8.out.1.lt) ((HW8.out.2.2.alloc _).drew) (stp_take HC36.out HC10.out hm)
            have HW9 : Hid (Ld ((((wr.setCell ⟨q, 1, none⟩ (.string Z)).setCell ⟨q, 2, none⟩ (.int .i64 ((n : Int) + 1))).setCell ⟨q, 0, none⟩ (.bool false)).setCell ⟨q, 1, none⟩ (.string ⟨#[]⟩)) q none (n + 1) ∧ Fq w ((((wr.setCell ⟨q, 1, none⟩ (.string Z)).setCell ⟨q, 2, none⟩ (.int .i64 ((n : Int) + 1))).setCell ⟨q, 0, none⟩ (.bool false)).setCell ⟨q, 1, none⟩ (.string ⟨#[]⟩)) q ∧ OwT ((((wr.setCell ⟨q, 1, none⟩ (.string Z)).setCell ⟨q, 2, none⟩ (.int .i64 ((n : Int) + 1))).setCell ⟨q, 0, none⟩ (.bool false)).setCell ⟨q, 1, none⟩ (.string ⟨#[]⟩)) w.heap.size v O) := ⟨(HW8.out.1.setLost (n + 1)).setOut, ((HW8.out.2.1.cell _).cell _).cell _, ((HW8.out.2.2.cell HB.out.2.2 _).cell HB.out.2.2 _).cell HB.out.2.2 _⟩
            have HNb : Hid (mtB cur c = false → RF ⟨st, [], n0⟩ b w (((((wr.setCell ⟨q, 1, none⟩ (.string Z)).setCell ⟨q, 2, none⟩ (.int .i64 ((n : Int) + 1))).setCell ⟨q, 0, none⟩ (.bool false)).setCell ⟨q, 1, none⟩ (.string ⟨#[]⟩)).alloc (.cells #[.int .u8 (c.toNat : Int)] 5)).drew q n0 none (n + 1) v O (k + 1)) := fun hm => HC.out _ _ _ _ _ ((HW9.out.2.1.alloc _).drew) (HW9.out.1.below (((Below.refl _ _).alloc (Nat.le_refl _) _).drew) HW9.out.1.lt) ((HW9.out.2.2.alloc _).drew) (stp_lose HC36.out HC10.out hm)
            clear hT HC HW8 HW9
            by_cases h13 : cur.getLast? = some 13
            · have hm : mtB cur c = false := by unfold mtB; simp [h13]
              have hXp : 0 < X.size := by
                rcases Nat.eq_zero_or_pos X.size with h0 | h0
                · have : cur = [] := List.length_eq_zero_iff.1 (by have := HX.out.2.1; omega)
                  rw [this] at h13; cases h13
                · exact h0
              have hXi : 0 < (X.size : Int) := by omega
              have hX1 : (((X[X.size - 1]'(by omega)).toNat : Int) == 13) = true := by rw [tx_cr HX.out.1 hXp]; simpa using h13
              clear h13
              go_wp2
              go_region
              go_wp2
              refine ⟨⟨v, k + 1, _, _, _, rfl, by go_num, HNb.out hm⟩, by simp [intOf]; omega⟩
            · have HN13 : Hid (cur.getLast? ≠ some 13) := h13
              by_cases h0 : X.size = 0
              · have h0i : (X.size : Int) = 0 := by omega
                have HL : Hid (cur.length < 82) := by have := HX.out; show _ < _; omega
                clear h13 h0
                by_cases hc13 : (c.toNat : Int) = 13
                · have hm : mtB cur c = true := by unfold mtB; have := HL.out; have := HN13.out; simp; refine ⟨by omega, this, ?_⟩; omega
                  have hbc : ((c.toNat : Int) != 13) = false := by rw [hc13]; rfl
                  clear hc13
                  go_wp2
                  go_region
                  go_wp2
                  refine ⟨⟨v, k + 1, _, _, _, rfl, by go_num, HNo.out hm⟩, by simp [intOf]; omega⟩
                · have hbc : ((c.toNat : Int) != 13) = true := by rw [bne_iff_ne]; exact hc13
                  have HC13 : Hid (c.toNat ≠ 13) := by show _ ≠ _; omega
                  clear hc13
                  by_cases hc32 : (c.toNat : Int) < 32
                  · have hm : mtB cur c = false := by unfold mtB; have := HC13.out; simp [this]; omega
                    go_wp2
                    go_region
                    go_wp2
                    refine ⟨⟨v, k + 1, _, _, _, rfl, by go_num, HNb.out hm⟩, by simp [intOf]; omega⟩
                  · by_cases hc126 : 126 < (c.toNat : Int)
                    · have hm : mtB cur c = false := by unfold mtB; have := HC13.out; simp [this]; omega
                      go_wp2
                      go_region
                      go_wp2
                      refine ⟨⟨v, k + 1, _, _, _, rfl, by go_num, HNb.out hm⟩, by simp [intOf]; omega⟩
                    · have hm : mtB cur c = true := by unfold mtB; have := HL.out; have := HN13.out; simp; refine ⟨by omega, this, ?_⟩; omega
                      go_wp2
                      go_region
                      go_wp2
                      refine ⟨⟨v, k + 1, _, _, _, rfl, by go_num, HNo.out hm⟩, by simp [intOf]; omega⟩
              · have h0i : 0 < (X.size : Int) := by omega
                have hX1 : (((X[X.size - 1]'(by omega)).toNat : Int) == 13) = false := by rw [tx_cr HX.out.1 (by omega)]; simpa using h13
                clear h13
                by_cases h82 : X.size = 82
                · have hm : mtB cur c = false := by unfold mtB; have := HX.out.2.1; simp; omega
                  have h82i : 82 < (X.size : Int) + 1 := by omega
                  clear h82
                  go_wp2
                  go_region
                  go_wp2
                  refine ⟨⟨v, k + 1, _, _, _, rfl, by go_num, HNb.out hm⟩, by simp [intOf]; omega⟩
                · have h82i : (X.size : Int) + 1 ≤ 82 := by have := HX.out; omega
                  have HL : Hid (cur.length < 82) := by have := HX.out; show _ < _; omega
                  clear h82
                  by_cases hc13 : (c.toNat : Int) = 13
                  · have hm : mtB cur c = true := by unfold mtB; have := HL.out; have := HN13.out; simp; refine ⟨by omega, this, ?_⟩; omega
                    have hbc : ((c.toNat : Int) != 13) = false := by rw [hc13]; rfl
                    clear hc13
                    go_wp2
                    go_region
                    go_wp2
                    refine ⟨⟨v, k + 1, _, _, _, rfl, by go_num, HNo.out hm⟩, by simp [intOf]; omega⟩
                  · have hbc : ((c.toNat : Int) != 13) = true := by rw [bne_iff_ne]; exact hc13
                    have HC13 : Hid (c.toNat ≠ 13) := by show _ ≠ _; omega
                    clear hc13
                    by_cases hc32 : (c.toNat : Int) < 32
                    · have hm : mtB cur c = false := by unfold mtB; have := HC13.out; simp [this]; omega
                      go_wp2
                      go_region
                      go_wp2
                      refine ⟨⟨v, k + 1, _, _, _, rfl, by go_num, HNb.out hm⟩, by simp [intOf]; omega⟩
                    · by_cases hc126 : 126 < (c.toNat : Int)
                      · have hm : mtB cur c = false := by unfold mtB; have := HC13.out; simp [this]; omega
                        go_wp2
                        go_region
                        go_wp2
                        refine ⟨⟨v, k + 1, _, _, _, rfl, by go_num, HNb.out hm⟩, by simp [intOf]; omega⟩
                      · have hm : mtB cur c = true := by unfold mtB; have := HL.out; have := HN13.out; simp; refine ⟨by omega, this, ?_⟩; omega
                        go_wp2
                        go_region
                        go_wp2
                        refine ⟨⟨v, k + 1, _, _, _, rfl, by go_num, HNo.out hm⟩, by simp [intOf]; omega⟩
    · have HE : Hid (fdL ⟨st, [], n0⟩ b = ⟨s, O, n⟩) := by
        have h1 := H.out.fd
        rw [List.take_of_length_le (by have := HB.out.2.1; omega)] at h1
        exact h1
      have hge : ¬ (k : Int) < N := by omega
      go_wp2
      go_ret
      refine ⟨v, rfl, H.out.fr, ?_, ?_⟩
      · rw [HE.out]; exact H.out.ow
      · rw [HE.out]; exact H.out.ld
end Go.Proofs.Ythoilihokbakoaa
