/- What the writer's number and bytes leave as it was. -/
import Derived.Test.YtdobghhjlfffpaaXD
namespace Go.Proofs.Ytdobghhjlfffpaa
open Go.RowKit
/-- all blocks but the writer's and its row are as they were -/
structure Fr (q : Nat) (v v' : Value) (w w' : World) : Prop where
  size : w.heap.size ≤ w'.heap.size
  block : ∀ k, k < w.heap.size → k ≠ q → some k ≠ v.ownBlock → w'.heap[k]? = w.heap[k]?
  own : v'.ownBlock = v.ownBlock ∨ ∃ g, v'.ownBlock = some g ∧ w.heap.size ≤ g
theorem Fr.refl (q : Nat) (v : Value) (w : World) : Fr q v v w w := ⟨Nat.le_refl _, fun _ _ _ _ => rfl, .inl rfl⟩
theorem Fr.trans {q : Nat} {v v1 v2 : Value} {w w1 w2 : World} (a : Fr q v v1 w w1) (b : Fr q v1 v2 w1 w2) : Fr q v v2 w w2 := by
  refine ⟨Nat.le_trans a.size b.size, fun k hk hq hv => ?_, ?_⟩
  · rw [b.block k (Nat.lt_of_lt_of_le hk a.size) hq ?_, a.block k hk hq hv]
    rcases a.own with h | ⟨g, h, hg⟩
    · rw [h]; exact hv
    · rw [h]; intro e; injection e with e; omega
  · rcases b.own with h | ⟨g, h, hg⟩
    · rw [h]; exact a.own
    · exact .inr ⟨g, h, Nat.le_trans a.size hg⟩
theorem Fr.grow {q : Nat} {v v' : Value} {w w' : World} (hg : w.grownBy w' v.ownBlock) (ho : v'.ownBlock = v.ownBlock ∨ v'.ownBlock = some w.heap.size) : Fr q v v' w (w'.setCell ⟨q, 0, none⟩ v') := by
  refine ⟨by simpa [World.setCell] using hg.size, fun k hk hq hv => ?_, ?_⟩
  · rw [Below.heap_setCell _ _ _ _ hq, hg.block k hk hv]
  · rcases ho with h | h
    · exact .inl h
    · exact .inr ⟨_, h, Nat.le_refl _⟩
theorem Ap.fr {B q : Nat} {w w2 : World} {u : Value} {L : Nat} {bs : List Int} {g cap : Nat} {b : Int} (a : Ap B w w2 u L (U bs) g cap b) (_h : Wr B q w u bs) : Fr q u (.slice (some ⟨g, 0, none⟩) (L + 1) cap) w (w2.setCell ⟨q, 0, none⟩ (.slice (some ⟨g, 0, none⟩) (L + 1) cap)) := by
  obtain ⟨o, hg⟩ := a.gr
  refine ⟨?_, fun k hk hq hv => ?_, ?_⟩
  · have := hg.size; simp at this; simp [World.setCell]; omega
  · rw [Below.heap_setCell _ _ _ _ hq, hg.block k (by simp; omega) hv, Below.heap_alloc _ _ _ hk]
  · rcases a.at_ with x | x
    · exact .inl x.symm
    · exact .inr ⟨g, rfl, by omega⟩
theorem Ck.fr {p q : Nat} {v v' : Value} {w w' : World} {cs : Array Value} (h : Ck p w cs) (f : Fr q v v' w w') (hq : p ≠ q) (hv : some p ≠ v.ownBlock) : Ck p w' cs :=
  ⟨Nat.lt_of_lt_of_le h.lt f.size, fun j => by rw [World.cell?_of_block (w := w) (f.block p h.lt hq hv)]; exact h.at_ j⟩
set_option maxHeartbeats 2000000 in
theorem number_fr (B q : Nat) (v : Value) (bs : List Int) (k : Nat) (n : Int) (w : World) (hk : (k : Int) ≤ 8) (hl : (bs.length : Int) ≤ 100000) (h : Wr B q w v bs) :
    Calls Try.prog 23 #[.pointer (some ⟨q, 0, none⟩), .int .i64 k, .int .u64 n] w fun e w' => e = .returned (.tuple #[]) ∧ Below B w w' ∧ ∃ v', Wr B q w' v' (bs ++ be k n) ∧ Fr q v v' w w' := by
  have HW : Hid (Wr B q w v bs) := h
  clear h
  obtain ⟨i0, hi, hz0, hz1, hz2⟩ := info5_parts
  go_enter Try.func23, Try.ntmps23
  go_wp2
  go_loopw [8] (fun i wr => ∃ (j : Nat) (u : Value), i = .int .i64 (j : Int) ∧ (j : Int) ≤ k ∧ Hid (NS B q w wr k n bs j u ∧ Fr q v u w wr)) (fun i _ => (k - intOf i).toNat)
  case atStart => exact ⟨0, v, rfl, by omega, ⟨by simpa using HW.out, Below.refl _ _⟩, Fr.refl _ _ _⟩
  case round =>
    obtain ⟨j, u, rfl, hj, hN2⟩ := hrel
    have hN : Hid (NS B q w wr k n bs j u) := hN2.out.1
    have hFr : Hid (Fr q v u w wr) := hN2.out.2
    clear hN2
    by_cases hlt : (j : Int) < k
    · have a0 := hN.out.st.c
      have af := hN.out.st.f
      obtain ⟨K1, hK1⟩ : ∃ K1 : Int, K1 = (k : Int) - 1 := ⟨_, rfl⟩
      obtain ⟨D, hD⟩ : ∃ D : Int, D = K1 - j := ⟨_, rfl⟩
      obtain ⟨S, hS⟩ : ∃ S : Int, S = 8 * D := ⟨_, rfl⟩
      have s0 : 0 ≤ S := by omega
      have s1 : S < 64 := by omega
      have d0 : 0 ≤ D := by omega
      have d1 : D < 8 := by omega
      have k0 : 0 ≤ K1 := by omega
      have k1 : K1 < 8 := by omega
      have HX := shr_by8 n k j S (by omega) (by omega)
      obtain ⟨X, hX⟩ : ∃ X : Int, X = n / 2 ^ S.toNat := ⟨_, rfl⟩
      obtain ⟨b, hb⟩ : ∃ b : Int, b = by8 n (k - 1 - j) := ⟨_, rfl⟩
      rw [← hX, ← hb] at HX
      have HB : Hid (b = by8 n (k - 1 - j)) := hb
      have e1 : IntKind.i64.wrap ((k : Int) - 1) = K1 := by rw [← hK1]; simp only [IntKind.wrap_i64]; omega
      have e2 : IntKind.i64.wrap (K1 - j) = D := by rw [← hD]; simp only [IntKind.wrap_i64]; omega
      have e3 : IntKind.i64.wrap (8 * D) = S := by rw [← hS]; simp only [IntKind.wrap_i64]; omega
      have e4 : n / 2 ^ S.toNat = X := hX.symm
      have e5 : IntKind.u8.wrap X = b := by simp only [IntKind.wrap_u8]; exact HX
      have b0 := (by8_bd n (k - 1 - j)).1
      have b1 := (by8_bd n (k - 1 - j)).2
      rw [← hb] at b0 b1
      clear hX hb HX hS hD hK1
      go_wp2
      have hO : Hid (wr.ownsRow B 5 1 u (bs ++ (be k n).take j).length (U (bs ++ (be k n).take j))) := hN.out.st.own
      obtain ⟨L, hL⟩ : ∃ L, L = (bs ++ (be k n).take j).length := ⟨_, rfl⟩
      rw [← hL] at hO
      have hL1 : L ≤ 100008 := by rw [hL, List.length_append, List.length_take, be_len]; omega
      have HL : Hid (L = (bs ++ (be k n).take j).length) := hL
      clear hL
      have hBs : B ≤ wr.heap.size := Nat.le_trans hN.out.st.hB (Nat.le_of_lt hN.out.st.hq)
      have a1 := (hN.out.st.alloc (.cells #[.int .u8 b] 5)).c
      go_region_law ((refine step_append_lies _ (by rfl) _ _ 27 (by rfl) B 5 i0 (.int .u8 0) 1 1 Try.underlying27 hi hz0 hz1 hz2 rfl (by decide) u L _ (by rfl) (hO.out.alloc _) ⟨wr.heap.size, 0, none⟩ 1 1 [.int .u8 b] (by rfl) (by rfl) (World.news_of_block (heap_alloc_new wr _)) (by simp [Value.oneCell']) (by decide) (by unfold maxLen; omega) (by omega) (by simp; omega) (wr.heap.size + 1) (by simp) ?_; intro g cap w2 hown hgrow hat hlt2; have hA : Hid (Ap B wr w2 u L (U (bs ++ (be k n).take j)) g cap b) := ⟨hown, ⟨_, ⟨hgrow.os, hgrow.tape, hgrow.output, hgrow.size, hgrow.block⟩⟩, hat⟩; have c2 := hN.out.st.far (o := .cells #[.int .u8 b] 5) ⟨hgrow.os, hgrow.tape, hgrow.output, hgrow.size, hgrow.block⟩; have f2 := hN.out.st.farF (o := .cells #[.int .u8 b] 5) ⟨hgrow.os, hgrow.tape, hgrow.output, hgrow.size, hgrow.block⟩; clear hown hgrow hat hlt2))
      all_goals
        go_wp2
        have k1 := hN.out.st.one HL.out hN.out.bel hA.out
        exact ⟨⟨j + 1, _, by go_num, by omega, ⟨by rw [be_take k n j (by omega), ← List.append_assoc, ← HB.out]; exact k1.1, k1.2⟩, hFr.out.trans (hA.out.fr hN.out.st)⟩, by simp [intOf]; omega⟩
    · go_wp2
      refine Go.Great.bodyPost_end0 rfl rfl ⟨rfl, hN.out.bel, u, ?_, hFr.out⟩
      have e : (be k n).take j = be k n := by rw [List.take_of_length_le]; rw [be_len]; omega
      have := hN.out.st
      rw [e] at this
      exact this
set_option maxHeartbeats 1000000 in
theorem wbytes_fr (B q N : Nat) (v xv : Value) (bs cs : List Int) (w : World) (hl : bs.length + cs.length ≤ 10000000) (h : Wr B q w v bs) (hx : Sv N w xv cs) :
    Calls Try.prog 25 #[.pointer (some ⟨q, 0, none⟩), xv] w fun e w' => e = .returned (.tuple #[]) ∧ Below B w w' ∧ ∃ v', Wr B q w' v' (bs ++ cs) ∧ Fr q v v' w w' := by
  have HW : Hid (Wr B q w v bs) := h
  have HX : Hid (Sv N w xv cs) := hx
  have a0 := h.c
  obtain ⟨T, hT⟩ : ∃ T : List Int, T = bs ++ cs := ⟨_, rfl⟩
  rw [← hT]
  have HT : Hid (T = bs ++ cs) := hT
  clear h hx hT
  go_enter Try.func25, Try.ntmps25
  go_wp2_with (at_builtin; refine wpList_app8 (by rfl) _ _ 27 (by rfl) Try.underlying27 B N v xv bs cs (by rfl) (by rfl) HW.out.own HX.out hl (Nat.le_trans HW.out.hB (Nat.le_of_lt HW.out.hq)) ?_)
  intro v' w' ho hg hat
  rw [← HT.out] at ho
  have HG : Hid (Own w' B v' T ∧ w.grownBy w' v.ownBlock ∧ (v'.ownBlock = v.ownBlock ∨ v'.ownBlock = some w.heap.size)) := ⟨ho, hg, hat⟩
  have c2 : w'.cell? ⟨q, 0, none⟩ = some v := by rw [hg.cell_far _ HW.out.hq (Ne.symm HW.out.ne)]; exact HW.out.c
  have f2 : w'.frozen? ⟨q, 0, none⟩ = false := by rw [hg.frozen_far _ HW.out.hq (Ne.symm HW.out.ne)]; exact HW.out.f
  obtain ⟨ao', cap', rfl, -⟩ := ho.rs
  clear ho hg hat a0
  go_wp2
  exact Go.Great.bodyPost_end0 rfl rfl ⟨rfl, HW.out.bel (Below.refl _ _) HG.out.2.1, _, HW.out.grow HG.out.1 HG.out.2.1 HG.out.2.2, Fr.grow HG.out.2.1 HG.out.2.2⟩
end Go.Proofs.Ytdobghhjlfffpaa
