/- What the writer's methods number, bytes and digest of package wire do. -/
import Derived.Test.YtdobghhjlfffpaaWA
import Derived.Great.Walk
namespace Go.Proofs.Ytdobghhjlfffpaa
open Go.RowKit
/-- byte number j of a number, from the lowest on -/
def by8 (n : Int) (j : Nat) : Int := n / (256 : Int) ^ j % 256
/-- a number in k bytes, its highest byte first -/
def be (k : Nat) (n : Int) : List Int := (List.range k).map (fun i => by8 n (k - 1 - i))
theorem be_len (k : Nat) (n : Int) : (be k n).length = k := by unfold be; simp
theorem be_take (k : Nat) (n : Int) (i : Nat) (h : i < k) : (be k n).take (i + 1) = (be k n).take i ++ [by8 n (k - 1 - i)] := by
  rw [List.take_succ_eq_append_getElem (by rw [be_len]; exact h)]
  congr 2
  unfold be
  simp
theorem by8_bd (n : Int) (j : Nat) : 0 ≤ by8 n j ∧ by8 n j < 256 := by unfold by8; omega
theorem be_ok (k : Nat) (n : Int) : okb (be k n) := fun b hb => by
  unfold be at hb
  obtain ⟨i, _, rfl⟩ := List.mem_map.1 hb
  exact by8_bd _ _
/-- a writer in block q: what it has made, the call's own -/
structure Wr (B q : Nat) (w : World) (v : Value) (bs : List Int) : Prop where
  own : Own w B v bs
  hB : B ≤ q
  hq : q < w.heap.size
  ne : v.ownBlock ≠ some q
  c : w.cell? ⟨q, 0, none⟩ = some v
  f : w.frozen? ⟨q, 0, none⟩ = false
theorem Wr.drew {B q : Nat} {w : World} {v : Value} {bs : List Int} (h : Wr B q w v bs) : Wr B q w.drew v bs := ⟨h.own, h.hB, h.hq, h.ne, h.c, h.f⟩
theorem Wr.below {B C q : Nat} {w w' : World} {v : Value} {bs : List Int} (h : Wr B q w v bs) (hb : Below C w w') (hC : w.heap.size ≤ C) : Wr B q w' v bs :=
  ⟨h.own.below hb hC, h.hB, Nat.lt_of_lt_of_le h.hq hb.size, h.ne, (hb.cell (p := ⟨q, 0, none⟩) (Nat.lt_of_lt_of_le h.hq hC)).trans h.c, (hb.frozen (p := ⟨q, 0, none⟩) (Nat.lt_of_lt_of_le h.hq hC)).trans h.f⟩
/-- behind an append and a store -/
theorem Wr.grow {B q : Nat} {w w' : World} {v v' : Value} {bs cs : List Int} (h : Wr B q w v bs) (ho : Own w' B v' cs) (hg : w.grownBy w' v.ownBlock) (hat : v'.ownBlock = v.ownBlock ∨ v'.ownBlock = some w.heap.size) : Wr B q (w'.setCell ⟨q, 0, none⟩ v') v' cs := by
  have hne : v'.ownBlock ≠ some q := by
    rcases hat with h1 | h1
    · rw [h1]; exact h.ne
    · rw [h1]; intro e; injection e with e; have := h.hq; omega
  have hc : w'.cell? ⟨q, 0, none⟩ = some v := by rw [hg.cell_far _ h.hq (Ne.symm h.ne)]; exact h.c
  refine ⟨World.ownsRow.kept (row := some q) ho ⟨rfl, rfl, rfl, by simp [World.setCell], fun k _ hk => Below.heap_setCell _ _ _ _ (fun e => hk (by rw [e]))⟩ (.inr hne), h.hB, by simp [World.setCell]; exact Nat.lt_of_lt_of_le h.hq hg.size, hne, ?_, ?_⟩
  · rw [World.cell?_setCell_same (h := hc)]
  · simp; rw [hg.frozen_far _ h.hq (Ne.symm h.ne)]; exact h.f
theorem Wr.bel {B q : Nat} {w0 w w' : World} {v v' : Value} {bs : List Int} (h : Wr B q w v bs) (hb : Below B w0 w) (hg : w.grownBy w' v.ownBlock) : Below B w0 (w'.setCell ⟨q, 0, none⟩ v') := by
  refine (hb.grown hg (Nat.le_trans h.hB (Nat.le_of_lt h.hq)) (fun k e => ?_)).setCell h.hB _
  exact (h.own.lt k e).1
theorem Wr.alloc {B q : Nat} {w : World} {v : Value} {bs : List Int} (h : Wr B q w v bs) (o : Obj) : Wr B q (w.alloc o) v bs :=
  h.below ((Below.refl w.heap.size w).alloc (Nat.le_refl _) o) (Nat.le_refl _)
theorem Wr.far {B q : Nat} {w w2 : World} {v : Value} {bs : List Int} (h : Wr B q w v bs) {o : Obj} (hg : (w.alloc o).grownBy w2 v.ownBlock) : w2.cell? ⟨q, 0, none⟩ = some v := by
  rw [hg.cell_far _ (by simp; exact Nat.lt_succ_of_lt h.hq) (Ne.symm h.ne), World.cell?_alloc_lt (h := h.hq)]
  exact h.c
theorem Wr.farF {B q : Nat} {w w2 : World} {v : Value} {bs : List Int} (h : Wr B q w v bs) {o : Obj} (hg : (w.alloc o).grownBy w2 v.ownBlock) : w2.frozen? ⟨q, 0, none⟩ = false := by
  rw [hg.frozen_far _ (by simp; exact Nat.lt_succ_of_lt h.hq) (Ne.symm h.ne), World.frozen?_alloc_old (h := Nat.ne_of_lt h.hq)]
  exact h.f
/-- behind an append of one byte -/
structure Ap (B : Nat) (w w2 : World) (u : Value) (L : Nat) (xs : List Value) (g cap : Nat) (b : Int) : Prop where
  own : w2.ownsRow B 5 1 (.slice (some ⟨g, 0, none⟩) (L + 1) cap) (L + 1) (xs ++ [.int .u8 b])
  gr : ∃ o, (w.alloc o).grownBy w2 u.ownBlock
  at_ : u.ownBlock = some g ∨ g = w.heap.size + 1
theorem Wr.one {B q : Nat} {w0 w w2 : World} {u : Value} {bs : List Int} {L g cap : Nat} {b : Int} (h : Wr B q w u bs) (hL : L = bs.length) (hb : Below B w0 w) (a : Ap B w w2 u L (U bs) g cap b) :
    Wr B q (w2.setCell ⟨q, 0, none⟩ (.slice (some ⟨g, 0, none⟩) (L + 1) cap)) (.slice (some ⟨g, 0, none⟩) (L + 1) cap) (bs ++ [b]) ∧ Below B w0 (w2.setCell ⟨q, 0, none⟩ (.slice (some ⟨g, 0, none⟩) (L + 1) cap)) := by
  obtain ⟨o, hg⟩ := a.gr
  refine ⟨(h.alloc o).grow ?_ hg ?_, (h.alloc o).bel (hb.alloc (Nat.le_trans h.hB (Nat.le_of_lt h.hq)) o) hg⟩
  · have := a.own
    show World.ownsRow _ _ _ _ _ _ _
    rw [U_app, List.length_append, ← hL]
    exact this
  · rcases a.at_ with x | x
    · exact .inl x.symm
    · right; simp [Value.ownBlock, x]
theorem Wr.farD {B q : Nat} {w w2 : World} {v : Value} {bs : List Int} (h : Wr B q w v bs) {o : Obj} (hg : (w.alloc o).drew.grownBy w2 v.ownBlock) : w2.cell? ⟨q, 0, none⟩ = some v :=
  h.far (o := o) ⟨hg.os, hg.tape, hg.output, hg.size, hg.block⟩
/-- the loop of number -/
structure NS (B q : Nat) (w wr : World) (k : Nat) (n : Int) (bs : List Int) (i : Nat) (v : Value) : Prop where
  st : Wr B q wr v (bs ++ (be k n).take i)
  bel : Below B w wr
theorem shr_by8 (n : Int) (k j : Nat) (S : Int) (h : j < k) (hS : S = 8 * ((k : Int) - 1 - j)) : n / 2 ^ S.toNat % 256 = by8 n (k - 1 - j) := by
  unfold by8
  have e : S.toNat = 8 * (k - 1 - j) := by omega
  rw [e, Int.pow_mul]
  rfl
set_option maxHeartbeats 2000000 in
theorem number_any (B q : Nat) (v : Value) (bs : List Int) (k : Nat) (n : Int) (w : World) (hk : (k : Int) ≤ 8) (hl : (bs.length : Int) ≤ 100000) (h : Wr B q w v bs) :
    Calls Try.prog 23 #[.pointer (some ⟨q, 0, none⟩), .int .i64 k, .int .u64 n] w fun e w' => e = .returned (.tuple #[]) ∧ Below B w w' ∧ ∃ v', Wr B q w' v' (bs ++ be k n) := by
  have HW : Hid (Wr B q w v bs) := h
  clear h
  obtain ⟨i0, hi, hz0, hz1, hz2⟩ := info5_parts
  go_enter Try.func23, Try.ntmps23
  go_wp2
  go_loopw [8] (fun i wr => ∃ (j : Nat) (u : Value), i = .int .i64 (j : Int) ∧ (j : Int) ≤ k ∧ Hid (NS B q w wr k n bs j u)) (fun i _ => (k - intOf i).toNat)
  case atStart => exact ⟨0, v, rfl, by omega, ⟨by simpa using HW.out, Below.refl _ _⟩⟩
  case round =>
    obtain ⟨j, u, rfl, hj, hN⟩ := hrel
    by_cases hlt : (j : Int) < k
    · have a0 := hN.out.st.c
      have af := hN.out.st.f
      obtain ⟨K1, hK1⟩ : ∃ K1 : Int, K1 = (k : Int) - 1 := ⟨_, rfl⟩
      obtain ⟨D, hD⟩ : ∃ D : Int, D = K1 - j := ⟨_, rfl⟩
      obtain ⟨S, hS⟩ : ∃ S : Int, S = 8 * D := ⟨_, rfl⟩
      have s0 : 0 ≤ S := by omega
      have s1 : S < 64 := by omega
      have d0 : 0 ≤ D := by omega
      have d1 : D < 8 := by omega
      have k0 : 0 ≤ K1 := by omega
      have k1 : K1 < 8 := by omega
      have HX := shr_by8 n k j S (by omega) (by omega)
      obtain ⟨X, hX⟩ : ∃ X : Int, X = n / 2 ^ S.toNat := ⟨_, rfl⟩
      obtain ⟨b, hb⟩ : ∃ b : Int, b = by8 n (k - 1 - j) := ⟨_, rfl⟩
      rw [← hX, ← hb] at HX
      have HB : Hid (b = by8 n (k - 1 - j)) := hb
      have e1 : IntKind.i64.wrap ((k : Int) - 1) = K1 := by rw [← hK1]; simp only [IntKind.wrap_i64]; omega
      have e2 : IntKind.i64.wrap (K1 - j) = D := by rw [← hD]; simp only [IntKind.wrap_i64]; omega
      have e3 : IntKind.i64.wrap (8 * D) = S := by rw [← hS]; simp only [IntKind.wrap_i64]; omega
      have e4 : n / 2 ^ S.toNat = X := hX.symm
      have e5 : IntKind.u8.wrap X = b := by simp only [IntKind.wrap_u8]; exact HX
      have b0 := (by8_bd n (k - 1 - j)).1
      have b1 := (by8_bd n (k - 1 - j)).2
      rw [← hb] at b0 b1
      clear hX hb HX hS hD hK1
      go_wp2
      have hO : Hid (wr.ownsRow B 5 1 u (bs ++ (be k n).take j).length (U (bs ++ (be k n).take j))) := hN.out.st.own
      obtain ⟨L, hL⟩ : ∃ L, L = (bs ++ (be k n).take j).length := ⟨_, rfl⟩
      rw [← hL] at hO
      have hL1 : L ≤ 100008 := by rw [hL, List.length_append, List.length_take, be_len]; omega
      have HL : Hid (L = (bs ++ (be k n).take j).length) := hL
      clear hL
      have hBs : B ≤ wr.heap.size := Nat.le_trans hN.out.st.hB (Nat.le_of_lt hN.out.st.hq)
      have a1 := (hN.out.st.alloc (.cells #[.int .u8 b] 5)).c
      go_region_law ((refine step_append_lies _ (by rfl) _ _ 27 (by rfl) B 5 i0 (.int .u8 0) 1 1 Try.underlying27 hi hz0 hz1 hz2 rfl (by decide) u L _ (by rfl) (hO.out.alloc _) ⟨wr.heap.size, 0, none⟩ 1 1 [.int .u8 b] (by rfl) (by rfl) (World.news_of_block (heap_alloc_new wr _)) (by simp [Value.oneCell']) (by decide) (by unfold maxLen; omega) (by omega) (by simp; omega) (wr.heap.size + 1) (by simp) ?_; intro g cap w2 hown hgrow hat hlt2; have hA : Hid (Ap B wr w2 u L (U (bs ++ (be k n).take j)) g cap b) := ⟨hown, ⟨_, ⟨hgrow.os, hgrow.tape, hgrow.output, hgrow.size, hgrow.block⟩⟩, hat⟩; have c2 := hN.out.st.far (o := .cells #[.int .u8 b] 5) ⟨hgrow.os, hgrow.tape, hgrow.output, hgrow.size, hgrow.block⟩; have f2 := hN.out.st.farF (o := .cells #[.int .u8 b] 5) ⟨hgrow.os, hgrow.tape, hgrow.output, hgrow.size, hgrow.block⟩; clear hown hgrow hat hlt2))
      all_goals
        go_wp2
        have k1 := hN.out.st.one HL.out hN.out.bel hA.out
        exact ⟨⟨j + 1, _, by go_num, by omega, ⟨by rw [be_take k n j (by omega), ← List.append_assoc, ← HB.out]; exact k1.1, k1.2⟩⟩, by simp [intOf]; omega⟩
    · go_wp2
      refine Go.Great.bodyPost_end0 rfl rfl ⟨rfl, hN.out.bel, u, ?_⟩
      have e : (be k n).take j = be k n := by rw [List.take_of_length_le]; rw [be_len]; omega
      have := hN.out.st
      rw [e] at this
      exact this
set_option maxHeartbeats 1000000 in
theorem wbytes_any (B q N : Nat) (v xv : Value) (bs cs : List Int) (w : World) (hl : bs.length + cs.length ≤ 10000000) (h : Wr B q w v bs) (hx : Sv N w xv cs) :
    Calls Try.prog 25 #[.pointer (some ⟨q, 0, none⟩), xv] w fun e w' => e = .returned (.tuple #[]) ∧ Below B w w' ∧ ∃ v', Wr B q w' v' (bs ++ cs) := by
  have HW : Hid (Wr B q w v bs) := h
  have HX : Hid (Sv N w xv cs) := hx
  have a0 := h.c
  obtain ⟨T, hT⟩ : ∃ T : List Int, T = bs ++ cs := ⟨_, rfl⟩
  rw [← hT]
  have HT : Hid (T = bs ++ cs) := hT
  clear h hx hT
  go_enter Try.func25, Try.ntmps25
  go_wp2_with (at_builtin; refine wpList_app8 (by rfl) _ _ 27 (by rfl) Try.underlying27 B N v xv bs cs (by rfl) (by rfl) HW.out.own HX.out hl (Nat.le_trans HW.out.hB (Nat.le_of_lt HW.out.hq)) ?_)
  intro v' w' ho hg hat
  rw [← HT.out] at ho
  have HG : Hid (Own w' B v' T ∧ w.grownBy w' v.ownBlock ∧ (v'.ownBlock = v.ownBlock ∨ v'.ownBlock = some w.heap.size)) := ⟨ho, hg, hat⟩
  have c2 : w'.cell? ⟨q, 0, none⟩ = some v := by rw [hg.cell_far _ HW.out.hq (Ne.symm HW.out.ne)]; exact HW.out.c
  have f2 : w'.frozen? ⟨q, 0, none⟩ = false := by rw [hg.frozen_far _ HW.out.hq (Ne.symm HW.out.ne)]; exact HW.out.f
  obtain ⟨ao', cap', rfl, -⟩ := ho.rs
  clear ho hg hat a0
  go_wp2
  exact Go.Great.bodyPost_end0 rfl rfl ⟨rfl, HW.out.bel (Below.refl _ _) HG.out.2.1, _, HW.out.grow HG.out.1 HG.out.2.1 HG.out.2.2⟩
/-- what a key and its digest are written as -/
def dg (key : Int) (mac : List Int) : List Int := if key = 0 then [] else be 4 key ++ mac
set_option maxHeartbeats 1000000 in
theorem digest_any (B q : Nat) (v xv : Value) (bs cs : List Int) (key : Int) (w : World) (k0 : 0 ≤ key) (k1 : key ≤ 65535) (hl : (bs.length : Int) + cs.length ≤ 90000) (h : Wr B q w v bs) (hx : Sv B w xv cs) :
    Calls Try.prog 22 #[.pointer (some ⟨q, 0, none⟩), .int .i64 key, xv] w fun e w' => e = .returned (.tuple #[]) ∧ Below B w w' ∧ ∃ v', Wr B q w' v' (bs ++ dg key cs) := by
  have HW : Hid (Wr B q w v bs) := h
  have HX : Hid (Sv B w xv cs) := hx
  clear h hx
  by_cases hz : key = 0
  · have hb : (key != 0) = false := by rw [bne_eq_false_iff_eq]; exact hz
    go_enter Try.func22, Try.ntmps22
    go_wp2
    refine Go.Great.bodyPost_end0 rfl rfl ⟨rfl, Below.refl _ _, v, ?_⟩
    unfold dg
    rw [if_pos hz, List.append_nil]
    exact HW.out
  · have hb : (key != 0) = true := by rw [bne_iff_ne]; exact hz
    go_enter Try.func22, Try.ntmps22
    go_wp2_with fail
    refine (number_any B q v bs 4 key _ (by decide) (by omega) HW.out).mono ?_
    rintro e w1 ⟨rfl, hb1, v1, h1⟩
    have H1 : Hid (Below B w w1 ∧ Wr B q w1 v1 (bs ++ be 4 key)) := ⟨hb1, h1⟩
    clear hb1 h1
    go_wp2_with fail
    refine (wbytes_any B q B v1 xv _ cs _ (by rw [List.length_append, be_len]; omega) H1.out.2 (HX.out.below H1.out.1 (Nat.le_refl _))).mono ?_
    rintro e w2 ⟨rfl, hb2, v2, h2⟩
    have H2 : Hid (Below B w1 w2 ∧ Wr B q w2 v2 (bs ++ be 4 key ++ cs)) := ⟨hb2, h2⟩
    clear hb2 h2
    go_wp2
    refine Go.Great.bodyPost_end0 rfl rfl ⟨rfl, H1.out.1.trans H2.out.1, v2, ?_⟩
    unfold dg
    rw [if_neg hz, ← List.append_assoc]
    exact H2.out.2
end Go.Proofs.Ytdobghhjlfffpaa
