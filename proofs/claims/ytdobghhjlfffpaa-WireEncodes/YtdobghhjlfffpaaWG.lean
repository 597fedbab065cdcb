/- What bytes.Clone, the reader's bytes, read and ending of package wire do. -/
import Derived.Test.YtdobghhjlfffpaaWF
import Derived.Laws.Cover3
namespace Go.Proofs.Ytdobghhjlfffpaa
open Go.RowKit
theorem Own.fresh (w : World) (B : Nat) (hB : B ≤ w.heap.size) : Own (w.alloc (.cells #[] 5)) B (.slice (some ⟨w.heap.size, 0, none⟩) 0 0) [] := by
  refine ⟨by simp [U], .inr ⟨w.heap.size, 0, #[], rfl, hB, ?_, Nat.le_refl _, by simp, by simp, by simp [U]⟩⟩
  exact heap_alloc_new w _
theorem Own.mod {w w' : World} {B q : Nat} {v : Value} {bs : List Int} (h : Own w B v bs) (hg : w.grownBy w' (some q)) (hq : q < B) : Own w' B v bs :=
  World.ownsRow.kept h hg (.inr fun e => by have := (h.lt q e).1; omega)
theorem eql_nil (ao : Option Addr) (n c : Nat) (w : World) : (binOp .eql 27 (.slice ao n c) (.slice none 0 0)).run Try.prog w = .ok (.bool ao.isNone) w := by
  have h := run_equal_slice_nil (P := Try.prog) w 27 5 ao n c Try.underlying27
  simp only [binOp, Sem.run_bind, h, Result.andThen_ok, Sem.run_pure]
set_option maxHeartbeats 1000000 in
theorem clone_any (N : Nat) (v : Value) (cs : List Int) (w : World) (hl : cs.length ≤ 10000000) (h : Sv N w v cs) (hN : N ≤ w.heap.size) :
    Calls Try.prog 61 #[v] w fun e w' => ∃ v', e = .returned v' ∧ Below w.heap.size w w' ∧ Own w' w.heap.size v' cs := by
  have H : Hid (Sv N w v cs) := h
  obtain ⟨ao, cap, rfl, h1, h2, h3, h4⟩ := h
  cases ao with
  | none =>
    have hc := h2 rfl
    subst hc
    have hl0 : cs = [] := List.length_eq_zero_iff.1 (by omega)
    subst hl0
    clear h1 h2 h3 h4
    have hq := eql_nil none 0 0
    go_enter Try.func61, Try.ntmps61
    go_wp2
    go_ret
    exact ⟨_, rfl, Below.refl _ _, Own.nil _ _⟩
  | some ad =>
    clear h1 h2 h3 h4
    have hq := eql_nil (some ad) cs.length cap
    go_enter Try.func61, Try.ntmps61
    go_wp2_with (at_builtin; refine wpList_app8 (by rfl) _ _ 27 (by rfl) Try.underlying27 w.heap.size N _ _ [] cs (by rfl) (by rfl) (Own.fresh w w.heap.size (Nat.le_refl _)) (H.out.below ((Below.refl w.heap.size w).alloc (Nat.le_refl _) _) hN) (by simpa using hl) (by simp) ?_)
    intro v' w' ho hg hat
    have HO : Hid (Own w' w.heap.size v' cs ∧ Below w.heap.size w w') := ⟨by simpa using ho, ((Below.refl _ _).alloc (Nat.le_refl _) _).grown hg (by simp) (fun k e => by simp [Value.ownBlock] at e; omega)⟩
    obtain ⟨ao', cap', rfl, -⟩ := ho.rs
    clear ho hg hat
    go_wp2
    go_ret
    exact ⟨_, rfl, HO.out.2, by simpa using HO.out.1⟩
set_option maxHeartbeats 1000000 in
theorem rbytes_any (N q : Nat) (bs : List Int) (er n : Int) (w : World) (hl : bs.length ≤ 10000000) (h : RdX N q w bs er) :
    Calls Try.prog 57 #[.pointer (some ⟨q, 0, none⟩), .int .i64 n] w fun e w' => ∃ v, e = .returned v ∧ w.grownBy w' (some q) ∧ Own w' w.heap.size v (tkT n bs er) ∧ RdX N q w' (tkR n bs er) (tkE n bs er) := by
  have H : Hid (RdX N q w bs er) := h
  have hN : Hid (N ≤ w.heap.size) := by obtain ⟨_, _, h⟩ := h; exact Nat.le_trans h.hN (Nat.le_of_lt h.hq)
  have hq : Hid (q < w.heap.size) := by obtain ⟨_, _, h⟩ := h; exact h.hq
  have hTl : Hid ((tkT n bs er).length ≤ 10000000) := by
    show _ ≤ _
    unfold tkT
    split
    · rw [List.length_take]; omega
    · simp
  clear h hl
  go_enter Try.func57, Try.ntmps57
  go_wp2_with fail
  refine (take_any N q bs er n _ H.out).mono ?_
  rintro e' w1 ⟨v1, rfl, hg, hv, hr⟩
  have H1 : Hid (w.grownBy w1 (some q) ∧ Sv N w1 v1 (tkT n bs er) ∧ RdX N q w1 (tkR n bs er) (tkE n bs er)) := ⟨hg, hv, hr⟩
  clear hg hv hr H
  go_wp2_with fail
  refine (clone_any N v1 (tkT n bs er) _ hTl.out H1.out.2.1 (Nat.le_trans hN.out H1.out.1.size)).mono ?_
  rintro e' w2 ⟨v2, rfl, hb2, ho2⟩
  have H2 : Hid (Below w1.heap.size w1 w2 ∧ Own w2 w1.heap.size v2 (tkT n bs er)) := ⟨hb2, ho2⟩
  clear hb2 ho2
  go_wp2
  go_ret
  exact ⟨v2, rfl, mod_trans H1.out.1 (mod_below H2.out.1 (Nat.le_refl _)), H2.out.2.mono H1.out.1.size, H1.out.2.2.below H2.out.1 (Nat.lt_of_lt_of_le hq.out H1.out.1.size)⟩
set_option maxHeartbeats 1000000 in
theorem read_any (v : Value) (bs : List Int) (w : World) (h : Sv w.heap.size w v bs) :
    Calls Try.prog 33 #[v] w fun e w' => ∃ v', e = .returned (.agg #[v', .int .i64 (rk (decide ((bs.length : Int) ≤ 512)) 0 31)]) ∧ Below w.heap.size w w' ∧ Sv w.heap.size w' v' bs := by
  have H : Hid (Sv w.heap.size w v bs) := h
  obtain ⟨ao, cap, rfl, h1, h2, h3, h4⟩ := h
  have H4 : Hid (Rs w.heap.size w ao bs ∧ okb bs ∧ bs.length ≤ cap ∧ (ao = none → cap = 0)) := ⟨h3, h4, h1, h2⟩
  clear h1 h2 h3 h4 H
  obtain ⟨O, hO⟩ : ∃ O, decide ((bs.length : Int) ≤ 512) = O := ⟨_, rfl⟩
  rw [hO]
  go_enter Try.func33, Try.ntmps33
  go_wp2_with fail
  refine (ask_any w.heap.size (w.heap.size + 1) bs 0 31 O _ ⟨ao, cap, ⟨by simp, by simp, fun o => by simp, by simp, by omega, H4.out.1.below ((Below.refl w.heap.size w).alloc (Nat.le_refl _) _ |>.alloc (by simp) _) (Nat.le_refl _), H4.out.2.1, H4.out.2.2.1, H4.out.2.2.2⟩⟩).mono ?_
  rintro e' w1 ⟨rfl, hg, ao1, cap1, h1⟩
  have c0 := h1.c0
  have c1 := h1.c1
  have hgb : w1.heap[w.heap.size]? = some (.cells #[.slice none 0 0, .int .i64 0] 61) := by
    rw [hg.block _ (by simp; omega) (by simp), Below.heap_alloc _ _ _ (by simp), heap_alloc_new]
  have r0 : w1.cell? ⟨w.heap.size, 0, none⟩ = some (.slice none 0 0) := by rw [cell_of_row w1 w.heap.size 0 _ _ _ hgb]; rfl
  have r1 : w1.cell? ⟨w.heap.size, 1, none⟩ = some (.int .i64 0) := by rw [cell_of_row w1 w.heap.size 1 _ _ _ hgb]; rfl
  have rf : ∀ o, w1.frozen? ⟨w.heap.size, o, none⟩ = false := fun o => by simp [World.frozen?, hgb]
  have B1 : Hid (Below w.heap.size w w1) := below_mod (by repeat' (first | with_reducible exact Below.refl _ _ | with_reducible refine Below.setCell ?_ (by first | (simp; done) | (simp; omega) | omega) _ | with_reducible refine below_drewN ?_ _ | with_reducible refine Below.drew ?_ | with_reducible refine Below.alloc ?_ (by first | (simp; done) | (simp; omega) | omega) _)) hg (by simp; omega) (by omega)
  have S1 : Hid (Sv w.heap.size w1 (.slice ao1 bs.length cap1) bs) := ⟨ao1, cap1, rfl, h1.hc, h1.hn, h1.rs, h1.ok⟩
  obtain ⟨E, hE⟩ : ∃ E, E = rk O 0 31 := ⟨_, rfl⟩
  rw [← hE] at c1
  have HE : Hid (E = rk O 0 31) := hE
  clear hg h1 hgb hE
  go_wp2_with fail
  refine bodyPost_ret (v := .agg #[.slice ao1 bs.length cap1, .int .i64 E]) (by simp [results, Try.results33, go_sem, r0, r1]) rfl ⟨_, by rw [HE.out], ?_, ?_⟩
  · exact (by repeat' (first | with_reducible exact Below.refl _ _ | with_reducible exact B1.out | with_reducible refine Below.setCell ?_ (by first | (simp; done) | (simp; omega) | omega) _ | with_reducible refine below_drewN ?_ _ | with_reducible refine Below.drew ?_ | with_reducible refine Below.alloc ?_ (by first | (simp; done) | (simp; omega) | omega) _))
  · exact S1.out.below (by repeat' (first | with_reducible exact Below.refl _ _ | with_reducible refine Below.setCell ?_ (by first | (simp; done) | (simp; omega) | omega) _ | with_reducible refine below_drewN ?_ _ | with_reducible refine Below.drew ?_ | with_reducible refine Below.alloc ?_ (by first | (simp; done) | (simp; omega) | omega) _)) (Nat.le_refl _)
/-- what ending reads: key, digest, whether a NAK; the error behind it -/
def enK (bs : List Int) (er : Int) : Int := if bs.length = 20 ∨ bs.length = 24 then gt (tkT 4 bs er) else 0
def enM (bs : List Int) (er : Int) : List Int := if bs.length = 20 ∨ bs.length = 24 then tkT (tkR 4 bs er).length (tkR 4 bs er) (tkE 4 bs er) else []
def enE (bs : List Int) (er : Int) : Int :=
  if bs.length = 0 then er else if bs.length = 4 then rk (gt (tkT 4 bs er) == 0) (tkE 4 bs er) 32
  else if bs.length = 20 ∨ bs.length = 24 then rk (dfB (gt (tkT 4 bs er)) (enM bs er).length) (tkE (tkR 4 bs er).length (tkR 4 bs er) (tkE 4 bs er)) 32 else rk false er 32
theorem tk_okb {n : Int} {bs : List Int} {er : Int} (h : okb bs) : okb (tkT n bs er) ∧ okb (tkR n bs er) := by
  unfold tkT tkR
  split
  · exact ⟨okb_take h _, okb_drop h _⟩
  · exact ⟨okb_nil, h⟩
theorem tkT_len (n : Nat) (bs : List Int) (er : Int) : (tkT n bs er).length ≤ n := by
  unfold tkT
  split
  · rw [List.length_take]; omega
  · simp
theorem gt4_bd {bs : List Int} (h : okb bs) (hl : bs.length ≤ 4) : 0 ≤ gt bs ∧ gt bs < 4294967296 := by
  have h1 := gt_bd h
  refine ⟨h1.1, Int.lt_of_lt_of_le h1.2 ?_⟩
  generalize bs.length = m at *
  have h4 : m = 0 ∨ m = 1 ∨ m = 2 ∨ m = 3 ∨ m = 4 := by omega
  clear h1 hl
  rcases h4 with rfl | rfl | rfl | rfl | rfl <;> decide
theorem RdX.okb {N q : Nat} {w : World} {bs : List Int} {er : Int} (h : RdX N q w bs er) : okb bs := by obtain ⟨_, _, h⟩ := h; exact h.ok
theorem RdX.hq {N q : Nat} {w : World} {bs : List Int} {er : Int} (h : RdX N q w bs er) : q < w.heap.size := by obtain ⟨_, _, h⟩ := h; exact h.hq
theorem RdX.hN {N q : Nat} {w : World} {bs : List Int} {er : Int} (h : RdX N q w bs er) : N ≤ q := by obtain ⟨_, _, h⟩ := h; exact h.hN
set_option maxHeartbeats 2000000 in
theorem ending_any (N q : Nat) (bs : List Int) (er : Int) (w : World) (hl : bs.length ≤ 10000000) (h : RdX N q w bs er) :
    Calls Try.prog 39 #[.pointer (some ⟨q, 0, none⟩)] w fun e w' => ∃ v, e = .returned (.tuple #[.int .i64 (enK bs er), v, .bool (decide (bs.length = 4))]) ∧ w.grownBy w' (some q) ∧ Own w' w.heap.size v (enM bs er) ∧ ∃ bs', RdX N q w' bs' (enE bs er) := by
  have H : Hid (RdX N q w bs er) := h
  obtain ⟨ao, cap, h⟩ := h
  have c0 := h.c0
  have okb' : Hid (okb bs) := h.ok
  clear h
  obtain ⟨L, hL⟩ : ∃ L, L = bs.length := ⟨_, rfl⟩
  rw [← hL] at c0
  have HL : Hid (L = bs.length) := hL
  have HM : Hid (bs.length ≤ 10000000) := hl
  have hl' : (L : Int) ≤ 10000000 := by omega
  clear hL hl
  obtain ⟨g0, g1⟩ := gt4_bd (tk_okb (n := 4) (er := er) okb'.out).1 (tkT_len 4 bs er)
  obtain ⟨X, hX⟩ : ∃ X, X = gt (tkT 4 bs er) := ⟨_, rfl⟩
  rw [← hX] at g0 g1
  have HX : Hid (X = gt (tkT 4 bs er)) := hX
  clear hX
  have HN : Hid (∀ w, RdX N q w bs er → Calls Try.prog 56 #[.pointer (some ⟨q, 0, none⟩), .int .i64 4] w fun e w' => e = .returned (.int .u64 X) ∧ w.grownBy w' (some q) ∧ RdX N q w' (tkR 4 bs er) (tkE 4 bs er)) := fun w h => by
    have := rnumber_any N q bs er 4 w (by decide) h
    rw [HX.out]
    exact this
  by_cases l0 : L = 0
  · subst l0
    have hk : enK bs er = 0 ∧ enM bs er = [] ∧ enE bs er = er ∧ decide (bs.length = 4) = false := by
      unfold enK enM enE; rw [← HL.out]; simp
    have HK : Hid _ := hk
    clear hk
    go_enter Try.func39, Try.ntmps39
    go_wp2
    go_ret3
    rw [HK.out.1, HK.out.2.1, HK.out.2.2.1, HK.out.2.2.2]
    exact ⟨_, rfl, mod_refl _ _, Own.nil _ _, bs, H.out⟩
  by_cases l4 : L = 4
  · subst l4
    have hk : enK bs er = 0 ∧ enM bs er = [] ∧ enE bs er = rk (gt (tkT 4 bs er) == 0) (tkE 4 bs er) 32 ∧ decide (bs.length = 4) = true := by
      unfold enK enM enE; rw [← HL.out]; simp
    have HK : Hid (enK bs er = 0 ∧ enM bs er = [] ∧ enE bs er = rk (gt (tkT 4 bs er) == 0) (tkE 4 bs er) 32 ∧ decide (bs.length = 4) = true) := hk
    clear hk l0
    go_enter Try.func39, Try.ntmps39
    go_wp2_with fail
    refine (HN.out _ H.out).mono ?_
    rintro e' w1 ⟨rfl, hg1, h1⟩
    have H1 : Hid (w.grownBy w1 (some q) ∧ RdX N q w1 (tkR 4 bs er) (tkE 4 bs er)) := ⟨hg1, h1⟩
    clear hg1 h1 c0
    obtain ⟨G, hG⟩ : ∃ G : Bool, (X == 0) = G := ⟨_, rfl⟩
    have HG : Hid ((gt (tkT 4 bs er) == 0) = G) := by show _ = _; rw [← HX.out]; exact hG
    go_wp2_with fail
    refine (ask_any N q (tkR 4 bs er) (tkE 4 bs er) 32 G _ H1.out.2).mono ?_
    rintro e' w2 ⟨rfl, hg2, h2⟩
    have H2 : Hid (w1.grownBy w2 (some q) ∧ RdX N q w2 (tkR 4 bs er) (rk G (tkE 4 bs er) 32)) := ⟨hg2, h2⟩
    clear hg2 h2
    go_wp2
    go_ret3
    rw [HK.out.1, HK.out.2.1, HK.out.2.2.1, HK.out.2.2.2, HG.out]
    exact ⟨_, rfl, mod_trans H1.out.1 H2.out.1, Own.nil _ _, _, H2.out.2⟩
  by_cases l20 : L = 20 ∨ L = 24
  · have hk : enK bs er = gt (tkT 4 bs er) ∧ enM bs er = tkT (tkR 4 bs er).length (tkR 4 bs er) (tkE 4 bs er) ∧ enE bs er = rk (dfB (gt (tkT 4 bs er)) (enM bs er).length) (tkE (tkR 4 bs er).length (tkR 4 bs er) (tkE 4 bs er)) 32 ∧ decide (bs.length = 4) = false := by
      rw [HL.out] at l0 l4 l20
      unfold enK enE
      rw [if_pos l20, if_neg l0, if_neg l4, if_pos l20]
      refine ⟨rfl, ?_, rfl, by simp [l4]⟩
      unfold enM
      rw [if_pos l20]
    have HK : Hid (enK bs er = gt (tkT 4 bs er) ∧ enM bs er = tkT (tkR 4 bs er).length (tkR 4 bs er) (tkE 4 bs er) ∧ enE bs er = rk (dfB (gt (tkT 4 bs er)) (enM bs er).length) (tkE (tkR 4 bs er).length (tkR 4 bs er) (tkE 4 bs er)) 32 ∧ decide (bs.length = 4) = false) := hk
    clear hk l0 l4
    have hRl : Hid ((tkR 4 bs er).length ≤ 10000000) := by
      show _ ≤ _
      have := HM.out
      unfold tkR
      split
      · rw [List.length_drop]; omega
      · omega
    obtain ⟨D, hD⟩ : ∃ D, D = dfB X (enM bs er).length := ⟨_, rfl⟩
    have HD : Hid (D = dfB X (enM bs er).length) := hD
    clear hD
    rcases l20 with rfl | rfl
    all_goals
      go_enter Try.func39, Try.ntmps39
      go_wp2_with fail
      refine (HN.out _ H.out).mono ?_
      rintro e' w1 ⟨rfl, hg1, h1⟩
      have H1 : Hid (w.grownBy w1 (some q) ∧ RdX N q w1 (tkR 4 bs er) (tkE 4 bs er)) := ⟨hg1, h1⟩
      obtain ⟨ao1, cap1, h1⟩ := h1
      have d0 := h1.c0
      clear hg1 h1 c0
      go_wp2_with fail
      refine (rbytes_any N q (tkR 4 bs er) (tkE 4 bs er) (tkR 4 bs er).length _ hRl.out H1.out.2).mono ?_
      rintro e' w2 ⟨v2, rfl, hg2, ho2, h2⟩
      rw [← HK.out.2.1] at ho2
      have H2 : Hid (w1.grownBy w2 (some q) ∧ Own w2 w.heap.size v2 (enM bs er) ∧ RdX N q w2 (tkR (tkR 4 bs er).length (tkR 4 bs er) (tkE 4 bs er)) (tkE (tkR 4 bs er).length (tkR 4 bs er) (tkE 4 bs er))) := ⟨hg2, ho2.mono H1.out.1.size, h2⟩
      obtain ⟨ao2, cap2, rfl, -⟩ := ho2.rs
      clear hg2 h2 d0 ho2
      have HF : Hid (∀ w, Calls Try.prog 31 #[.int .i64 X, .slice ao2 (enM bs er).length cap2] w fun e w' => e = .returned (.bool D) ∧ w' = w) := fun w => by
        rw [HD.out]; exact digestFits_any X ao2 _ cap2 w
      obtain ⟨ML, hML⟩ : ∃ ML, ML = (enM bs er).length := ⟨_, rfl⟩
      rw [← hML] at HF H2 ⊢
      have HML : Hid (ML = (enM bs er).length) := hML
      clear hML
      go_wp2_with (go_at_call 31; refine (HF.out _).mono ?_; rintro e' w3 ⟨rfl, hw⟩; rw [hw]; clear hw)
      refine (ask_any N q _ _ 32 D _ H2.out.2.2).mono ?_
      rintro e' w3 ⟨rfl, hg3, h3⟩
      have H3 : Hid (w2.grownBy w3 (some q) ∧ RdX N q w3 (tkR (tkR 4 bs er).length (tkR 4 bs er) (tkE 4 bs er)) (rk D (tkE (tkR 4 bs er).length (tkR 4 bs er) (tkE 4 bs er)) 32)) := ⟨hg3, h3⟩
      clear hg3 h3
      go_wp2
      go_ret3
      rw [HK.out.1, HK.out.2.2.1, HK.out.2.2.2, ← HX.out, ← HD.out]
      exact ⟨_, rfl, mod_trans H1.out.1 (mod_trans H2.out.1 H3.out.1), H2.out.2.1.mod H3.out.1 H.out.hq, _, H3.out.2⟩
  · have hk : enK bs er = 0 ∧ enM bs er = [] ∧ enE bs er = rk false er 32 ∧ decide (bs.length = 4) = false := by
      rw [HL.out] at l0 l4 l20
      unfold enK enM enE
      rw [if_neg l20, if_neg l0, if_neg l4, if_neg l20, if_neg l20]
      exact ⟨rfl, rfl, rfl, by simp [l4]⟩
    have HK : Hid (enK bs er = 0 ∧ enM bs er = [] ∧ enE bs er = rk false er 32 ∧ decide (bs.length = 4) = false) := hk
    have b0 : ((L : Int) == 0) = false := by rw [beq_eq_false_iff_ne]; omega
    have b1 : ((L : Int) == 4) = false := by rw [beq_eq_false_iff_ne]; omega
    have b2 : ((L : Int) == 20) = false := by rw [beq_eq_false_iff_ne]; omega
    have b3 : ((L : Int) == 24) = false := by rw [beq_eq_false_iff_ne]; omega
    clear hk l0 l4 l20
    go_enter Try.func39, Try.ntmps39
    go_wp2_with fail
    refine (ask_any N q bs er 32 false _ H.out).mono ?_
    rintro e' w2 ⟨rfl, hg2, h2⟩
    have H2 : Hid (w.grownBy w2 (some q) ∧ RdX N q w2 bs (rk false er 32)) := ⟨hg2, h2⟩
    clear hg2 h2 c0
    go_wp2
    go_ret3
    rw [HK.out.1, HK.out.2.1, HK.out.2.2.1, HK.out.2.2.2]
    exact ⟨_, rfl, H2.out.1, Own.nil _ _, _, H2.out.2⟩
end Go.Proofs.Ytdobghhjlfffpaa
