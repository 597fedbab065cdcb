/- What the reader's method control of package wire returns. -/
import Derived.Test.YtdobghhjlfffpaaWG
namespace Go.Proofs.Ytdobghhjlfffpaa
open Go.RowKit
theorem rk_ne {ok : Bool} {er err : Int} (h : er ≠ 0) : rk ok er err = er := by unfold rk; rw [if_neg (by simp [h])]
theorem rk_0 {ok : Bool} {err : Int} : rk ok 0 err = if ok = true then 0 else err := by unfold rk; cases ok <;> simp
theorem tkE_ne {n : Int} {bs : List Int} {er : Int} (h : er ≠ 0) : tkE n bs er = er := rk_ne h
theorem tkE_0 (n : Nat) (bs : List Int) : tkE n bs 0 = if n ≤ bs.length then 0 else 30 := by
  unfold tkE
  rw [rk_0]
  by_cases h : n ≤ bs.length
  · rw [if_pos h, if_pos (by rw [wiB_iff]; omega)]
  · rw [if_neg h, if_neg (by rw [wiB_iff]; omega)]
/-- how far a reader has come through bytes, of which so many must be there -/
def Pg (T : Nat) (bs0 : List Int) (er0 : Int) (k : Nat) (bs : List Int) (er : Int) : Prop :=
  (er0 = 0 ∧ er = 0 ∧ k ≤ bs0.length ∧ bs = bs0.drop k) ∨ (er0 = 0 ∧ er = 30 ∧ bs0.length < T) ∨ (er0 ≠ 0 ∧ er = er0)
theorem Pg.start (T : Nat) (bs0 : List Int) (er0 : Int) : Pg T bs0 er0 0 bs0 er0 := by
  by_cases h : er0 = 0
  · exact .inl ⟨h, h, Nat.zero_le _, by simp⟩
  · exact .inr (.inr ⟨h, rfl⟩)
theorem Pg.step {T k : Nat} {bs0 bs : List Int} {er0 er : Int} (h : Pg T bs0 er0 k bs er) (n : Nat) (hT : k + n ≤ T) : Pg T bs0 er0 (k + n) (tkR n bs er) (tkE n bs er) := by
  rcases h with ⟨h1, h2, h3, h4⟩ | ⟨h1, h2, h3⟩ | ⟨h1, h2⟩
  · subst h2 h4
    by_cases hn : n ≤ (bs0.drop k).length
    · have e : tkE n (bs0.drop k) 0 = 0 := by rw [tkE_0, if_pos hn]
      rw [List.length_drop] at hn
      refine .inl ⟨h1, e, by omega, ?_⟩
      unfold tkR
      rw [if_pos e, List.drop_drop]
      rfl
    · have e : tkE n (bs0.drop k) 0 = 30 := by rw [tkE_0, if_neg hn]
      rw [List.length_drop] at hn
      exact .inr (.inl ⟨h1, e, by omega⟩)
  · subst h2
    exact .inr (.inl ⟨h1, tkE_ne (by decide), h3⟩)
  · subst h2
    exact .inr (.inr ⟨h1, tkE_ne h1⟩)
theorem Pg.val {T k : Nat} {bs0 bs : List Int} {er0 er : Int} (h : Pg T bs0 er0 k bs er) (n : Nat) (he : tkE n bs er = 0) : er = 0 ∧ tkT n bs er = (bs0.drop k).take n := by
  have h0 : er = 0 := by
    by_cases hz : er = 0
    · exact hz
    · rw [tkE_ne hz] at he; exact he
  refine ⟨h0, ?_⟩
  rcases h with ⟨h1, h2, h3, h4⟩ | ⟨h1, h2, h3⟩ | ⟨h1, h2⟩
  · unfold tkT; rw [if_pos he, h4]; rfl
  · omega
  · omega
/-- a field of bytes -/
def fv (bs : List Int) (k n : Nat) : Int := gt ((bs.drop k).take n)
theorem gtn_bd {bs : List Int} (h : okb bs) (n : Nat) (hl : bs.length ≤ n) (hn : n ≤ 2) : 0 ≤ gt bs ∧ gt bs < (256 : Int) ^ n := by
  have h1 := gt_bd h
  refine ⟨h1.1, Int.lt_of_lt_of_le h1.2 ?_⟩
  generalize bs.length = m at *
  have h4 : (n = 0 ∨ n = 1 ∨ n = 2) ∧ (m = 0 ∨ m = 1 ∨ m = 2) := by omega
  clear h1
  rcases h4 with ⟨rfl | rfl | rfl, rfl | rfl | rfl⟩ <;> first | omega | decide
/-- a block, whole -/
def Bk (p : Nat) (v : World) (cs : Array Value) (T : TypeId) : Prop := v.heap[p]? = some (.cells cs T (0, 0))
theorem Bk.cell {p : Nat} {v : World} {cs : Array Value} {T : TypeId} (h : Bk p v cs T) (j : Nat) : v.cell? ⟨p, j, none⟩ = cs[j]? := cell_of_row v p j _ _ _ h
theorem Bk.frozen {p : Nat} {v : World} {cs : Array Value} {T : TypeId} (h : Bk p v cs T) (j : Nat) : v.frozen? ⟨p, j, none⟩ = false := by
  unfold Bk at h; simp [World.frozen?, h]
theorem Bk.lt {p : Nat} {v : World} {cs : Array Value} {T : TypeId} (h : Bk p v cs T) : p < v.heap.size := by
  rcases Nat.lt_or_ge p v.heap.size with hlt | hge
  · exact hlt
  · unfold Bk at h; rw [Array.getElem?_eq_none hge] at h; cases h
theorem Bk.new (w : World) (cs : Array Value) (T : TypeId) : Bk w.heap.size (w.alloc (.cells cs T)) cs T := heap_alloc_new w _
theorem Bk.alloc {p : Nat} {v : World} {cs : Array Value} {T : TypeId} (h : Bk p v cs T) (o : Obj) : Bk p (v.alloc o) cs T := by
  have := h.lt; unfold Bk at h ⊢; rw [Below.heap_alloc _ _ _ this]; exact h
theorem Bk.mod {p q : Nat} {v v' : World} {cs : Array Value} {T : TypeId} (h : Bk p v cs T) (hg : v.grownBy v' (some q)) (hne : p ≠ q) : Bk p v' cs T := by
  have := h.lt; unfold Bk at h ⊢; rw [hg.block _ this (by intro e; injection e with e; exact hne e)]; exact h
theorem Bk.far {p g j : Nat} {v : World} {cs : Array Value} {T : TypeId} (h : Bk p v cs T) (hne : p ≠ g) (x : Value) : Bk p (v.setCell ⟨g, j, none⟩ x) cs T := by
  unfold Bk at h ⊢; rw [Below.heap_setCell _ _ _ _ hne]; exact h
theorem Bk.set {p j : Nat} {v : World} {cs : Array Value} {T : TypeId} (h : Bk p v cs T) (x : Value) : Bk p (v.setCell ⟨p, j, none⟩ x) (cs.setIfInBounds j x) T := by
  have hl := h.lt
  unfold Bk at h ⊢
  simp only [World.setCell, Array.getElem?_modify, h]
  simp
theorem RdX.far {N q g j : Nat} {w : World} {bs : List Int} {er : Int} (h : RdX N q w bs er) (hg : N ≤ g) (hne : q ≠ g) (x : Value) : RdX N q (w.setCell ⟨g, j, none⟩ x) bs er := by
  obtain ⟨ao, cap, h⟩ := h
  have c : ∀ o, (w.setCell ⟨g, j, none⟩ x).cell? ⟨q, o, none⟩ = w.cell? ⟨q, o, none⟩ := fun o => World.cell?_of_block (Below.heap_setCell _ _ _ _ hne)
  have f : ∀ o, (w.setCell ⟨g, j, none⟩ x).frozen? ⟨q, o, none⟩ = w.frozen? ⟨q, o, none⟩ := fun o => World.frozen?_of_block (Below.heap_setCell _ _ _ _ hne)
  refine ⟨ao, cap, by rw [c]; exact h.c0, by rw [c]; exact h.c1, fun o => by rw [f]; exact h.f o, by simpa [World.setCell] using h.hq, h.hN, ?_, h.ok, h.hc, h.hn⟩
  exact h.rs.below ((Below.refl N w).setCell hg x) (Nat.le_refl _)
theorem mod_setNew {w v : World} {q g j : Nat} {x : Value} (h : w.grownBy v (some q)) (hg : w.heap.size ≤ g) : w.grownBy (v.setCell ⟨g, j, none⟩ x) (some q) :=
  ⟨h.os, h.tape, h.output, by simpa [World.setCell] using h.size, fun k hk hn => by rw [Below.heap_setCell _ _ _ _ (by show k ≠ g; omega)]; exact h.block k hk hn⟩
theorem mod_alloc {w v : World} {r : Option Nat} (h : w.grownBy v r) (o : Obj) : w.grownBy (v.alloc o) r :=
  ⟨h.os, h.tape, h.output, by simp; exact Nat.le_succ_of_le h.size, fun k hk hn => by rw [Below.heap_alloc _ _ _ (Nat.lt_of_lt_of_le hk h.size)]; exact h.block k hk hn⟩
/-- is a packet of control there, ahead of its key? -/
def cG (bs : List Int) : Prop := (1 ≤ fv bs 0 1 / 8 ∧ fv bs 0 1 / 8 ≤ 4) ∧ fv bs 0 1 % 8 = 6 ∧ 12 + fil (fv bs 10 2) ≤ bs.length ∧ gt (((bs.drop 12).drop (fv bs 10 2).toNat).take (fil (fv bs 10 2) - fv bs 10 2).toNat) = 0
/-- what control has read -/
def CP (bs0 : List Int) (er0 : Int) (ver : Int) (r e m : Bool) (op seq sta ass off : Int) (data bs' : List Int) (er' : Int) : Prop :=
  (er0 ≠ 0 → er' = er0) ∧ (er0 = 0 → bs0.length < 12 → er' = 30) ∧ (er0 = 0 → 12 ≤ bs0.length → ¬ cG bs0 → er' = 32) ∧
  (er0 = 0 → 12 ≤ bs0.length → cG bs0 → er' = 0 ∧ ver = fv bs0 0 1 / 8 ∧ r = decide (fv bs0 1 1 / 128 % 2 = 1) ∧ e = decide (fv bs0 1 1 / 64 % 2 = 1) ∧ m = decide (fv bs0 1 1 / 32 % 2 = 1) ∧ op = fv bs0 1 1 % 32 ∧
    seq = fv bs0 2 2 ∧ sta = fv bs0 4 2 ∧ ass = fv bs0 6 2 ∧ off = fv bs0 8 2 ∧ data = (bs0.drop 12).take (fv bs0 10 2).toNat ∧ bs' = (bs0.drop 12).drop (fil (fv bs0 10 2)).toNat)
theorem tkT_ne {n : Int} {bs : List Int} {er : Int} (h : er ≠ 0) : tkT n bs er = [] := by unfold tkT; rw [tkE_ne h, if_neg h]
theorem tkR_ne {n : Int} {bs : List Int} {er : Int} (h : er ≠ 0) : tkR n bs er = bs := by unfold tkR; rw [tkE_ne h, if_neg h]
theorem tk_0 (n : Nat) (bs : List Int) (h : n ≤ bs.length) : tkE n bs 0 = 0 ∧ tkT n bs 0 = bs.take n ∧ tkR n bs 0 = bs.drop n := by
  have e : tkE n bs 0 = 0 := by rw [tkE_0, if_pos h]
  unfold tkT tkR
  rw [e]
  exact ⟨rfl, rfl, rfl⟩
/-- the errors one behind another -/
theorem cp_any {bs0 bs : List Int} {er0 er x0 x1 y0 y1 y2 y3 y4 VR A7 F OP E2 : Int} {K : Nat} {rB eB mB C1 C2 C3 C4 : Bool} {X7 : Int}
    (hp : Pg 12 bs0 er0 12 bs er) (hv : er = 0 → x0 = fv bs0 0 1 ∧ x1 = fv bs0 1 1 ∧ y0 = fv bs0 2 2 ∧ y1 = fv bs0 4 2 ∧ y2 = fv bs0 6 2 ∧ y3 = fv bs0 8 2 ∧ y4 = fv bs0 10 2)
    (y40 : 0 ≤ y4) (hVR : VR = x0 / 8) (hA7 : A7 = x0 % 8) (hC1 : C1 = wiB VR 1 4) (hC2 : (A7 == 6) = C2) (hF : F = fil y4) (hC3 : decide (F ≤ (bs.length : Int)) = C3)
    (hE2 : E2 = rk C3 (rk (C1 && C2) er 32) 32) (hK : K = (F - y4).toNat) (hX : X7 = gt (tkT K (tkR y4 bs E2) (tkE y4 bs E2))) (hC4 : (X7 == 0) = C4)
    (hr : rB = decide (x1 / 128 % 2 = 1)) (he : eB = decide (x1 / 64 % 2 = 1)) (hm : mB = decide (x1 / 32 % 2 = 1)) (ho : OP = x1 % 32) :
    CP bs0 er0 VR rB eB mB OP y0 y1 y2 y3 (tkT y4 bs E2) (tkR K (tkR y4 bs E2) (tkE y4 bs E2)) (rk C4 (tkE K (tkR y4 bs E2) (tkE y4 bs E2)) 32) := by
  have stay : E2 ≠ 0 → rk C4 (tkE K (tkR y4 bs E2) (tkE y4 bs E2)) 32 = E2 := fun hE => by
    rw [tkE_ne hE, tkE_ne hE, rk_ne hE]
  obtain ⟨Y, rfl⟩ := Int.eq_ofNat_of_zero_le y40
  have hfl := fil_le Y
  rcases hp with ⟨h1, h2, h3, h4⟩ | ⟨h1, h2, h3⟩ | ⟨h1, h2⟩
  · obtain ⟨v0, v1, v2, v3, v4, v5, v6⟩ := hv h2
    subst h2
    have hbl : bs.length = bs0.length - 12 := by rw [h4, List.length_drop]
    have gA : (C1 && C2) = true ↔ (1 ≤ fv bs0 0 1 / 8 ∧ fv bs0 0 1 / 8 ≤ 4) ∧ fv bs0 0 1 % 8 = 6 := by
      rw [Bool.and_eq_true, hC1, ← hC2, wiB_iff, beq_iff_eq, hVR, hA7, v0]
    have gB : C3 = true ↔ 12 + fil (fv bs0 10 2) ≤ bs0.length := by
      rw [← hC3, decide_eq_true_iff, hF, hbl, v6]; omega
    by_cases hAB : (C1 && C2) = true ∧ C3 = true
    · obtain ⟨hA, hB⟩ := hAB
      have e0 : E2 = 0 := by rw [hE2, hA, hB, rk_0, if_pos rfl, rk_0, if_pos rfl]
      have hA' := gA.1 hA
      have hB' := gB.1 hB
      have hB2 := hB'
      rw [← v6] at hB2
      rw [e0] at hX ⊢
      have hle : Y ≤ bs.length := by omega
      have hKl : K ≤ (bs.drop Y).length := by rw [List.length_drop]; omega
      obtain ⟨t1, t2, t3⟩ := tk_0 Y bs hle
      rw [t1, t3] at hX ⊢
      obtain ⟨u1, u2, u3⟩ := tk_0 K (bs.drop Y) hKl
      rw [u1, u3, t2, rk_0]
      rw [u2] at hX
      have hz : X7 = 0 ↔ gt (((bs0.drop 12).drop (fv bs0 10 2).toNat).take (fil (fv bs0 10 2) - fv bs0 10 2).toNat) = 0 := by
        rw [hX, ← v6, ← h4, ← hF, ← hK, Int.toNat_natCast]
      refine ⟨fun h => absurd h1 h, fun _ h => absurd h (by omega), fun _ _ hn => ?_, fun _ _ hg => ?_⟩
      · rw [if_neg]
        intro hC
        rw [← hC4, beq_iff_eq] at hC
        exact hn ⟨hA'.1, hA'.2, hB', hz.1 hC⟩
      · have hC : C4 = true := by rw [← hC4, hz.2 hg.2.2.2]; rfl
        rw [if_pos hC, hVR, v0, hr, he, hm, ho, v1, v2, v3, v4, v5, ← v6, ← h4]
        refine ⟨rfl, rfl, rfl, rfl, rfl, rfl, rfl, rfl, rfl, rfl, by rw [Int.toNat_natCast], ?_⟩
        rw [List.drop_drop]
        congr 1
        omega
    · have e0 : E2 = 32 := by
        rw [hE2]
        cases hA : (C1 && C2)
        · rw [rk_0, if_neg (by decide), rk_ne (by decide)]
        · have hB : C3 = false := by
            cases hB : C3
            · rfl
            · exact absurd ⟨hA, hB⟩ hAB
          rw [hB, rk_0, if_pos rfl, rk_0, if_neg (by decide)]
      have e1 := stay (by rw [e0]; decide)
      rw [e1, e0]
      refine ⟨fun h => absurd h1 h, fun _ h => absurd h (by omega), fun _ _ _ => rfl, fun _ _ hg => ?_⟩
      exact absurd ⟨gA.2 ⟨hg.1, hg.2.1⟩, gB.2 hg.2.2.1⟩ hAB
  · have e0 : E2 = 30 := by rw [hE2, h2, rk_ne (ok := (C1 && C2)) (er := 30) (by decide), rk_ne (by decide)]
    have e1 := stay (by rw [e0]; decide)
    rw [e1, e0]
    exact ⟨fun h => absurd h1 h, fun _ _ => rfl, fun _ h => absurd h (by omega), fun _ h => absurd h (by omega)⟩
  · have e0 : E2 = er0 := by rw [hE2, h2, rk_ne (ok := (C1 && C2)) (er := er0) h1, rk_ne h1]
    have e1 := stay (by rw [e0]; exact h1)
    rw [e1, e0]
    exact ⟨fun _ => rfl, fun h => absurd h h1, fun h => absurd h h1, fun h => absurd h h1⟩
end Go.Proofs.Ytdobghhjlfffpaa
