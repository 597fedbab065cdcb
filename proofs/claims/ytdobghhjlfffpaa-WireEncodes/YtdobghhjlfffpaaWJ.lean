/- What DecodeControl of package wire returns. -/
import Derived.Test.YtdobghhjlfffpaaWI
namespace Go.Proofs.Ytdobghhjlfffpaa
open Go.RowKit
theorem enE_ne {bs : List Int} {er : Int} (h : er ≠ 0) : enE bs er = er := by
  unfold enE
  split
  · rfl
  · split
    · rw [tkE_ne h, rk_ne h]
    · split
      · rw [tkE_ne h, tkE_ne h, rk_ne h]
      · exact rk_ne h
/-- what stands behind Data and what fills -/
def rst (bs : List Int) : List Int := (bs.drop 12).drop (fil (fv bs 10 2)).toNat
/-- may what stands at the end be a key and a digest, or nothing? -/
def tG (rest : List Int) : Prop := rest.length = 0 ∨ ((rest.length = 20 ∨ rest.length = 24) ∧ 1 ≤ fv rest 0 4 ∧ fv rest 0 4 ≤ 65535)
def tK (rest : List Int) : Int := if rest.length = 0 then 0 else fv rest 0 4
/-- the error of DecodeControl -/
def DE (bs : List Int) (E : Int) : Prop :=
  (512 < bs.length → E = 31) ∧ (bs.length < 12 → E = 30) ∧ (12 ≤ bs.length → bs.length ≤ 512 → ¬ (cG bs ∧ tG (rst bs)) → E = 32) ∧ (12 ≤ bs.length → bs.length ≤ 512 → cG bs ∧ tG (rst bs) → E = 0)
/-- what it has read -/
def DV (bs : List Int) (ver : Int) (r e m : Bool) (op seq sta ass off : Int) (data : List Int) (key : Int) (mac : List Int) : Prop :=
  ver = fv bs 0 1 / 8 ∧ r = decide (fv bs 1 1 / 128 % 2 = 1) ∧ e = decide (fv bs 1 1 / 64 % 2 = 1) ∧ m = decide (fv bs 1 1 / 32 % 2 = 1) ∧ op = fv bs 1 1 % 32 ∧
    seq = fv bs 2 2 ∧ sta = fv bs 4 2 ∧ ass = fv bs 6 2 ∧ off = fv bs 8 2 ∧ data = (bs.drop 12).take (fv bs 10 2).toNat ∧ key = tK (rst bs) ∧ mac = (rst bs).drop 4
theorem en_tail (b : List Int) : (rk (!(decide (b.length = 4))) (enE b 0) 32 = 0 ∨ rk (!(decide (b.length = 4))) (enE b 0) 32 = 32) ∧ (rk (!(decide (b.length = 4))) (enE b 0) 32 = 0 ↔ tG b) ∧ (tG b → enK b 0 = tK b ∧ enM b 0 = b.drop 4) := by
  by_cases l0 : b.length = 0
  · have hb : b = [] := List.length_eq_zero_iff.1 l0
    subst hb
    have e : enE [] 0 = 0 := by unfold enE; simp
    rw [e]
    refine ⟨.inl rfl, ⟨fun _ => .inl rfl, fun _ => rfl⟩, fun _ => ⟨rfl, rfl⟩⟩
  by_cases l4 : b.length = 4
  · have e : enE b 0 = 0 ∨ enE b 0 = 32 := by
      unfold enE
      have t := (tk_0 4 b (by omega)).1
      rw [if_neg l0, if_pos l4, show tkE 4 b 0 = 0 from t, rk_0]
      split
      · exact .inl rfl
      · exact .inr rfl
    have e2 : rk (!(decide (b.length = 4))) (enE b 0) 32 = 32 := by
      rw [decide_eq_true l4]
      rcases e with e | e
      · rw [e]; rfl
      · rw [e, rk_ne (by decide)]
    rw [e2]
    refine ⟨.inr rfl, ⟨fun h => absurd h (by decide), fun h => ?_⟩, fun h => ?_⟩
    · rcases h with h | ⟨h, _⟩ <;> omega
    · rcases h with h | ⟨h, _⟩ <;> omega
  by_cases l20 : b.length = 20 ∨ b.length = 24
  · obtain ⟨t1, t2, t3⟩ := tk_0 4 b (by omega)
    have t1' : tkE 4 b 0 = 0 := t1
    have t2' : tkT 4 b 0 = b.take 4 := t2
    have t3' : tkR 4 b 0 = b.drop 4 := t3
    obtain ⟨u1, u2, u3⟩ := tk_0 (b.drop 4).length (b.drop 4) (Nat.le_refl _)
    have eM : enM b 0 = b.drop 4 := by unfold enM; rw [if_pos l20, t3', t1', u2, List.take_length]
    have eK : enK b 0 = fv b 0 4 := by unfold enK; rw [if_pos l20, t2']; rfl
    have eE : enE b 0 = rk (dfB (fv b 0 4) (b.drop 4).length) 0 32 := by
      unfold enE
      rw [if_neg l0, if_neg l4, if_pos l20, t3', t1', u1, eM, t2']; rfl
    have eD : dfB (fv b 0 4) (b.drop 4).length = wiB (fv b 0 4) 1 65535 := by
      unfold dfB
      rw [List.length_drop, if_neg (by omega), if_pos (by omega)]
    rw [eE, eD, decide_eq_false l4, eM, eK, rk_0]
    have tk : tK b = fv b 0 4 := by unfold tK; rw [if_neg l0]
    by_cases hw : wiB (fv b 0 4) 1 65535 = true
    · rw [if_pos hw]
      refine ⟨.inl rfl, ⟨fun _ => .inr ⟨l20, wiB_iff.1 hw⟩, fun _ => rfl⟩, fun _ => ⟨tk.symm, rfl⟩⟩
    · rw [if_neg hw]
      refine ⟨.inr rfl, ⟨fun h => absurd h (by decide), fun h => ?_⟩, fun _ => ⟨tk.symm, rfl⟩⟩
      rcases h with h | ⟨_, h⟩
      · omega
      · exact absurd (wiB_iff.2 h) hw
  · have eE : enE b 0 = 32 := by unfold enE; rw [if_neg l0, if_neg l4, if_neg l20]; rfl
    rw [eE, rk_ne (by decide)]
    refine ⟨.inr rfl, ⟨fun h => absurd h (by decide), fun h => ?_⟩, fun h => ?_⟩
    · rcases h with h | ⟨h, _⟩ <;> omega
    · rcases h with h | ⟨h, _⟩ <;> omega
theorem dec_pure {bs : List Int} {ver : Int} {r e m : Bool} {op seq sta ass off : Int} {data bs' : List Int} {er' E : Int}
    (h : CP bs (rk (decide ((bs.length : Int) ≤ 512)) 0 31) ver r e m op seq sta ass off data bs' er') (hE : E = rk (!(decide (bs'.length = 4))) (enE bs' er') 32) :
    DE bs E ∧ (E = 0 → DV bs ver r e m op seq sta ass off data (enK bs' er') (enM bs' er')) := by
  obtain ⟨h1, h2, h3, h4⟩ := h
  have stay : er' ≠ 0 → E = er' := fun hn => by rw [hE, enE_ne hn, rk_ne hn]
  by_cases hl : bs.length ≤ 512
  · have e0 : rk (decide ((bs.length : Int) ≤ 512)) 0 31 = 0 := by rw [rk_0, if_pos (decide_eq_true (by omega))]
    rw [e0] at h1 h2 h3 h4
    by_cases l12 : bs.length < 12
    · have e1 := h2 rfl l12
      have e2 := stay (by rw [e1]; decide)
      rw [e2, e1]
      exact ⟨⟨fun x => absurd x (by omega), fun _ => rfl, fun x => absurd x (by omega), fun x => absurd x (by omega)⟩, fun x => absurd x (by decide)⟩
    · by_cases hG : cG bs
      · obtain ⟨g1, g2, g3, g4, g5, g6, g7, g8, g9, g10, g11, g12⟩ := h4 rfl (by omega) hG
        have g12' : bs' = rst bs := g12
        rw [g1, g12'] at hE
        obtain ⟨t1, t2, t3⟩ := en_tail (rst bs)
        rw [← hE] at t1 t2
        refine ⟨⟨fun x => absurd x (by omega), fun x => absurd x l12, fun _ _ hn => ?_, fun _ _ hy => t2.2 hy.2⟩, fun hz => ?_⟩
        · rcases t1 with t1 | t1
          · exact absurd ⟨hG, t2.1 t1⟩ hn
          · exact t1
        · have ht := t3 (t2.1 hz)
          rw [g1, g12']
          exact ⟨g2, g3, g4, g5, g6, g7, g8, g9, g10, g11, ht.1, ht.2⟩
      · have e1 := h3 rfl (by omega) hG
        have e2 := stay (by rw [e1]; decide)
        rw [e2, e1]
        exact ⟨⟨fun x => absurd x (by omega), fun x => absurd x l12, fun _ _ _ => rfl, fun _ _ hy => absurd hy.1 hG⟩, fun x => absurd x (by decide)⟩
  · have e0 : rk (decide ((bs.length : Int) ≤ 512)) 0 31 = 31 := by rw [rk_0, if_neg (by simp; omega)]
    rw [e0] at h1
    have e1 := h1 (by decide)
    have e2 := stay (by rw [e1]; decide)
    rw [e2, e1]
    exact ⟨⟨fun _ => rfl, fun x => absurd x (by omega), fun _ x => absurd x hl, fun _ x => absurd x hl⟩, fun x => absurd x (by decide)⟩
end Go.Proofs.Ytdobghhjlfffpaa
