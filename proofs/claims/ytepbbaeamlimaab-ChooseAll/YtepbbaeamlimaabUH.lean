/- choose: the two points. -/
import Derived.Test.YtepbbaeamlimaabUG
import Derived.ScopeJumps
namespace Go.Proofs.Ytepbbaeamlimaab
open Go Go.RowKit Go.Sort Ch Pu
set_option linter.unusedVariables false
/-- by a goto to some label: what holds there -/
def exJ (J : Nat → Act → World → Prop) (Q : Exit → Act → World → Prop) : Exit → Act → World → Prop
  | .goto l, a, w => J l a w
  | e, a, w => Q e a w
section
variable {P : Program} {a : Act} {w : World} {Q : Exit → Act → World → Prop}
theorem wp_scope_gotos {c : Code} (J : Nat → Act → World → Prop) (μ : Nat → Act → World → Nat)
    (first : c.wp P (exJ J Q) a w)
    (pass : ∀ l a w M, J l a w → μ l a w = M → ∃ rest, findLabel c l = some rest ∧ rest.wp P (exJ (fun l' a' w' => J l' a' w' ∧ μ l' a' w' < M) Q) a w) : (Code.scope c).wp P Q a w := by
  intro b k cs
  have key : ∀ n l a w, μ l a w = n → J l a w → ∃ rest, findLabel c l = some rest ∧ ∃ e a' w', Q e a' w' ∧ Arrives P (lone (b.at a (.code rest :: .inScope c :: k)) cs w) b k cs e a' w' := by
    intro n
    induction n using Nat.strongRecOn with
    | _ n ih =>
      intro l a w hn hJ
      obtain ⟨rest, hf, hp⟩ := pass l a w _ hJ rfl
      refine ⟨rest, hf, ?_⟩
      obtain ⟨e, a₁, w₁, hq, harr⟩ := hp b (.inScope c :: k) cs
      cases e with
      | normal => exact ⟨.normal, a₁, w₁, hq, Steps.trans harr (.one step_inScope)⟩
      | exit id => exact ⟨.exit id, a₁, w₁, hq, fun k' hk => harr k' (by simp [exitTo, hk])⟩
      | goto l' =>
        obtain ⟨hJ', hlt⟩ := hq
        obtain ⟨rest', hf', e₂, a₂, w₂, hq₂, harr₂⟩ := ih _ (by omega) l' a₁ w₁ rfl hJ'
        have hg : gotoIn l' (.inScope c :: k) = some (.code rest' :: .inScope c :: k) := by simp [gotoIn, hf']
        exact ⟨e₂, a₂, w₂, hq₂, .of_steps (harr _ hg) harr₂⟩
      | ret => exact ⟨_, a₁, w₁, hq, harr⟩
      | panic ch => exact ⟨_, a₁, w₁, hq, harr⟩
      | outgrown => exact ⟨_, a₁, w₁, hq, harr⟩
  obtain ⟨e, a₁, w₁, hq, harr⟩ := first b (.inScope c :: k) cs
  cases e with
  | normal => exact ⟨.normal, a₁, w₁, hq, .head step_scope (Steps.trans harr (.one step_inScope))⟩
  | exit id => exact ⟨.exit id, a₁, w₁, hq, fun k' hk => .head step_scope (harr k' (by simp [exitTo, hk]))⟩
  | goto l' =>
    obtain ⟨rest', hf', e₂, a₂, w₂, hq₂, harr₂⟩ := key _ l' a₁ w₁ rfl hq
    have hg : gotoIn l' (.inScope c :: k) = some (.code rest' :: .inScope c :: k) := by simp [gotoIn, hf']
    exact ⟨e₂, a₂, w₂, hq₂, .of_steps (.head step_scope (harr _ hg)) harr₂⟩
  | ret => exact ⟨_, a₁, w₁, hq, .of_steps (.one step_scope) harr⟩
  | panic ch => exact ⟨_, a₁, w₁, hq, .of_steps (.one step_scope) harr⟩
  | outgrown => exact ⟨_, a₁, w₁, hq, .of_steps (.one step_scope) harr⟩
/-- two labels into whose code the run also falls -/
theorem wp_scope_two {c R1 R3 : Code} (l1 l3 : Nat) (J : Nat → Act → World → Prop) (μ : Nat → Act → World → Nat) (hf1 : findLabel c l1 = some (Code.skip.seq R1)) (hf3 : findLabel c l3 = some (Code.skip.seq R3))
    (pass3 : ∀ a w M, J l3 a w → μ l3 a w ≤ M → R3.wp P (exJ (fun l' a' w' => J l' a' w' ∧ μ l' a' w' < M) Q) a w)
    (pass1 : ∀ a w M, J l1 a w → μ l1 a w = M → (∀ a w, J l3 a w → μ l3 a w ≤ M → R3.wp P (exJ (fun l' a' w' => J l' a' w' ∧ μ l' a' w' < M) Q) a w) → R1.wp P (exJ (fun l' a' w' => J l' a' w' ∧ μ l' a' w' < M) Q) a w)
    (passo : ∀ l a w M, l ≠ l1 → l ≠ l3 → J l a w → ∃ rest, findLabel c l = some rest ∧ rest.wp P (exJ (fun l' a' w' => J l' a' w' ∧ μ l' a' w' < M) Q) a w)
    (first : (∀ a w, J l1 a w → R1.wp P (exJ J Q) a w) → c.wp P (exJ J Q) a w) : (Code.scope c).wp P Q a w := by
  refine wp_scope_gotos J μ (first fun a w hJ => ?_) (fun l a w M hJ hM => ?_)
  · refine wp_mono (pass1 a w _ hJ rfl (fun a w h1 h2 => pass3 a w _ h1 h2)) (fun e a w h => ?_)
    cases e <;> first | exact h.1 | exact h
  · by_cases h1 : l = l1
    · subst h1
      exact ⟨_, hf1, wp_seq (wp_skip (pass1 a w M hJ hM (fun a w h1 h2 => pass3 a w _ h1 h2)))⟩
    · by_cases h3 : l = l3
      · subst h3
        exact ⟨_, hf3, wp_seq (wp_skip (pass3 a w M hJ (Nat.le_of_eq hM)))⟩
      · exact passo l a w M h1 h3 hJ
end
theorem ret3b {a b : Int} {x y : Bool} (h : x = y) : Ending.returned (.tuple #[.int .i64 a, .int .i64 b, .bool x]) = .returned (.tuple #[.int .i64 a, .int .i64 b, .bool y]) := by rw [h]
/-- the frame at a label -/
def FrP (v : Value) (R X lo hi m : Int) (a : Act) : Prop := ∃ f : Nat → Value, a = { tmps := #[v, .int .i64 R, .int .i64 X, f 3, f 4, f 5, .int .i64 lo, .int .i64 hi, f 8, f 9, .int .i64 m, f 11, f 12, f 13, f 14, f 15, f 16, f 17, f 18, f 19, f 20, f 21, f 22, f 23, f 24, f 25, f 26, f 27, f 28, f 29, f 30, f 31, f 32, f 33, f 34, f 35, f 36, f 37, f 38, f 39, f 40, f 41, f 42, f 43, f 44, f 45, f 46, f 47, f 48, f 49, f 50, f 51, f 52, f 53, f 54, f 55, f 56, f 57, f 58, f 59, f 60, f 61, f 62, f 63, f 64, f 65, f 66, f 67, f 68, f 69, f 70, f 71, f 72, f 73], defers := [] }
theorem FrP.mk {v : Value} {R X lo hi m : Int} {u3 u4 u5 u8 u9 u11 u12 u13 u14 u15 u16 u17 u18 u19 u20 u21 u22 u23 u24 u25 u26 u27 u28 u29 u30 u31 u32 u33 u34 u35 u36 u37 u38 u39 u40 u41 u42 u43 u44 u45 u46 u47 u48 u49 u50 u51 u52 u53 u54 u55 u56 u57 u58 u59 u60 u61 u62 u63 u64 u65 u66 u67 u68 u69 u70 u71 u72 u73 : Value} : FrP v R X lo hi m { tmps := #[v, .int .i64 R, .int .i64 X, u3, u4, u5, .int .i64 lo, .int .i64 hi, u8, u9, .int .i64 m, u11, u12, u13, u14, u15, u16, u17, u18, u19, u20, u21, u22, u23, u24, u25, u26, u27, u28, u29, u30, u31, u32, u33, u34, u35, u36, u37, u38, u39, u40, u41, u42, u43, u44, u45, u46, u47, u48, u49, u50, u51, u52, u53, u54, u55, u56, u57, u58, u59, u60, u61, u62, u63, u64, u65, u66, u67, u68, u69, u70, u71, u72, u73], defers := [] } :=
  ⟨fun i => [undef, undef, undef, u3, u4, u5, undef, undef, u8, u9, undef, u11, u12, u13, u14, u15, u16, u17, u18, u19, u20, u21, u22, u23, u24, u25, u26, u27, u28, u29, u30, u31, u32, u33, u34, u35, u36, u37, u38, u39, u40, u41, u42, u43, u44, u45, u46, u47, u48, u49, u50, u51, u52, u53, u54, u55, u56, u57, u58, u59, u60, u61, u62, u63, u64, u65, u66, u67, u68, u69, u70, u71, u72, u73].getD i undef, rfl⟩
/-- what holds at the labels: 0 down, 1 both -/
def PJ (es : List Int) (v : Value) (R X : Int) (w : World) (l : Nat) (a : Act) (w' : World) : Prop := ∃ lo hi m : Int, FrP v R X (lo * 65536) hi m a ∧ w' = w ∧ Hid (0 ≤ m ∧ m ≤ 1000 * (l + 1)) ∧ Hid ((l = 0 ∧ hi = 0 ∧ upR R es 0 0 = some (lo, m)) ∨ (l = 1 ∧ ∃ h m0, hi = h * 65536 ∧ upR R es 0 0 = some (lo, m0) ∧ dnR R es.reverse 0 m0 = some (h, m)))
def pM (l : Nat) (_ : Act) (_ : World) : Nat := if l = 0 then 1 else 0
theorem up_at {R : Int} {es : List Int} {k : Nat} {z h m : Int} (hz : es[k]? = some z) : upR R (es.drop k) h m = if h - kd z = R then some (plc z, m) else upR R (es.drop (k + 1)) (h - kd z) (if kd z = 0 then m + 1 else m) := by
  have hl : k < es.length := by
    rcases Nat.lt_or_ge k es.length with h1 | h1
    · exact h1
    · rw [List.getElem?_eq_none h1] at hz; cases hz
  rw [List.drop_eq_getElem_cons hl]
  rw [List.getElem?_eq_getElem hl] at hz
  rw [Option.some.inj hz]
  rfl
theorem dn_at {R : Int} {es : List Int} {k : Nat} {z h m : Int} (hz : es[k]? = some z) : dnR R (es.drop k) h m = if h + kd z = R then some (plc z, m) else dnR R (es.drop (k + 1)) (h + kd z) (if kd z = 0 then m + 1 else m) := by
  have hl : k < es.length := by
    rcases Nat.lt_or_ge k es.length with h1 | h1
    · exact h1
    · rw [List.getElem?_eq_none h1] at hz; cases hz
  rw [List.drop_eq_getElem_cons hl]
  rw [List.getElem?_eq_getElem hl] at hz
  rw [Option.some.inj hz]
  rfl
set_option maxRecDepth 20000 in
set_option maxHeartbeats 2000000 in
theorem points_any (v : Value) (es : List Int) (R X : Int) (w : World) (N : Nat) (h : Rk N w 1 v (enR es)) (hok : ∀ z ∈ es, okZ z) (hks : ks es = 0) (hl : es.length ≤ 1000) (hR0 : 0 < R) (hR1 : R ≤ 1000) (hX0 : 0 ≤ X) (hX1 : X ≤ 1000) :
    Calls Try.prog 10 #[v, .int .i64 R, .int .i64 X] w fun e w' => ∃ a b, e = .returned (.tuple #[.int .i64 a, .int .i64 b, .bool (pts es R X).isSome]) ∧ w' = w ∧ Hid (∀ p q, pts es R X = some (p, q) → a = p * 65536 ∧ b = q * 65536) := by
  obtain ⟨ao, cap, hv, hr⟩ := ends_read h
  have HR : Hid (∀ (i : Nat) z, es[i]? = some z → ∃ ad, ao = some ad ∧ w.cell? (ad.add i) = some (enV z)) := fun i z hz => by
    obtain ⟨ad, h1, _, h2⟩ := hr w (fun _ _ => rfl) i z hz
    exact ⟨ad, h1, h2⟩
  obtain ⟨n, hn⟩ : ∃ n, es.length = n := ⟨_, rfl⟩
  rw [hn] at hv hl
  have HN : Hid (es.length = n) := hn
  have HO : Hid (∀ z ∈ es, okZ z) := hok
  have HS : Hid (ks es = 0 ∧ 0 < R) := ⟨hks, hR0⟩
  subst hv
  have hl2 : (n : Int) ≤ 1000 := by omega
  clear h hr hok hks hl hn
  go_enter Try.func10, Try.ntmps10
  refine post_hid fun Q hQ => ?_
  go_wp2_with fail
  refine wp_scope_two 0 1 (PJ es (.slice ao n cap) R X w) pM rfl rfl ?_ ?_ ?_ ?_
  · intro a w' M hJ hM
    obtain ⟨lo, hi, m, ⟨f, rfl⟩, hw', HM, HJ⟩ := hJ
    have HJ1 : Hid (∃ h m0, hi = h * 65536 ∧ upR R es 0 0 = some (lo, m0) ∧ dnR R es.reverse 0 m0 = some (h, m)) := by
      rcases HJ.out with ⟨h, _⟩ | ⟨_, h⟩
      · cases h
      · exact h
    subst hw'
    clear HJ hM
    obtain ⟨p, m0, hp, h1, h2⟩ := HJ1.out
    have HP : Hid (pts es R X = if m ≤ X ∧ lo ≤ p then some (lo, p) else none) := by
      show _ = _
      unfold pts
      rw [h1]
      simp only
      rw [h2]
    subst hp
    clear h1 h2 HJ1
    refine post_hid fun Q2 hQ2 => ?_
    have HV : Hid (∀ a b, pts es R X = some (a, b) → lo * 65536 = a * 65536 ∧ p * 65536 = b * 65536) := fun a b hab => by
      rw [HP.out] at hab
      split at hab
      · injection hab with hab
        injection hab with e1 e2
        rw [e1, e2]; exact ⟨rfl, rfl⟩
      · cases hab
    by_cases hx : m ≤ X
    · go_wp2_with fail
      rw [hQ2.out]
      show Q _ _ _
      rw [hQ.out]
      go_ret3
      refine ⟨lo * 65536, p * 65536, ret3b ?_, rfl, HV⟩
      rw [HP.out]
      by_cases h : lo ≤ p
      · rw [if_pos ⟨hx, h⟩]; first | (simpa using h) | (simp; omega)
      · rw [if_neg (fun e => h e.2)]; first | (simpa using h) | (simp; omega)
    · go_wp2_with fail
      rw [hQ2.out]
      show Q _ _ _
      rw [hQ.out]
      go_ret3
      refine ⟨lo * 65536, p * 65536, ret3b ?_, rfl, HV⟩
      rw [HP.out, if_neg (fun e => by omega)]
      rfl
  · intro a w' M hJ hM _
    obtain ⟨lo, hi, m0, ⟨f, rfl⟩, hw', HM0, HJ⟩ := hJ
    have HJ1 : Hid (hi = 0 ∧ upR R es 0 0 = some (lo, m0)) := by
      rcases HJ.out with ⟨_, h⟩ | ⟨h, _⟩
      · exact h
      · cases h
    have HMM : Hid (0 < M) := by show _ < _; rw [← hM]; simp [pM]
    subst hw'
    obtain rfl : hi = 0 := HJ1.out.1
    have hm00 : 0 ≤ m0 := HM0.out.1
    have hm01 : m0 ≤ 1000 := by have := HM0.out.2; omega
    have HU : Hid (upR R es 0 0 = some (lo, m0)) := HJ1.out.2
    clear HJ hM HJ1
    refine post_hid fun Q2 hQ2 => ?_
    go_wp2_with fail
    go_loopw [9, 10, 38] (fun x9 x10 x38 wr => ∃ (k : Nat) (h m : Int), x9 = .int .i64 h ∧ x10 = .int .i64 m ∧ x38 = .int .i64 k ∧ (k : Int) ≤ n ∧ -(k : Int) ≤ h ∧ h ≤ k ∧ 0 ≤ m ∧ m ≤ m0 + k ∧ wr = w' ∧ Hid (dnR R es.reverse 0 m0 = dnR R (es.reverse.drop k) h m)) (fun _ _ x38 _ => n - (intOf x38).toNat)
    case atStart => exact ⟨0, 0, m0, rfl, rfl, rfl, by omega, by omega, by omega, by omega, by omega, rfl, rfl⟩
    case round =>
      obtain ⟨k, h, m, rfl, rfl, rfl, hk, hh0, hh1, hm0, hm1, hwr, HI⟩ := hrel
      subst hwr
      by_cases hlt : (k : Int) < n
      · obtain ⟨q, hq⟩ : ∃ q : Nat, (n : Int) - 1 - k = q := ⟨n - 1 - k, by omega⟩
        have hql : q < es.length := by rw [HN.out]; omega
        obtain ⟨z, hz⟩ : ∃ z, es[q]? = some z := ⟨_, List.getElem?_eq_getElem hql⟩
        have hzr : es.reverse[k]? = some z := by
          rw [List.getElem?_reverse (by rw [HN.out]; omega), ← hz]
          congr 1
          rw [HN.out]
          omega
        obtain ⟨ad, g1, g3⟩ := HR.out q z hz
        have hix := ix_E n cap q g1 (by omega)
        have HA := dn_at (R := R) (h := h) (m := m) hzr
        have HI2 : Hid (dnR R es.reverse 0 m0 = if h + kd z = R then some (plc z, m) else dnR R (es.reverse.drop (k + 1)) (h + kd z) (if kd z = 0 then m + 1 else m)) := HI.out.trans HA
        have HOZ : Hid (okZ z) := HO.out z (List.mem_of_getElem? hz)
        have CK : Hid (∀ u, Calls Try.prog 19 #[enV z] u fun e w' => e = .returned (.int .i64 (kd z)) ∧ w' = u) := kindOf_any z
        have CS : Hid (∀ u, Calls Try.prog 14 #[enV z] u fun e w' => e = .returned (.int .i64 (plc z * 65536)) ∧ w' = u) := spanOf_any z HOZ.out
        have hkd := kd_bd z
        obtain ⟨K, hK⟩ : ∃ K, kd z = K := ⟨_, rfl⟩
        rw [hK] at hkd HI2 CK
        have hk0 : -1 ≤ K := by omega
        have hk1 : K ≤ 1 := by omega
        clear g1 hz hzr HA HI hql hK hkd
        by_cases hR : h + K = R
        · have HG : Hid (dnR R es.reverse 0 m0 = some (plc z, m)) := HI2.out.trans (if_pos hR)
          have hb : (h + K == R) = true := by simpa using hR
          clear HI2 hR
          go_wp2_with (first
            | (go_at_call 19; refine (CK.out _).mono ?_; rintro e w9 ⟨rfl, hw9⟩; rw [hw9]; clear hw9)
            | (go_at_call 14; refine (CS.out _).mono ?_; rintro e w9 ⟨rfl, hw9⟩; rw [hw9]; clear hw9))
          refine wp_goto ?_
          show Q2 _ _ _
          rw [hQ2.out]
          show PJ _ _ _ _ _ _ _ _ ∧ _
          exact ⟨⟨lo, plc z * 65536, m, FrP.mk, rfl, ⟨by omega, by omega⟩, .inr ⟨rfl, plc z, m0, rfl, HU.out, HG.out⟩⟩, by simp [pM]; exact HMM.out⟩
        · have HG : Hid (dnR R es.reverse 0 m0 = dnR R (es.reverse.drop (k + 1)) (h + K) (if K = 0 then m + 1 else m)) := HI2.out.trans (if_neg hR)
          have hb : (h + K == R) = false := by simpa using hR
          clear HI2 hR
          by_cases hK0 : K = 0
          · subst hK0
            go_wp2_with (go_at_call 19; refine (CK.out _).mono ?_; rintro e w9 ⟨rfl, hw9⟩; rw [hw9]; clear hw9)
            go_roundw
            case rel => exact ⟨k + 1, h, m + 1, by go_num, by go_num, by go_num, by omega, by omega, by omega, by omega, by omega, by first | rfl | trivial, by have := HG.out; simp only [if_true, Int.add_zero] at this; exact this⟩
            case measure => simp [intOf]; omega
          · have hb2 : (K == 0) = false := by simpa using hK0
            go_wp2_with (go_at_call 19; refine (CK.out _).mono ?_; rintro e w9 ⟨rfl, hw9⟩; rw [hw9]; clear hw9)
            go_roundw
            case rel => exact ⟨k + 1, h + K, m, by go_num, by go_num, by go_num, by omega, by omega, by omega, by omega, by omega, by first | rfl | trivial, by have := HG.out; rw [if_neg hK0] at this; exact this⟩
            case measure => simp [intOf]; omega
      · exfalso
        refine both HS.out.1 HS.out.2 HU.out (m := m0) ?_
        rw [HI.out, List.drop_of_length_le (by rw [List.length_reverse, HN.out]; omega)]
        rfl
  · intro l a w' M h1 h3 hJ
    obtain ⟨_, _, _, _, _, _, HJ⟩ := hJ
    rcases HJ.out with ⟨h, _⟩ | ⟨h, _⟩
    · exact absurd h h1
    · exact absurd h h3
  · intro _
    refine post_hid fun Q2 hQ2 => ?_
    go_wp2_with fail
    go_loopw [9, 10, 17] (fun x9 x10 x17 wr => ∃ (k : Nat) (h m : Int), x9 = .int .i64 h ∧ x10 = .int .i64 m ∧ x17 = .int .i64 k ∧ (k : Int) ≤ n ∧ -(k : Int) ≤ h ∧ h ≤ k ∧ 0 ≤ m ∧ m ≤ k ∧ wr = w ∧ Hid (upR R es 0 0 = upR R (es.drop k) h m)) (fun _ _ x17 _ => n - (intOf x17).toNat)
    case atStart => exact ⟨0, 0, 0, rfl, rfl, rfl, by omega, by omega, by omega, by omega, by omega, rfl, rfl⟩
    case round =>
      obtain ⟨k, h, m, rfl, rfl, rfl, hk, hh0, hh1, hm0, hm1, hwr, HI⟩ := hrel
      subst hwr
      by_cases hlt : (k : Int) < n
      · have hql : k < es.length := by rw [HN.out]; omega
        obtain ⟨z, hz⟩ : ∃ z, es[k]? = some z := ⟨_, List.getElem?_eq_getElem hql⟩
        obtain ⟨ad, g1, g3⟩ := HR.out k z hz
        have hix := ix_E n cap k g1 (by omega)
        have HA := up_at (R := R) (h := h) (m := m) hz
        have HI2 : Hid (upR R es 0 0 = if h - kd z = R then some (plc z, m) else upR R (es.drop (k + 1)) (h - kd z) (if kd z = 0 then m + 1 else m)) := HI.out.trans HA
        have HOZ : Hid (okZ z) := HO.out z (List.mem_of_getElem? hz)
        have CK : Hid (∀ u, Calls Try.prog 19 #[enV z] u fun e w' => e = .returned (.int .i64 (kd z)) ∧ w' = u) := kindOf_any z
        have CS : Hid (∀ u, Calls Try.prog 14 #[enV z] u fun e w' => e = .returned (.int .i64 (plc z * 65536)) ∧ w' = u) := spanOf_any z HOZ.out
        have hkd := kd_bd z
        obtain ⟨K, hK⟩ : ∃ K, kd z = K := ⟨_, rfl⟩
        rw [hK] at hkd HI2 CK
        have hk0 : -1 ≤ K := by omega
        have hk1 : K ≤ 1 := by omega
        clear g1 hz HA HI hql hK hkd
        by_cases hR : h - K = R
        · have HG : Hid (upR R es 0 0 = some (plc z, m)) := HI2.out.trans (if_pos hR)
          have hb : (h - K == R) = true := by simpa using hR
          clear HI2 hR
          go_wp2_with (first
            | (go_at_call 19; refine (CK.out _).mono ?_; rintro e w9 ⟨rfl, hw9⟩; rw [hw9]; clear hw9)
            | (go_at_call 14; refine (CS.out _).mono ?_; rintro e w9 ⟨rfl, hw9⟩; rw [hw9]; clear hw9))
          refine wp_goto ?_
          show Q2 _ _ _
          rw [hQ2.out]
          show PJ _ _ _ _ _ _ _ _
          exact ⟨plc z, 0, m, FrP.mk, rfl, ⟨by omega, by omega⟩, .inl ⟨rfl, rfl, HG.out⟩⟩
        · have HG : Hid (upR R es 0 0 = upR R (es.drop (k + 1)) (h - K) (if K = 0 then m + 1 else m)) := HI2.out.trans (if_neg hR)
          have hb : (h - K == R) = false := by simpa using hR
          clear HI2 hR
          by_cases hK0 : K = 0
          · subst hK0
            go_wp2_with (go_at_call 19; refine (CK.out _).mono ?_; rintro e w9 ⟨rfl, hw9⟩; rw [hw9]; clear hw9)
            go_roundw
            case rel => exact ⟨k + 1, h, m + 1, by go_num, by go_num, by go_num, by omega, by omega, by omega, by omega, by omega, by first | rfl | trivial, by have := HG.out; simp only [if_true, Int.sub_zero] at this; exact this⟩
            case measure => simp [intOf]; omega
          · have hb2 : (K == 0) = false := by simpa using hK0
            go_wp2_with (go_at_call 19; refine (CK.out _).mono ?_; rintro e w9 ⟨rfl, hw9⟩; rw [hw9]; clear hw9)
            go_roundw
            case rel => exact ⟨k + 1, h - K, m, by go_num, by go_num, by go_num, by omega, by omega, by omega, by omega, by omega, by first | rfl | trivial, by have := HG.out; rw [if_neg hK0] at this; exact this⟩
            case measure => simp [intOf]; omega
      · have HG : Hid (pts es R X = none) := by
          show _ = _
          unfold pts
          rw [HI.out, List.drop_of_length_le (by rw [HN.out]; omega)]
          rfl
        go_wp2_with fail
        rw [hQ2.out]
        show Q _ _ _
        rw [hQ.out]
        go_ret3
        refine ⟨0, 0, ret3b ?_, rfl, fun a b hab => ?_⟩
        · rw [HG.out]; rfl
        · rw [HG.out] at hab; cases hab
end Go.Proofs.Ytepbbaeamlimaab
