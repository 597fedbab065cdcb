/- The law NmeaReads, walked. -/
import Derived.Test.YthoilihokbakoaaDoorQZ
import Derived.Test.YthoilihokbakoaaDoorQ0
import Derived.Test.YthoilihokbakoaaDoorQ2
import Derived.Test.YthoilihokbakoaaDoorQ3
namespace Go.Proofs.YthoilihokbakoaaDoor
open Go Go.RowKit
/-- what comes of a date that is told, or not -/
def tmC (c : Cv) : Value := if c.ok = true then .tuple #[.agg #[.int .i64 (dE c.y c.m c.d c.h c.n c.s), .int .u64 (dT c.y c.m c.d c.h c.n c.s c.f)], .int .i64 (dC c.y c.m c.d c.h c.n c.s)] else noD 21
theorem tmV_ok {l : List UInt8} (h : ckE l = 0) : tmV l = tmC (civ (flds l)) := by unfold tmV tmC; rw [if_pos h]
theorem tmC_no : tmC cvNo = noD 21 := rfl
theorem tmV_shape (l : List UInt8) : ∃ E T C : Int, tmV l = .tuple #[.agg #[.int .i64 E, .int .u64 T], .int .i64 C] := by
  unfold tmV
  repeat' split
  all_goals exact ⟨_, _, _, rfl⟩
theorem rtime_all (S : ByteArray) (w : World) (hS : S.size ≤ 65536) :
    Calls Tryd.prog 8 #[.string S] w fun e w' => e = .returned (tmV S.data.toList) ∧ Below w.heap.size w w' := by
  by_cases he : ckE S.data.toList = 0
  · rw [tmV_ok he]
    have hl : S.data.toList.length = S.size := by simp
    obtain ⟨g1, g2, g3⟩ := flds_bd S.data.toList
    obtain ⟨ts, hts⟩ : ∃ ts, flds S.data.toList = ts := ⟨_, rfl⟩
    rw [hts] at g1 g2 g3 ⊢
    have hb1 : ts.length ≤ 100000 := by omega
    have hle : ∀ t ∈ ts, t.length ≤ 100000 := fun t ht => by have := g3 t ht; omega
    have q0 := getD_le hle 0
    have q1 := getD_le hle 1
    have q2 := getD_le hle 2
    have q3 := getD_le hle 3
    have q4 := getD_le hle 4
    have q9 := getD_le hle 9
    by_cases hn5 : (ts.getD 0 []).length = 5
    · by_cases hb5 : ts.length < 5
      · have hc : civ ts = cvNo := by
          unfold civ civZ civR
          rw [if_pos hn5, if_pos hb5, if_pos (show ts.length < 10 by omega)]
          repeat' split
          all_goals rfl
        rw [hc, tmC_no]
        exact rtime_few S ts w hS he hts g1 hb1 q0 (.inr hb5)
      · by_cases hz : (ts.getD 0 []).drop 2 = [90, 68, 65]
        · have hc : civ ts = cvZ (ts.getD 1 []) (ts.getD 2 []) (ts.getD 3 []) (ts.getD 4 []) := by
            unfold civ civZ
            rw [if_pos hn5, if_pos hz, if_neg hb5]
          rw [hc]
          refine rtime_zda S ts _ _ _ _ _ _ w hS he hts (by omega) hb1 rfl rfl rfl rfl rfl hn5 hz q1 q2 q3 q4 ?_ ?_
          · intro a b c d
            have hk : (cvZ (ts.getD 1 []) (ts.getD 2 []) (ts.getD 3 []) (ts.getD 4 [])).ok = true := by
              show (tdB _ && nuB _ 2 && nuB _ 2 && nuB _ 4) = true
              rw [a, b, c, d]; rfl
            unfold tmC
            rw [if_pos hk]
            rfl
          · intro a
            have hk : ¬ (cvZ (ts.getD 1 []) (ts.getD 2 []) (ts.getD 3 []) (ts.getD 4 [])).ok = true := by
              show ¬ (tdB _ && nuB _ 2 && nuB _ 2 && nuB _ 4) = true
              rcases a with a | a | a | a <;> rw [a] <;> simp
            unfold tmC
            rw [if_neg hk]
        · by_cases hr : (ts.getD 0 []).drop 2 = [82, 77, 67]
          · have hc : civ ts = civR ts := by
              unfold civ
              rw [if_pos hn5, if_neg hz, if_pos hr]
            rw [hc]
            unfold civR
            by_cases h10 : ts.length < 10
            · rw [if_pos h10, tmC_no]
              exact rtime_rmc1 S ts _ _ _ _ w hS he hts (by omega) hb1 rfl rfl rfl rfl hn5 hr q1 q9 h10
            · rw [if_neg h10]
              by_cases hA : ts.getD 2 [] = [65]
              · rw [if_pos hA]
                cases hnb : nuB (ts.getD 9 []) 6
                · have hk : ¬ (cvR (ts.getD 1 []) (ts.getD 9 [])).ok = true := by
                    show ¬ (tdB _ && nuB _ 6) = true
                    rw [hnb]; simp
                  unfold tmC
                  rw [if_neg hk]
                  exact rtime_rmc3 S ts _ _ _ _ w hS he hts (by omega) hb1 rfl rfl rfl rfl hn5 hr q1 q9 (by omega) hA hnb
                · refine rtime_rmc4 S ts _ _ _ _ _ w hS he hts (by omega) hb1 rfl rfl rfl rfl hn5 hr q1 q9 (by omega) hA hnb ?_ ?_
                  · intro a
                    have hk : (cvR (ts.getD 1 []) (ts.getD 9 [])).ok = true := by
                      show (tdB _ && nuB _ 6) = true
                      rw [a, hnb]; rfl
                    unfold tmC
                    rw [if_pos hk]
                    rfl
                  · intro a
                    have hk : ¬ (cvR (ts.getD 1 []) (ts.getD 9 [])).ok = true := by
                      show ¬ (tdB _ && nuB _ 6) = true
                      rw [a]; simp
                    unfold tmC
                    rw [if_neg hk]
              · rw [if_neg hA, tmC_no]
                exact rtime_rmc2 S ts _ _ _ _ w hS he hts (by omega) hb1 rfl rfl rfl rfl hn5 hr q1 q9 (by omega) hA
          · have hc : civ ts = cvNo := by
              unfold civ
              rw [if_pos hn5, if_neg hz, if_neg hr]
            rw [hc, tmC_no]
            exact rtime_other S ts _ _ w hS he hts (by omega) hb1 rfl rfl hn5 hz hr q1
    · have hc : civ ts = cvNo := by unfold civ; rw [if_neg hn5]
      rw [hc, tmC_no]
      exact rtime_few S ts w hS he hts g1 hb1 q0 (.inl hn5)
  · have h : tmV S.data.toList = noD (ckE S.data.toList) := by unfold tmV; rw [if_neg he]
    rw [h]
    exact rtime_err S w hS he
set_option maxHeartbeats 1000000 in
theorem sameTexts7_any (u v : Value) (ts : List (List UInt8)) (w : World) (hu : Rt w u ts) (hv : Rt w v ts) (hl : ts.length ≤ 10000000) :
    Calls Tryd.prog 11 #[u, v] w fun e w' => e = .returned (.bool true) ∧ ∃ n, w' = w.drewN n := by
  obtain ⟨ao, ca, rfl, h1, h2⟩ := hu
  obtain ⟨bo, cb, rfl, h3, h4⟩ := hv
  obtain ⟨L, hL⟩ : ∃ L, L = ts.length := ⟨_, rfl⟩
  rw [← hL]
  have HH : Hid (L = ts.length ∧ (∀ k (hk : k < ts.length), ∃ g o, ao = some ⟨g, o, none⟩ ∧ g < w.heap.size ∧ w.cell? ⟨g, o + k, none⟩ = some (.string (tx ts[k]))) ∧ (∀ k (hk : k < ts.length), ∃ g o, bo = some ⟨g, o, none⟩ ∧ g < w.heap.size ∧ w.cell? ⟨g, o + k, none⟩ = some (.string (tx ts[k])))) := ⟨hL, h2, h4⟩
  have hLi : (L : Int) ≤ 10000000 := by omega
  clear h1 h2 h3 h4 hL hl
  go_enter Tryd.func11, Tryd.ntmps11
  go_wp2
  go_loopw [5] (fun i wr => ∃ (k n : Nat), i = .int .i64 (k : Int) ∧ k ≤ L ∧ wr = w.drewN n) (fun i _ => L - (intOf i).toNat)
  case atStart => exact ⟨0, 0, rfl, Nat.zero_le _, rfl⟩
  case round =>
    obtain ⟨k, n, rfl, hk, rfl⟩ := hrel
    by_cases hlt : k < L
    · have hlti : (k : Int) < L := by omega
      obtain ⟨g, o, rfl, hg, hc⟩ := HH.out.2.1 k (by have := HH.out.1; omega)
      obtain ⟨g', o', rfl, hg', hc'⟩ := HH.out.2.2 k (by have := HH.out.1; omega)
      obtain ⟨X, hX⟩ : ∃ X, X = tx (ts[k]'(by have := HH.out.1; omega)) := ⟨_, rfl⟩
      rw [← hX] at hc hc'
      clear hX
      go_wp2
      go_region
      go_wp2
      exact ⟨⟨k + 1, n + 1, by go_num, by omega, rfl⟩, by simp [intOf]; omega⟩
    · go_wp2
      go_ret
      exact ⟨rfl, n, rfl⟩

/-- Check of both: the same texts, the same error -/
theorem checks (S : ByteArray) (M : Int) (hS : S.size ≤ 65536) : ∃ (ts : List (List UInt8)) (c : Int), ts.length ≤ 100000 ∧ (∀ u : World, u.cell? ⟨0, 0, none⟩ = some (.int .i64 M) → Calls Tryd.prog 5 #[.string S] u fun e w' => ∃ v, e = .returned (.tuple #[v, .int .i64 c]) ∧ Hid (Rt w' v ts ∧ Below u.heap.size u w')) ∧ (∀ u : World, Calls Tryd.prog 6 #[.string S] u fun e w' => ∃ v, e = .returned (.tuple #[v, .int .i64 c]) ∧ Hid (Rt w' v ts ∧ Below u.heap.size u w')) := by
  have hl : S.data.toList.length = S.size := by simp
  have hnil : ∀ u : World, Rt u (.slice none 0 0) [] := fun u => ⟨none, 0, rfl, by simp, fun k hk => absurd hk (by simp)⟩
  by_cases he : ckE S.data.toList = 0
  · obtain ⟨g1, g2, g3⟩ := flds_bd S.data.toList
    refine ⟨flds S.data.toList, 0, by omega, fun u hu => (check_ok S M u (by omega) he hu).mono ?_, fun u => (rcheck_ok S u (by omega) he).mono ?_⟩
    · rintro e w' ⟨v, h1, h2⟩
      exact ⟨v, h1, h2.out.1.rt, h2.out.2⟩
    · rintro e w' ⟨v, h1, h2⟩
      exact ⟨v, h1, h2.out.1.rt, h2.out.2⟩
  · refine ⟨[], ckE S.data.toList, by simp, fun u hu => (check_err S u (by omega) he).mono ?_, fun u => (rcheck_err S u (by omega) he).mono ?_⟩
    · rintro e w' ⟨h1, rfl⟩
      exact ⟨_, h1, hnil _, Below.refl _ _⟩
    · rintro e w' ⟨h1, k, rfl⟩
      exact ⟨_, h1, hnil _, below_drewN (Below.refl _ _) _⟩
end Go.Proofs.YthoilihokbakoaaDoor
