/- The reference's times of day, walked. -/
import Derived.Test.YthoilihokbakoaaDoorQU
namespace Go.Proofs.YthoilihokbakoaaDoor
open Go Go.RowKit
def ClP (l : List UInt8) (H N S F : Int) : Prop := 0 ≤ F ∧ F < 4294967296 ∧ (tdB l = true → H = tdN l / 10000 ∧ N = tdN l / 100 % 100 ∧ S = tdN l % 100 ∧ F = tdF l)
theorem ClP.no {l : List UInt8} (h : tdB l = false) (H N S : Int) : ClP l H N S 0 := ⟨by decide, by decide, fun e => by rw [h] at e; cases e⟩
theorem ex_list (s : ByteArray) (a b : Nat) : (s.extract a b).data.toList = (s.data.toList.drop a).take (b - a) := by
  rw [extract_tx, tx_data]
/-- a text of six bytes or more: its pairs -/
theorem six_parts (l : List UInt8) (h : 6 ≤ l.length) : l.take 6 = l.take 2 ++ (l.drop 2).take 2 ++ (l.drop 4).take 2 ∧ (l.take 2).length = 2 ∧ ((l.drop 2).take 2).length = 2 ∧ ((l.drop 4).take 2).length = 2 := by
  match l, h with
  | a :: b :: c :: d :: e :: f :: r, _ => simp
theorem six_bad (l : List UInt8) (h : 6 ≤ l.length) (hb : nuB (l.take 2) 2 = false ∨ nuB ((l.drop 2).take 2) 2 = false ∨ nuB ((l.drop 4).take 2) 2 = false) : tdB l = false := by
  refine td_few l (.inr ?_)
  obtain ⟨e, l1, l2, l3⟩ := six_parts l h
  rw [e, List.all_append, List.all_append]
  have g : ∀ p : List UInt8, p.length = 2 → nuB p 2 = false → p.all dgB = false := by
    intro p hp hb
    unfold nuB at hb
    rw [decide_eq_true (by omega)] at hb
    simpa using hb
  rcases hb with hb | hb | hb
  · rw [g _ l1 hb]; simp
  · rw [g _ l2 hb]; simp
  · rw [g _ l3 hb]; simp
theorem six_good (l : List UInt8) (h : 6 ≤ l.length) (h1 : nuB (l.take 2) 2 = true) (h2 : nuB ((l.drop 2).take 2) 2 = true) (h3 : nuB ((l.drop 4).take 2) 2 = true) :
    (l.take 6).all dgB = true ∧ (l.take 6).length = 6 ∧ vl (l.take 6) / 10000 = rnV (l.take 2) 2 ∧ vl (l.take 6) / 100 % 100 = rnV ((l.drop 2).take 2) 2 ∧ vl (l.take 6) % 100 = rnV ((l.drop 4).take 2) 2 := by
  obtain ⟨e, l1, l2, l3⟩ := six_parts l h
  have b1 := vl_bd _ (nuB_len h1).2
  have b2 := vl_bd _ (nuB_len h2).2
  have b3 := vl_bd _ (nuB_len h3).2
  rw [l1] at b1
  rw [l2] at b2
  rw [l3] at b3
  have v : vl (l.take 6) = vl (l.take 2) * 10000 + vl ((l.drop 2).take 2) * 100 + vl ((l.drop 4).take 2) := by
    rw [e, vl_app, vl_app, l2, l3]; omega
  refine ⟨by rw [e, List.all_append, List.all_append, (nuB_len h1).2, (nuB_len h2).2, (nuB_len h3).2]; rfl, by rw [List.length_take]; omega, ?_⟩
  unfold rnV
  rw [h1, h2, h3, v]
  simp only [if_true]
  omega
theorem nu_dec (l : List UInt8) : nuB l 2 = decide (0 ≤ rnV l 2) := by
  cases h : nuB l 2
  · rw [rn_f h]; rfl
  · rw [rn_t h]; have := nu_bd l 2 (by decide); rw [decide_eq_true this.1]
set_option maxHeartbeats 2000000 in
theorem rclock_any (s : ByteArray) (w : World) (hs : s.size ≤ 100000) :
    Calls Tryd.prog 21 #[.string s] w fun e w' => ∃ H N S F : Int, Hid (ClP s.data.toList H N S F) ∧ e = .returned (.tuple #[.agg #[.int .i64 0, .int .i64 0, .int .i64 0, .int .i64 H, .int .i64 N, .int .i64 S, .int .u32 F], .bool (tdB s.data.toList)]) ∧ Below w.heap.size w w' := by
  have hl : s.data.toList.length = s.size := by simp
  have hsi : (s.size : Int) ≤ 100000 := by omega
  by_cases h6 : s.size < 6
  · have ht : tdB s.data.toList = false := td_few _ (.inl (by omega))
    have HC : Hid (ClP s.data.toList 0 0 0 0) := ClP.no ht 0 0 0
    rw [ht]
    have h6i : (s.size : Int) < 6 := by omega
    clear hl ht h6
    go_enter Tryd.func21, Tryd.ntmps21
    repeat (first | go_values | go_skip | go_guarded | go_step | go_upon)
    exact bodyPost_ret (v := .tuple #[.agg #[.int .i64 0, .int .i64 0, .int .i64 0, .int .i64 0, .int .i64 0, .int .i64 0, .int .u32 0], .bool false]) (by simp [results, Tryd.results21, go_sem]) rfl ⟨0, 0, 0, 0, HC, rfl, (by repeat' (first | with_reducible exact Below.refl _ _ | with_reducible refine Below.setCell ?_ (by first | (simp; done) | (simp; omega) | omega) _ | with_reducible refine below_drewN ?_ _ | with_reducible refine Below.drew ?_ | with_reducible refine Below.alloc ?_ (by first | (simp; done) | (simp; omega) | omega) _))⟩
  · have h6i : ¬ (s.size : Int) < 6 := by omega
    have h6j : 6 ≤ (s.size : Int) := by omega
    have N1 : Hid (∀ u, Calls Tryd.prog 22 #[.string (s.extract 0 2), .int .i64 2] u fun e w' => e = .returned (.int .i64 (rnV (s.data.toList.take 2) 2)) ∧ w' = u) := by
      intro u
      have h := rnumber_any (s.extract 0 2) 2 u (by rw [ByteArray.size_extract]; omega) (by decide)
      rw [ex_list, List.drop_zero] at h
      exact h
    have N2 : Hid (∀ u, Calls Tryd.prog 22 #[.string (s.extract 2 4), .int .i64 2] u fun e w' => e = .returned (.int .i64 (rnV ((s.data.toList.drop 2).take 2) 2)) ∧ w' = u) := by
      intro u
      have h := rnumber_any (s.extract 2 4) 2 u (by rw [ByteArray.size_extract]; omega) (by decide)
      rw [ex_list] at h
      exact h
    have N3 : Hid (∀ u, Calls Tryd.prog 22 #[.string (s.extract 4 6), .int .i64 2] u fun e w' => e = .returned (.int .i64 (rnV ((s.data.toList.drop 4).take 2) 2)) ∧ w' = u) := by
      intro u
      have h := rnumber_any (s.extract 4 6) 2 u (by rw [ByteArray.size_extract]; omega) (by decide)
      rw [ex_list] at h
      exact h
    have r1 := rn_bd (s.data.toList.take 2) 2 (by decide)
    have r2 := rn_bd ((s.data.toList.drop 2).take 2) 2 (by decide)
    have r3 := rn_bd ((s.data.toList.drop 4).take 2) 2 (by decide)
    have z1 : Hid (nuB (s.data.toList.take 2) 2 = decide (0 ≤ rnV (s.data.toList.take 2) 2)) := nu_dec _
    have z2 : Hid (nuB ((s.data.toList.drop 2).take 2) 2 = decide (0 ≤ rnV ((s.data.toList.drop 2).take 2) 2)) := nu_dec _
    have z3 : Hid (nuB ((s.data.toList.drop 4).take 2) 2 = decide (0 ≤ rnV ((s.data.toList.drop 4).take 2) 2)) := nu_dec _
    have HG := six_good s.data.toList (by omega)
    have HB := six_bad s.data.toList (by omega)
    rw [z1.out, z2.out, z3.out] at HG HB
    clear z1 z2 z3
    generalize rnV (s.data.toList.take 2) 2 = H at *
    generalize rnV ((s.data.toList.drop 2).take 2) 2 = N at *
    generalize rnV ((s.data.toList.drop 4).take 2) 2 = S at *
    obtain ⟨r10, r11⟩ := r1
    obtain ⟨r20, r21⟩ := r2
    obtain ⟨r30, r31⟩ := r3
    by_cases hneg : H < 0 ∨ N < 0 ∨ S < 0
    · have ht : tdB s.data.toList = false := HB (by
        rcases hneg with h | h | h
        · exact .inl (by rw [decide_eq_false_iff_not]; omega)
        · exact .inr (.inl (by rw [decide_eq_false_iff_not]; omega))
        · exact .inr (.inr (by rw [decide_eq_false_iff_not]; omega)))
      have HC : Hid (ClP s.data.toList H N S 0) := ClP.no ht H N S
      rw [ht]
      clear hl ht h6 HB HG
      go_enter Tryd.func21, Tryd.ntmps21
      go_wp2_with fail
      refine (N1.out _).mono ?_
      rintro e w1 ⟨rfl, hw⟩
      rw [hw]
      clear hw
      go_wp2_with fail
      refine (N2.out _).mono ?_
      rintro e w1 ⟨rfl, hw⟩
      rw [hw]
      clear hw
      go_wp2_with fail
      refine (N3.out _).mono ?_
      rintro e w1 ⟨rfl, hw⟩
      rw [hw]
      clear hw
      clear N1 N2 N3
      simp only []
      rcases (by omega : H < 0 ∨ (0 ≤ H ∧ N < 0) ∨ (0 ≤ H ∧ 0 ≤ N ∧ S < 0)) with h | ⟨h, h'⟩ | ⟨h, h', h''⟩
      all_goals
        clear hneg
        repeat (first | go_values | go_skip | go_guarded | go_step | go_upon)
        exact bodyPost_ret (v := .tuple #[.agg #[.int .i64 0, .int .i64 0, .int .i64 0, .int .i64 H, .int .i64 N, .int .i64 S, .int .u32 0], .bool false]) (by simp [results, Tryd.results21, go_sem]) rfl ⟨H, N, S, 0, HC, rfl, (by repeat' (first | with_reducible exact Below.refl _ _ | with_reducible refine Below.setCell ?_ (by first | (simp; done) | (simp; omega) | omega) _ | with_reducible refine below_drewN ?_ _ | with_reducible refine Below.drew ?_ | with_reducible refine Below.alloc ?_ (by first | (simp; done) | (simp; omega) | omega) _))⟩
    · have p1 : 0 ≤ H := by omega
      have p2 : 0 ≤ N := by omega
      have p3 : 0 ≤ S := by omega
      obtain ⟨hall, hlen, v1, v2, v3⟩ := HG (decide_eq_true p1) (decide_eq_true p2) (decide_eq_true p3)
      clear HG HB hneg
      by_cases he6 : s.size = 6
      · have e6 : s.data.toList.take 6 = s.data.toList := List.take_of_length_le (by omega)
        rw [e6] at hall hlen v1 v2 v3
        obtain ⟨t1, t2, t3⟩ := td_six _ hlen hall
        have HC : Hid (ClP s.data.toList H N S 0) := ⟨by decide, by decide, fun _ => by rw [t2, t3]; exact ⟨v1.symm, v2.symm, v3.symm, rfl⟩⟩
        rw [t1]
        have b6 : ((s.size : Int) == 6) = true := by rw [he6]; rfl
        have h6k : (s.size : Int) ≤ 6 := by omega
        clear hl h6 he6 e6 hall hlen v1 v2 v3 t1 t2 t3
        go_enter Tryd.func21, Tryd.ntmps21
        go_wp2_with fail
        refine (N1.out _).mono ?_
        rintro e w1 ⟨rfl, hw⟩
        rw [hw]
        clear hw
        go_wp2_with fail
        refine (N2.out _).mono ?_
        rintro e w1 ⟨rfl, hw⟩
        rw [hw]
        clear hw
        go_wp2_with fail
        refine (N3.out _).mono ?_
        rintro e w1 ⟨rfl, hw⟩
        rw [hw]
        clear hw
        clear N1 N2 N3
        simp only []
        repeat (first | go_values | go_skip | go_guarded | go_step | go_upon)
        exact bodyPost_ret (v := .tuple #[.agg #[.int .i64 0, .int .i64 0, .int .i64 0, .int .i64 H, .int .i64 N, .int .i64 S, .int .u32 0], .bool true]) (by simp [results, Tryd.results21, go_sem]) rfl ⟨H, N, S, 0, HC, rfl, (by repeat' (first | with_reducible exact Below.refl _ _ | with_reducible refine Below.setCell ?_ (by first | (simp; done) | (simp; omega) | omega) _ | with_reducible refine below_drewN ?_ _ | with_reducible refine Below.drew ?_ | with_reducible refine Below.alloc ?_ (by first | (simp; done) | (simp; omega) | omega) _))⟩
      · have h7 : 6 < s.size := by omega
        have h7i : 6 < (s.size : Int) := by omega
        have h7j : 7 ≤ (s.size : Int) := by omega
        have b6 : ((s.size : Int) == 6) = false := by rw [beq_eq_false_iff_ne]; omega
        obtain ⟨x, hx⟩ : ∃ x, s[6] = x := ⟨_, rfl⟩
        have hparts : s.data.toList = s.data.toList.take 6 ++ x :: s.data.toList.drop 7 := by
          have h := List.take_append_drop 6 s.data.toList
          rw [drop_at s 6 h7, hx] at h
          exact h.symm
        have hxl := x.toNat_lt
        have hq : (s.extract 7 s.size).data.toList = s.data.toList.drop 7 := by
          rw [ex_list, List.take_of_length_le (by rw [List.length_drop]; omega)]
        have hqz : (s.extract 7 s.size).size ≤ 100000 := by rw [ByteArray.size_extract]; omega
        have hql : (s.data.toList.drop 7).length = s.size - 7 := by rw [List.length_drop, hl]
        have W : Hid (∀ u K, Calls Tryd.prog 22 #[.string (s.extract 7 s.size), .int .i64 K] u fun e w' => (∃ r, e = .returned (.int .i64 r)) ∧ w' = u) := fun u K => rnumber_wild _ K u (by omega)
        have W2 : Hid (∀ u K, K ≤ 10 → Calls Tryd.prog 22 #[.string (s.extract 7 s.size), .int .i64 K] u fun e w' => e = .returned (.int .i64 (rnV (s.data.toList.drop 7) K)) ∧ w' = u) := fun u K hK => by
          have h := rnumber_any (s.extract 7 s.size) K u (by omega) hK
          rw [hq] at h
          exact h
        obtain ⟨D, hD⟩ : ∃ D : Int, D = (s.size : Int) - 7 := ⟨_, rfl⟩
        by_cases hx46 : x.toNat = 46
        · have hx2 : x = 46 := UInt8.toNat_inj.1 hx46
          subst hx2
          have bx : (((46 : UInt8).toNat : Int) != 46) = false := by decide
          obtain ⟨t1, t2, t3⟩ := td_point (s.data.toList.take 6) (s.data.toList.drop 7) hlen hall
          rw [← hparts] at t1 t2 t3
          by_cases hd : s.size = 7 ∨ 13 < s.size
          · have hf : frB (s.data.toList.drop 7) = false := by
              unfold frB; rw [hql, decide_eq_false (by omega)]; rfl
            rw [hf] at t1
            have HC : Hid (ClP s.data.toList H N S 0) := ClP.no t1 H N S
            rw [t1]
            have hd2 : (s.size : Int) - 7 < 1 ∨ (1 ≤ (s.size : Int) - 7 ∧ 6 < (s.size : Int) - 7) := by omega
            clear hl h6 he6 hall hlen v1 v2 v3 t1 t2 t3 hparts hq hqz hql W2 hx46 hf hd hD
            rcases hd2 with hd2 | ⟨hd2, hd3⟩
            all_goals
              go_enter Tryd.func21, Tryd.ntmps21
              go_wp2_with fail
              refine (N1.out _).mono ?_
              rintro e w1 ⟨rfl, hw⟩
              rw [hw]
              clear hw
              go_wp2_with fail
              refine (N2.out _).mono ?_
              rintro e w1 ⟨rfl, hw⟩
              rw [hw]
              clear hw
              go_wp2_with fail
              refine (N3.out _).mono ?_
              rintro e w1 ⟨rfl, hw⟩
              rw [hw]
              clear hw
              clear N1 N2 N3
              go_wp2_with fail
              refine (W.out _ _).mono ?_
              rintro e w1 ⟨⟨r, rfl⟩, hw⟩
              rw [hw]
              clear hw W
              simp only []
              repeat (first | go_values | go_skip | go_guarded | go_step | go_upon)
              exact bodyPost_ret (v := .tuple #[.agg #[.int .i64 0, .int .i64 0, .int .i64 0, .int .i64 H, .int .i64 N, .int .i64 S, .int .u32 0], .bool false]) (by simp [results, Tryd.results21, go_sem]) rfl ⟨H, N, S, 0, HC, rfl, (by repeat' (first | with_reducible exact Below.refl _ _ | with_reducible refine Below.setCell ?_ (by first | (simp; done) | (simp; omega) | omega) _ | with_reducible refine below_drewN ?_ _ | with_reducible refine Below.drew ?_ | with_reducible refine Below.alloc ?_ (by first | (simp; done) | (simp; omega) | omega) _))⟩
          · have hd1 : 1 ≤ (s.size : Int) - 7 := by omega
            have hd2 : (s.size : Int) - 7 ≤ 6 := by omega
            have hfn : frB (s.data.toList.drop 7) = nuB (s.data.toList.drop 7) ((s.size : Int) - 7) := by
              unfold frB nuB; rw [hql, decide_eq_true (by omega), decide_eq_true (by omega)]
            have W3 : Hid (∀ u, Calls Tryd.prog 22 #[.string (s.extract 7 s.size), .int .i64 ((s.size : Int) - 7)] u fun e w' => e = .returned (.int .i64 (rnV (s.data.toList.drop 7) ((s.size : Int) - 7))) ∧ w' = u) := fun u => W2.out u _ (by omega)
            cases hnb : nuB (s.data.toList.drop 7) ((s.size : Int) - 7)
            · rw [rn_f hnb] at W3
              rw [hfn, hnb] at t1
              have HC : Hid (ClP s.data.toList H N S 0) := ClP.no t1 H N S
              rw [t1]
              clear hl h6 he6 hall hlen v1 v2 v3 t1 t2 t3 hparts hq hqz hql W2 hx46 hfn hnb hd hD W
              go_enter Tryd.func21, Tryd.ntmps21
              go_wp2_with fail
              refine (N1.out _).mono ?_
              rintro e w1 ⟨rfl, hw⟩
              rw [hw]
              clear hw
              go_wp2_with fail
              refine (N2.out _).mono ?_
              rintro e w1 ⟨rfl, hw⟩
              rw [hw]
              clear hw
              go_wp2_with fail
              refine (N3.out _).mono ?_
              rintro e w1 ⟨rfl, hw⟩
              rw [hw]
              clear hw
              clear N1 N2 N3
              go_wp2_with fail
              refine (W3.out _).mono ?_
              rintro e w1 ⟨rfl, hw⟩
              rw [hw]
              clear hw W3
              simp only []
              repeat (first | go_values | go_skip | go_guarded | go_step | go_upon)
              exact bodyPost_ret (v := .tuple #[.agg #[.int .i64 0, .int .i64 0, .int .i64 0, .int .i64 H, .int .i64 N, .int .i64 S, .int .u32 0], .bool false]) (by simp [results, Tryd.results21, go_sem]) rfl ⟨H, N, S, 0, HC, rfl, (by repeat' (first | with_reducible exact Below.refl _ _ | with_reducible refine Below.setCell ?_ (by first | (simp; done) | (simp; omega) | omega) _ | with_reducible refine below_drewN ?_ _ | with_reducible refine Below.drew ?_ | with_reducible refine Below.alloc ?_ (by first | (simp; done) | (simp; omega) | omega) _))⟩
            · have hv : rnV (s.data.toList.drop 7) ((s.size : Int) - 7) = vl (s.data.toList.drop 7) := by unfold rnV; rw [hnb]; rfl
              rw [hv] at W3
              rw [hfn, hnb] at t1
              have hvb := vl_bd _ (nuB_len hnb).2
              have hfv : frV (s.data.toList.drop 7) = vl (s.data.toList.drop 7) * 4294967296 / 10 ^ (s.size - 7) := by
                unfold frV; rw [hfn, hnb, hql]; rfl
              obtain ⟨fb0, fb1⟩ := fr_bd (s.data.toList.drop 7)
              rw [hql] at hvb
              have hpl : (10 : Int) ^ (s.size - 7) ≤ 1000000 := (pow6 _ (by omega)).2
              have HC : Hid (ClP s.data.toList H N S (frV (s.data.toList.drop 7))) := ⟨fb0, fb1, fun _ => by rw [t2, t3]; exact ⟨v1.symm, v2.symm, v3.symm, rfl⟩⟩
              rw [t1]
              obtain ⟨vq0, vq1⟩ := hvb
              have HF : Hid (frV (s.data.toList.drop 7) = vl (s.data.toList.drop 7) * 4294967296 / 10 ^ (s.size - 7)) := hfv
              generalize frV (s.data.toList.drop 7) = FV at *
              generalize vl (s.data.toList.drop 7) = V at *
              have vq2 : V < 1000000 := by omega
              clear hl h6 he6 hall hlen v1 v2 v3 t1 t2 t3 hparts hq hqz hql W2 hx46 hfn hnb hd hD W hv hfv vq1 hpl
              go_enter Tryd.func21, Tryd.ntmps21
              go_wp2_with fail
              refine (N1.out _).mono ?_
              rintro e w1 ⟨rfl, hw⟩
              rw [hw]
              clear hw
              go_wp2_with fail
              refine (N2.out _).mono ?_
              rintro e w1 ⟨rfl, hw⟩
              rw [hw]
              clear hw
              go_wp2_with fail
              refine (N3.out _).mono ?_
              rintro e w1 ⟨rfl, hw⟩
              rw [hw]
              clear hw
              clear N1 N2 N3
              go_wp2_with fail
              refine (W3.out _).mono ?_
              rintro e w1 ⟨rfl, hw⟩
              rw [hw]
              clear hw W3
              simp only []
              repeat (first | go_values | go_skip | go_guarded | go_step | go_upon)
              go_loop [7, 8] (fun sc i => ∃ (k : Nat) (P : Int), i = .int .i64 (k : Int) ∧ sc = .int .i64 P ∧ k ≤ s.size - 7 ∧ Hid (P = 10 ^ k)) (fun _ i => (s.size - 7) - (intOf i).toNat)
              case atStart => exact ⟨0, 1, rfl, rfl, Nat.zero_le _, rfl⟩
              case round =>
                obtain ⟨k, P, rfl, rfl, hk, HP⟩ := hrel
                have hP : 1 ≤ P ∧ P ≤ 1000000 := by rw [HP.out]; exact pow6 k (by omega)
                obtain ⟨P0, P1⟩ := hP
                by_cases hlt : k < s.size - 7
                · have hlti : (k : Int) < (s.size : Int) - 7 := by omega
                  have HP2 : Hid (P * 10 = 10 ^ (k + 1)) := by show _ = _; rw [Int.pow_succ, ← HP.out]
                  clear HF HC
                  repeat (first | go_values | go_skip | go_guarded | go_step | go_upon)
                  refine ⟨⟨k + 1, _, by go_num, rfl, by omega, HP2⟩, by simp [intOf]; omega⟩
                · have hlti : ¬ (k : Int) < (s.size : Int) - 7 := by omega
                  have hke : k = s.size - 7 := by omega
                  have hE : V * 4294967296 / P = FV := by rw [HF.out, HP.out, hke]
                  have hVm : 0 ≤ V * 4294967296 := by omega
                  have hVt : (V * 4294967296).tdiv P = FV := by rw [Int.tdiv_eq_ediv_of_nonneg hVm]; exact hE
                  clear hke hE HP HF
                  repeat (first | go_values | go_skip | go_guarded | go_step | go_upon)
                  exact bodyPost_ret (v := .tuple #[.agg #[.int .i64 0, .int .i64 0, .int .i64 0, .int .i64 H, .int .i64 N, .int .i64 S, .int .u32 FV], .bool true]) (by simp [results, Tryd.results21, go_sem]) rfl ⟨H, N, S, FV, HC, rfl, (by repeat' (first | with_reducible exact Below.refl _ _ | with_reducible refine Below.setCell ?_ (by first | (simp; done) | (simp; omega) | omega) _ | with_reducible refine below_drewN ?_ _ | with_reducible refine Below.drew ?_ | with_reducible refine Below.alloc ?_ (by first | (simp; done) | (simp; omega) | omega) _))⟩
        · have ht := td_none (s.data.toList.take 6) (s.data.toList.drop 7) x hlen hall hx46
          rw [← hparts] at ht
          have HC : Hid (ClP s.data.toList H N S 0) := ClP.no ht H N S
          rw [ht]
          have bx : ((x.toNat : Int) != 46) = true := by rw [bne_iff_ne]; omega
          clear hl h6 he6 hall hlen v1 v2 v3 ht hparts hq hqz hql W2 hx46
          go_enter Tryd.func21, Tryd.ntmps21
          go_wp2_with fail
          refine (N1.out _).mono ?_
          rintro e w1 ⟨rfl, hw⟩
          rw [hw]
          clear hw
          go_wp2_with fail
          refine (N2.out _).mono ?_
          rintro e w1 ⟨rfl, hw⟩
          rw [hw]
          clear hw
          go_wp2_with fail
          refine (N3.out _).mono ?_
          rintro e w1 ⟨rfl, hw⟩
          rw [hw]
          clear hw
          clear N1 N2 N3
          go_wp2_with fail
          refine (W.out _ _).mono ?_
          rintro e w1 ⟨⟨r, rfl⟩, hw⟩
          rw [hw]
          clear hw W
          simp only []
          repeat (first | go_values | go_skip | go_guarded | go_step | go_upon)
          exact bodyPost_ret (v := .tuple #[.agg #[.int .i64 0, .int .i64 0, .int .i64 0, .int .i64 H, .int .i64 N, .int .i64 S, .int .u32 0], .bool false]) (by simp [results, Tryd.results21, go_sem]) rfl ⟨H, N, S, 0, HC, rfl, (by repeat' (first | with_reducible exact Below.refl _ _ | with_reducible refine Below.setCell ?_ (by first | (simp; done) | (simp; omega) | omega) _ | with_reducible refine below_drewN ?_ _ | with_reducible refine Below.drew ?_ | with_reducible refine Below.alloc ?_ (by first | (simp; done) | (simp; omega) | omega) _))⟩
end Go.Proofs.YthoilihokbakoaaDoor
