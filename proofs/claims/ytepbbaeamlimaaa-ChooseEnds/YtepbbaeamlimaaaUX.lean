/- ChooseEnds. -/
import Derived.Test.YtepbbaeamlimaaaUU
import Derived.Test.YtepbbaeamlimaaaUL
namespace Go.Proofs.Ytepbbaeamlimaaa
open Go Go.RowKit Go.Sort Ch Pu
set_option linter.unusedVariables false
/-- the seven cells of a candidate at some place -/
def Ce (u : World) (al : Addr) (i o d j s : Int) (pf pu : Bool) : Prop := u.cell? al = some (.int .i64 i) ∧ u.cell? ⟨al.block, al.off + 1, none⟩ = some (.int .i64 o) ∧ u.cell? ⟨al.block, al.off + 2, none⟩ = some (.int .i64 d) ∧ u.cell? ⟨al.block, al.off + 3, none⟩ = some (.int .i64 j) ∧ u.cell? ⟨al.block, al.off + 4, none⟩ = some (.int .i64 s) ∧ u.cell? ⟨al.block, al.off + 5, none⟩ = some (.bool pf) ∧ u.cell? ⟨al.block, al.off + 6, none⟩ = some (.bool pu)
set_option maxRecDepth 20000 in
set_option maxHeartbeats 2000000 in
theorem ChooseEnds_row (v : Value) (mo : Int) (l : List Cn) (w : World) (h : Rk w.heap.size w 7 v (l.map cnL)) (hok : ∀ c ∈ l, okC c) (hlen : l.length ≤ maxLen) (hm : -9223372036854775808 ≤ mo ∧ mo ≤ 9223372036854775807) :
    Calls Try.prog 6 #[v, .int .i64 mo] w fun e w' => e = .returned (.bool true) ∧ Below w.heap.size w w' := by
  have H0 : Hid (Rk w.heap.size w 7 v (l.map cnL)) := h
  obtain ⟨ao, cap, hv, hcap, hr⟩ := cands_read h
  have HR : Hid (∀ w', Below w.heap.size w w' → ∀ (i : Nat) c, l[i]? = some c → ∃ ad, ao = some ad ∧ ad.block < w.heap.size ∧ ∀ j u, (cnL c)[j]? = some u → w'.cell? ((ad.add (i * 7)).add j) = some u) := fun w' hb i c hc => hr w' (below_cells hb (Nat.le_refl _)) i c hc
  obtain ⟨n, hn⟩ : ∃ n, l.length = n := ⟨_, rfl⟩
  have HN : Hid (l.length = n) := hn
  rw [hn] at hv hlen
  subst hv
  clear h hr hn hcap hlen hok hm
  by_cases hbig : (256 : Int) < n
  · go_enter Try.func6, Try.ntmps6
    refine post_hid fun Q hQ => ?_
    go_wp2_with fail
    rw [hQ.out]
    go_ret
    exact ⟨rfl, Below.refl _ _⟩
  · have hl2 : (n : Int) ≤ 256 := by omega
    clear hbig
    go_enter Try.func6, Try.ntmps6
    refine post_hid fun Q hQ => ?_
    go_wp2_with fail
    go_loopw [5] (fun i wr => ∃ (k : Nat), i = .int .i64 k ∧ (k : Int) ≤ n ∧ Hid (Below w.heap.size w wr)) (fun i _ => n - (intOf i).toNat)
    case atStart => exact ⟨0, rfl, by omega, Below.refl _ _⟩
    case round =>
      obtain ⟨k, rfl, hk, HB⟩ := hrel
      by_cases hlt : (k : Int) < n
      · have hkl : k < l.length := by rw [HN.out]; omega
        obtain ⟨c, hc⟩ : ∃ c, l[k]? = some c := ⟨_, List.getElem?_eq_getElem hkl⟩
        obtain ⟨ad, g1, g2, g3⟩ := HR.out wr HB.out k c hc
        have hix := ix_C n cap k g1 hlt
        obtain ⟨X, hX⟩ : ∃ X, ft c mo = X := ⟨_, rfl⟩
        have C1 : Hid (∀ u, Calls Try.prog 15 #[.agg (cnL c).toArray, .int .i64 mo] u fun e w' => e = .returned (.bool X) ∧ Below u.heap.size u w') := fun u => by rw [← hX]; exact fit_any c mo u
        have C2 : Hid (∀ u, Calls Try.prog 16 #[.agg (cnL c).toArray, .int .i64 mo] u fun e w' => e = .returned (.bool X) ∧ Below u.heap.size u w') := fun u => by rw [← hX]; exact rfit_any c mo u
        have hXX : (X != X) = false := by simp
        have hal0 : (ad.add (k * 7)).block < wr.heap.size := by rw [add_block]; have := HB.out.size; omega
        obtain ⟨al, hal⟩ : ∃ al, ad.add (k * 7) = al := ⟨_, rfl⟩
        rw [hal] at hix g3 hal0
        obtain ⟨ci, co, cd, cj, cs, cp, cu⟩ := c
        have HCC : Hid (∀ u, Below wr.heap.size wr u → Ce u al ci co cd cj cs cp cu) := fun u hu => by
          have q : ∀ j x, (cnL ⟨ci, co, cd, cj, cs, cp, cu⟩)[j]? = some x → u.cell? (al.add j) = some x := fun j x hx => (hu.cell (p := al.add j) (by rw [add_block]; exact hal0)).trans (g3 j x hx)
          exact ⟨q 0 _ rfl, q 1 _ rfl, q 2 _ rfl, q 3 _ rfl, q 4 _ rfl, q 5 _ rfl, q 6 _ rfl⟩
        have k4 := HCC.out wr (Below.refl _ _)
        obtain ⟨q0, q1, q2, q3, q4, q5, q6⟩ := k4
        unfold Ce at HCC
        clear g1 g2 g3 hc hkl hX hal hal0
        go_upto_region 6 with (fail)
        go_region_held3 (fun w' => w'.cell? al = some (.int .i64 ci) ∧ w'.cell? ⟨al.block, al.off + 1, none⟩ = some (.int .i64 co) ∧ w'.cell? ⟨al.block, al.off + 2, none⟩ = some (.int .i64 cd) ∧ w'.cell? ⟨al.block, al.off + 3, none⟩ = some (.int .i64 cj) ∧ w'.cell? ⟨al.block, al.off + 4, none⟩ = some (.int .i64 cs) ∧ w'.cell? ⟨al.block, al.off + 5, none⟩ = some (.bool cp) ∧ w'.cell? ⟨al.block, al.off + 6, none⟩ = some (.bool cu))
          (first | with_reducible exact k6 | with_reducible exact k5 | with_reducible exact ⟨q0, q1, q2, q3, q4, q5, q6⟩ | go_keep)
          ((first
            | (go_at_call 15; refine (C1.out _).mono ?_; rintro e w5 ⟨rfl, hb5⟩; have M5 : Hid (Below wr.heap.size wr w5) := (by first | exact hb5 | exact below_of_drw hb5); have k5 := HCC.out w5 M5.out; clear hb5)
            | (go_at_call 16; refine (C2.out _).mono ?_; rintro e w6 ⟨rfl, hb5⟩; have M6 : Hid (Below wr.heap.size wr w6) := (by first | exact below_thru M5.out hb5 | exact below_thru M5.out (below_of_drw hb5)); have k6 := HCC.out w6 M6.out; clear hb5)))
        have HB6 : Hid (Below w.heap.size w w6) := below_thru HB.out M6.out
        clear k5 k6 q0 q1 q2 q3 q4 q5 q6 M5 M6 HB C1 C2 HCC
        go_wp2_with fail
        go_roundw
        case rel => exact ⟨k + 1, by go_num, by omega, HB6⟩
        case measure => (simp [intOf]; try omega)
      · obtain ⟨w3, hw3⟩ : ∃ w3, w3 = wr := ⟨_, rfl⟩
        subst hw3
        have CE : Hid (Calls Try.prog 14 #[.slice ao n cap] w3 fun e w' => ∃ s, e = .returned s ∧ Hid (OR w' w3.heap.size 50 1 s (enR (E l))) ∧ Hid (Below w3.heap.size w3 w')) := ends_any _ l w3 w.heap.size (H0.out.below HB.out (Nat.le_refl _)) HB.out.size (by rw [HN.out]; omega)
        have CA : Hid (∀ u, Below w.heap.size w u → Calls Try.prog 18 #[.slice ao n cap] u fun e w' => ∃ s, e = .returned s ∧ Hid (Sv2 w' u.heap.size s (E l)) ∧ Hid (Below u.heap.size u w')) := fun u hu => rall_any _ l u w.heap.size (H0.out.below hu (Nat.le_refl _)) hu.size (by rw [HN.out]; omega)
        go_wp2_with fail
        refine CE.out.mono ?_
        rintro e w4 ⟨e1, rfl, O4, hb4⟩
        have HB4 : Hid (Below w.heap.size w w4) := below_thru HB.out hb4.out
        clear CE hb4
        go_wp2_with fail
        refine (CA.out _ HB4.out).mono ?_
        rintro e w5 ⟨e2, rfl, O5, hb5⟩
        have CC : Hid (Calls Try.prog 17 #[e1, e2] w5 fun e w' => e = .returned (.bool true) ∧ Below w5.heap.size w5 w') := asTold_any e1 e2 (E l) (fun z hz => E_ok hz) w5 _ _ (O4.out.below hb5.out (Nat.le_refl _)).rk O5.out.rk.1 (by rw [E_len]; have := th_len l; omega)
        have HB5 : Hid (Below w.heap.size w w5) := below_thru HB4.out hb5.out
        clear CA hb5 O4 O5 HB4
        go_wp2_with fail
        refine CC.out.mono ?_
        rintro e w6 ⟨rfl, hb6⟩
        have HB6 : Hid (Below w.heap.size w w6) := below_thru HB5.out hb6
        clear hb6 CC HB5
        go_wp2_with fail
        rw [hQ.out]
        go_ret
        exact ⟨rfl, HB6.out⟩
end Go.Proofs.Ytepbbaeamlimaaa
