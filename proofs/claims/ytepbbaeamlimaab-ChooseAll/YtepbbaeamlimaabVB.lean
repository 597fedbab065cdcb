/- ChooseAll. -/
import Derived.Test.YtepbbaeamlimaabUV
import Derived.Test.YtepbbaeamlimaabUY
namespace Go.Proofs.Ytepbbaeamlimaab
open Go Go.RowKit Go.Sort Ch Pu
set_option linter.unusedVariables false
theorem th_alw {l : List Cn} (h : ∀ c ∈ l, ct c = true) (hl : l.length ≤ 64) : th l = l := by rw [th_short hl]; exact List.filter_eq_self.2 h
set_option maxRecDepth 20000 in
set_option maxHeartbeats 2000000 in
theorem ChooseAll_row (v : Value) (t : Int) (l : List Cn) (w : World) (h : Rk w.heap.size w 7 v (l.map cnL)) (hok : ∀ c ∈ l, okC c) (hlen : l.length ≤ maxLen) (ht : -2147483648 ≤ t ∧ t ≤ 2147483647) :
    Calls Try.prog 3 #[v, .int .i32 t] w fun e w' => e = .returned (.bool true) ∧ Below w.heap.size w w' := by
  obtain ⟨ao, cap, hv, _, hr⟩ := cands_read h
  have HR : Hid (∀ w', Below w.heap.size w w' → ∀ (i : Nat) c, l[i]? = some c → ∃ ad, ao = some ad ∧ ad.block < w.heap.size ∧ ∀ j u, (cnL c)[j]? = some u → w'.cell? ((ad.add (i * 7)).add j) = some u) := fun w' hb i c hc => hr w' (below_cells hb (Nat.le_refl _)) i c hc
  obtain ⟨n, hn⟩ : ∃ n, l.length = n := ⟨_, rfl⟩
  have HN : Hid (l.length = n) := hn
  rw [hn] at hv hlen
  subst hv
  have hn9 : (n : Int) ≤ 9223372036854775807 := by unfold maxLen at hlen; omega
  obtain ⟨ht0, ht1⟩ := ht
  clear h hr hn hok hlen
  by_cases hz : n = 0
  · subst hz
    go_enter Try.func3, Try.ntmps3
    refine post_hid fun Q hQ => ?_
    go_wp2_with fail
    rw [hQ.out]
    go_ret
    exact ⟨rfl, Below.refl _ _⟩
  have hz1 : ((n : Int) == 0) = false := by simp; omega
  by_cases hbig : (60 : Int) < n
  · go_enter Try.func3, Try.ntmps3
    refine post_hid fun Q hQ => ?_
    go_wp2_with fail
    rw [hQ.out]
    go_ret
    exact ⟨rfl, Below.refl _ _⟩
  have hn60 : (n : Int) ≤ 60 := by omega
  clear hn9
  go_enter Try.func3, Try.ntmps3
  refine post_hid fun Q hQ => ?_
  go_wp2_with fail
  clear hbig hz hz1
  go_loopw [5, 6] (fun v5 i wr => ∃ (k : Nat), i = .int .i64 k ∧ (k : Int) ≤ n ∧ Hid (Kp w wr v5 ((l.take k).map fun c => nr c t))) (fun _ i _ => n - (intOf i).toNat)
  case atStart => exact ⟨0, rfl, by omega, ⟨OR.fresh _ _ _ _ (Nat.le_refl _), (Below.refl _ _).alloc (Nat.le_refl _) _⟩⟩
  case round =>
    obtain ⟨k, rfl, hk, HB⟩ := hrel
    obtain ⟨v5, hv5⟩ : ∃ v, v = u5 := ⟨_, rfl⟩
    subst hv5
    by_cases hlt : (k : Int) < n
    · have hkl : k < l.length := by rw [HN.out]; omega
      obtain ⟨c, hc⟩ : ∃ c, l[k]? = some c := ⟨_, List.getElem?_eq_getElem hkl⟩
      obtain ⟨ad, g1, g2, g3⟩ := HR.out wr HB.out.be k c hc
      have hix := ix_C n cap k g1 hlt
      obtain ⟨al, hal⟩ : ∃ al, ad.add (k * 7) = al := ⟨_, rfl⟩
      rw [hal] at hix g3
      have HS : Hid (∀ j u, (cnL c)[j]? = some u → wr.cell? (al.add j) = some u) := g3
      have CN : Hid (∀ u, Calls Try.prog 5 #[.agg (cnL c).toArray, .int .i64 t] u fun e w' => e = .returned (.agg (cnL (nr c t)).toArray) ∧ Below u.heap.size u w') := fun u => near_any c t ht0 ht1 u
      have HT : Hid ((l.take (k + 1)).map (fun c => nr c t) = (l.take k).map (fun c => nr c t) ++ [nr c t]) := by show _ = _; rw [take_snoc hc, List.map_append]; rfl
      obtain ⟨R, hR⟩ : ∃ R, nr c t = R := ⟨_, rfl⟩
      rw [hR] at CN HT
      have HLn : Hid ((((l.take k).map fun c => nr c t).map cnL).length ≤ 60) := by
        show _ ≤ _
        rw [List.length_map, List.length_map, List.length_take]; omega
      clear g1 g2 g3 hc hkl hal hR
      go_wp2_with (first
        | (refine step_ldat 25 _ rfl rfl al (by rfl) (cnL c) _ Try.underlying25 rfl (by kernel_rfl) HS.out ?_)
        | (go_at_call 5; refine (CN.out wr).mono ?_; rintro e w7 ⟨rfl, hb7⟩; have K7 : Hid (Kp w w7 v5 ((l.take k).map fun c => nr c t)) := HB.out.next hb7; clear hb7)
        | (refine step_bsL (by rfl) 22 25 _ rfl (.agg (cnL R).toArray) (cnL R) (by rfl) (run_bsC R) ?_; intro w8 g8 H8)
        | (at_builtin; refine step_apL tiC rfl _ _ rfl w.heap.size g8 v5 (cnL R) (by rfl) (by rfl) rfl (cnL_one _) w7 _ ?_ ?_ K7.out.ow H8.out K7.out.be.size ?_; (have := HLn.out; simp only [maxLen]; omega); (have := HLn.out; omega); intro v9 w9 H9))
      go_roundw
      case rel =>
        refine ⟨k + 1, by go_num, by omega, ?_⟩
        rw [HT.out]
        exact ⟨by rw [List.map_append]; exact H9.out.1, K7.out.be.trans H9.out.2⟩
      case measure => (simp [intOf]; try omega)
    · have e1 : l.take k = l := List.take_of_length_le (by rw [HN.out]; omega)
      rw [e1] at HB
      obtain ⟨L, hL⟩ : ∃ L, l.map (fun c => nr c t) = L := ⟨_, rfl⟩
      rw [hL] at HB
      have HL : Hid (L.length = n ∧ ∀ a b, mtL L = some (a, b) → a * 65536 ≤ t ∧ t ≤ b * 65536) := by
        refine ⟨by rw [← hL, List.length_map]; exact HN.out, fun a b h => ?_⟩
        have hall : ∀ c ∈ L, ct c = true ∧ c.o - c.d ≤ t ∧ t ≤ c.o + c.d := fun c hc => by
          rw [← hL] at hc
          obtain ⟨x, _, rfl⟩ := List.mem_map.1 hc
          obtain ⟨p0, p1, p2, _, _⟩ := nr_ok x t ht0 ht1
          exact ⟨p0, p1, p2⟩
        refine all_hold h (fun c hc => ?_)
        rw [th_alw (fun c hc => (hall c hc).1) (by rw [← hL, List.length_map, HN.out]; omega)] at hc
        exact (hall c hc).2
      obtain ⟨o, ho⟩ : ∃ o, mtL L = o := ⟨_, rfl⟩
      have HO : Hid (mtL L = o) := ho
      have CR : Hid (∀ u, Kp w u v5 L → Calls Try.prog 7 #[v5] u fun e w' => e = .returned (.tuple #[.int .i64 (mA o), .int .i64 (mB o), .bool o.isSome]) ∧ Hid (Below u.heap.size u w')) := fun u hu => by
        rw [← ho]
        exact rmeet_any _ L u u.heap.size hu.ow.rk (Nat.le_refl _) (by rw [HL.out.1]; omega)
      have CM : Hid (∀ u, Kp w u v5 L → Calls Try.prog 6 #[v5] u fun e w' => e = .returned (.tuple #[.int .i64 (mA o), .int .i64 (mB o), .bool o.isSome]) ∧ Hid (Below u.heap.size u w')) := fun u hu => by
        rw [← ho]
        exact meet_any _ L u u.heap.size hu.ow.rk (Nat.le_refl _) (by rw [HL.out.1]; omega)
      clear e1 hL ho
      obtain ⟨wb, hwb⟩ : ∃ wb, wb = wr := ⟨_, rfl⟩
      subst hwb
      cases o with
      | none =>
        have CR0 : Hid (∀ u, Kp w u v5 L → Calls Try.prog 7 #[v5] u fun e w' => e = .returned (.tuple #[.int .i64 0, .int .i64 0, .bool false]) ∧ Hid (Below u.heap.size u w')) := CR.out
        have CM0 : Hid (∀ u, Kp w u v5 L → Calls Try.prog 6 #[v5] u fun e w' => e = .returned (.tuple #[.int .i64 0, .int .i64 0, .bool false]) ∧ Hid (Below u.heap.size u w')) := CM.out
        clear CR CM
        go_wp2_with fail
        refine (CM0.out _ HB.out).mono ?_
        rintro e w5 ⟨rfl, hb5⟩
        have K5 : Hid (Kp w w5 v5 L) := HB.out.next hb5.out
        clear hb5 HB CM0
        go_wp2_with fail
        refine (CR0.out _ K5.out).mono ?_
        rintro e w6 ⟨rfl, hb6⟩
        have K6 : Hid (Kp w w6 v5 L) := K5.out.next hb6.out
        clear hb6 K5 CR0
        go_wp2_with fail
        rw [hQ.out]
        go_ret
        exact ⟨ret_bool' (by first | rfl | (simp; done)), K6.out.be⟩
      | some r =>
        obtain ⟨a, b⟩ := r
        obtain ⟨a0, b0⟩ := HL.out.2 a b HO.out
        obtain ⟨A, hA⟩ : ∃ A, a * 65536 = A := ⟨_, rfl⟩
        obtain ⟨B, hB⟩ : ∃ B, b * 65536 = B := ⟨_, rfl⟩
        have CR0 : Hid (∀ u, Kp w u v5 L → Calls Try.prog 7 #[v5] u fun e w' => e = .returned (.tuple #[.int .i64 A, .int .i64 B, .bool true]) ∧ Hid (Below u.heap.size u w')) := by rw [← hA, ← hB]; exact CR.out
        have CM0 : Hid (∀ u, Kp w u v5 L → Calls Try.prog 6 #[v5] u fun e w' => e = .returned (.tuple #[.int .i64 A, .int .i64 B, .bool true]) ∧ Hid (Below u.heap.size u w')) := by rw [← hA, ← hB]; exact CM.out
        rw [hA] at a0
        rw [hB] at b0
        clear CR CM hA hB HO
        go_wp2_with fail
        refine (CM0.out _ HB.out).mono ?_
        rintro e w5 ⟨rfl, hb5⟩
        have K5 : Hid (Kp w w5 v5 L) := HB.out.next hb5.out
        clear hb5 HB CM0
        go_wp2_with fail
        refine (CR0.out _ K5.out).mono ?_
        rintro e w6 ⟨rfl, hb6⟩
        have K6 : Hid (Kp w w6 v5 L) := K5.out.next hb6.out
        clear hb6 K5 CR0
        go_wp2_with fail
        rw [hQ.out]
        go_ret
        exact ⟨ret_bool' (by first | rfl | (simp; done) | (simp; omega)), K6.out.be⟩
end Go.Proofs.Ytepbbaeamlimaab
