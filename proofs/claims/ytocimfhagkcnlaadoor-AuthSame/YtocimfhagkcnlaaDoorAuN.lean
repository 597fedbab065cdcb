/- Auth: two rows of bytes are the same just if each byte is: the statement's function. -/
import Derived.Test.YtocimfhagkcnlaaDoorAuM
import Derived.Test.YtocimfhagkcnlaaDoorAuH
namespace Go.Proofs.YtocimfhagkcnlaaDoor
open Go Go.RowKit Go.Sort
set_option linter.unusedVariables false
theorem xor_zero (x y : Int) (hx : U8 x) (hy : U8 y) : bits .xor .u8 x y = 0 ↔ x = y := by
  have e1 : ((x.toNat : Nat) : Int) = x := Int.toNat_of_nonneg hx.1
  have e2 : ((y.toNat : Nat) : Int) = y := Int.toNat_of_nonneg hy.1
  rw [u8_xor x y hx.1 hx.2 hy.1 hy.2]
  constructor
  · intro h
    have h0 : x.toNat ^^^ y.toNat = 0 := by exact_mod_cast h
    have h1 : x.toNat = y.toNat := by
      have := congrArg (fun z => z ^^^ y.toNat) h0
      simpa [Nat.xor_assoc, Nat.xor_self] using this
    omega
  · intro h
    rw [h, Nat.xor_self]
    rfl
theorem or_zero (x y : Int) (hx : U8 x) (hy : U8 y) : bits .or .u8 x y = 0 ↔ x = 0 ∧ y = 0 := by
  have e1 : ((x.toNat : Nat) : Int) = x := Int.toNat_of_nonneg hx.1
  have e2 : ((y.toNat : Nat) : Int) = y := Int.toNat_of_nonneg hy.1
  rw [u8_or x y hx.1 hx.2 hy.1 hy.2]
  constructor
  · intro h
    have h0 : x.toNat ||| y.toNat = 0 := by exact_mod_cast h
    have := Nat.or_eq_zero_iff.1 h0
    omega
  · rintro ⟨rfl, rfl⟩
    rfl
theorem str_inj {a b : List Int} (ha : okb a) (hb : okb b) (h : strOfNums a = strOfNums b) : a = b := by
  have : (strOfNums a).data.toList = (strOfNums b).data.toList := by rw [h]
  exact bytes_inj ha hb this
theorem okb_at8 {a : List Int} (h : okb a) (n : Nat) : U8 (a.getD n 0) := by
  rw [List.getD_eq_getElem?_getD]
  cases e : a[n]? with
  | none => unfold U8; simp
  | some x =>
    have := h x (List.mem_of_getElem? e)
    unfold U8
    simp only [Option.getD_some]
    omega
theorem dfr_zero {a b : List Int} (ha : okb a) (hb : okb b) (n : Nat) : U8 (dfr a b n) ∧ (dfr a b n = 0 ↔ ∀ i, i < n → a.getD i 0 = b.getD i 0) := by
  induction n with
  | zero => exact ⟨by unfold dfr U8; omega, by simp [dfr]⟩
  | succ n ih =>
    have x8 := xor8 (okb_at8 ha n) (okb_at8 hb n)
    rw [dfr]
    refine ⟨or8 ih.1 x8, ?_⟩
    rw [or_zero _ _ ih.1 x8, xor_zero _ _ (okb_at8 ha n) (okb_at8 hb n), ih.2]
    constructor
    · rintro ⟨h1, h2⟩ i hi
      rcases Nat.lt_or_ge i n with q | q
      · exact h1 i q
      · have : i = n := by omega
        rw [this]; exact h2
    · intro h
      exact ⟨fun i hi => h i (by omega), h n (by omega)⟩
theorem sam_iff {a b : List Int} (ha : okb a) (hb : okb b) : sam a b = true ↔ a = b := by
  unfold sam
  rw [Bool.and_eq_true, beq_iff_eq, beq_iff_eq, (dfr_zero ha hb _).2]
  constructor
  · rintro ⟨h1, h2⟩
    refine List.ext_getElem h1 fun i h3 h4 => ?_
    have := h2 i h3
    rwa [List.getD_eq_getElem?_getD, List.getD_eq_getElem?_getD, List.getElem?_eq_getElem h3, List.getElem?_eq_getElem h4] at this
  · rintro rfl
    exact ⟨rfl, fun _ _ => rfl⟩
theorem sv_front {w : World} {B g cap n : Nat} {bs : List Int} (h : Own w B (.slice (some ⟨g, 0, none⟩) (n + 1) cap) (bs ++ [167])) (hn : bs.length = n) (hk : okb bs) : Sv w.heap.size w (.slice (some ⟨g, 0, none⟩) n cap) bs := by
  have ok : okb (bs ++ [167]) := okb_app hk (fun x hx => by simp at hx; omega)
  obtain ⟨ao, c, e1, e2, e3, e4, e5⟩ := h.sv ok
  injection e1 with q1 q2 q3
  subst q1 q3
  refine ⟨_, _, by rw [hn], by omega, (fun q => by cases q), fun k hk => ?_, fun x hx => ok x (List.mem_append_left _ hx)⟩
  obtain ⟨ad, k1, k2, k3⟩ := e4 k (by rw [List.length_append]; omega)
  refine ⟨ad, k1, k2, ?_⟩
  rw [k3, List.getD_eq_getElem?_getD, List.getD_eq_getElem?_getD, List.getElem?_append_left hk]
structure Ss (w u : World) (N1 N2 g2 c2 an g3 c3 bn : Nat) (A B : List Int) : Prop where
  be : Below w.heap.size w u
  ox : Own u N1 (.slice (some ⟨g2, 0, none⟩) (an + 1) c2) (A ++ [167])
  oy : Own u N2 (.slice (some ⟨g3, 0, none⟩) (bn + 1) c3) (B ++ [167])
theorem Ss.thru {w u u' : World} {N1 N2 g2 c2 an g3 c3 bn : Nat} {A B : List Int} (h : Ss w u N1 N2 g2 c2 an g3 c3 bn A B) (hb : Below u.heap.size u u') : Ss w u' N1 N2 g2 c2 an g3 c3 bn A B := ⟨below_thru h.be hb, h.ox.below hb (Nat.le_refl _), h.oy.below hb (Nat.le_refl _)⟩
set_option maxRecDepth 20000 in
set_option maxHeartbeats 2000000 in
theorem AuthSame_row (va vb : Value) (A B : List Int) (w : World) (mx : Int) (ha : Sv w.heap.size w va A) (hb : Sv w.heap.size w vb B) (la : A.length ≤ 140737488355327) (lb : B.length ≤ 140737488355327) (hk : Kt w) (hm : w.cell? ⟨1, 0, none⟩ = some (.int .i64 mx)) :
    Calls Tryd.prog 5 #[va, vb] w fun e w' => e = .returned (.bool true) ∧ Below w.heap.size w w' := by
  have okA : okb A := by obtain ⟨_, _, _, _, _, _, h⟩ := ha; exact h
  have okB : okb B := by obtain ⟨_, _, _, _, _, _, h⟩ := hb; exact h
  have H : Hid (Sv w.heap.size w va A ∧ Sv w.heap.size w vb B ∧ A.length ≤ 140737488355327 ∧ B.length ≤ 140737488355327 ∧ okb A ∧ okb B) := ⟨ha, hb, la, lb, okA, okB⟩
  have HSh : Hid (Calls Tryd.prog 8 #[] w fun e w' => e = .returned (.bool true) ∧ Below w.heap.size w w') := shown_any mx w hk hm
  obtain ⟨ao, ac, hva, _⟩ := ha
  obtain ⟨bo, bc, hvb, _⟩ := hb
  obtain ⟨an, han⟩ : ∃ n, A.length = n := ⟨_, rfl⟩
  obtain ⟨bn, hbn⟩ : ∃ n, B.length = n := ⟨_, rfl⟩
  rw [han] at hva
  rw [hbn] at hvb
  subst hva
  subst hvb
  obtain ⟨SA, hSA⟩ : ∃ s, strOfNums A = s := ⟨_, rfl⟩
  obtain ⟨SB, hSB⟩ : ∃ s, strOfNums B = s := ⟨_, rfl⟩
  obtain ⟨sm, hsm⟩ : ∃ s, sam A B = s := ⟨_, rfl⟩
  obtain ⟨sa, hsa⟩ : ∃ s, sam A A = s := ⟨_, rfl⟩
  have hsa1 : sa = true := by rw [← hsa]; exact (sam_iff okA okA).2 rfl
  have hse : (sm = true ∧ SA = SB) ∨ (sm = false ∧ (SA.toList == SB.toList) = false) := by
    rw [← hSA, ← hSB, ← hsm]
    by_cases e : A = B
    · exact .inl ⟨(sam_iff okA okB).2 e, by rw [e]⟩
    · refine .inr ⟨?_, by
        rw [beq_eq_false_iff_ne, Lib.strOfNums_toList, Lib.strOfNums_toList]
        exact fun q => e (bytes_inj okA okB q)⟩
      cases h : sam A B with
      | false => rfl
      | true => exact absurd ((sam_iff okA okB).1 h) e
  have HN : Hid (A.length = an ∧ B.length = bn) := ⟨han, hbn⟩
  have HC : Hid (∀ u, Below w.heap.size w u → (convert 23 9 (.slice ao an ac)).run Tryd.prog u = .ok (.string SA) u ∧ (convert 23 9 (.slice bo bn bc)).run Tryd.prog u = .ok (.string SB) u) := fun u hu => by
    have h1 := conv8 u (H.out.1.below hu (Nat.le_refl _))
    have h2 := conv8 u (H.out.2.1.below hu (Nat.le_refl _))
    rw [hSA] at h1
    rw [hSB] at h2
    exact ⟨h1, h2⟩
  have HS : Hid (∀ u g g' c c', Sv u.heap.size u (.slice (some ⟨g, 0, none⟩) an c) A → Sv u.heap.size u (.slice (some ⟨g', 0, none⟩) bn c') B → Calls Tryd.prog 21 #[.slice (some ⟨g, 0, none⟩) an c, .slice (some ⟨g', 0, none⟩) bn c'] u fun e w' => e = .returned (.bool sm) ∧ Below u.heap.size u w') := fun u g g' c c' h1 h2 => by
    rw [← hsm]; exact same_any _ _ A B u h1 h2 (by have := H.out.2.2.1; omega)
  have HS2 : Hid (∀ u g g' c c', Sv u.heap.size u (.slice (some ⟨g, 0, none⟩) an c) A → Sv u.heap.size u (.slice (some ⟨g', 0, none⟩) an c') A → Calls Tryd.prog 21 #[.slice (some ⟨g, 0, none⟩) an c, .slice (some ⟨g', 0, none⟩) an c'] u fun e w' => e = .returned (.bool true) ∧ Below u.heap.size u w') := fun u g g' c c' h1 h2 => by
    rw [← hsa1, ← hsa]; exact same_any _ _ A A u h1 h2 (by have := H.out.2.2.1; omega)
  have HLa : Hid (∀ u, Below w.heap.size w u → Calls Tryd.prog 9 #[.slice ao an ac] u fun e w' => ∃ g cap, e = .returned (.slice (some ⟨g, 0, none⟩) an cap) ∧ an + 1 ≤ cap ∧ Hid (Own w' u.heap.size (.slice (some ⟨g, 0, none⟩) (an + 1) cap) (A ++ [167]) ∧ Below u.heap.size u w')) := fun u hu => by
    have := lent04_any w.heap.size _ A u (by have := H.out.2.2.1; omega) (H.out.1.below hu (Nat.le_refl _)) hu.size
    rw [HN.out.1] at this
    exact this
  have HLb : Hid (∀ u, Below w.heap.size w u → Calls Tryd.prog 9 #[.slice bo bn bc] u fun e w' => ∃ g cap, e = .returned (.slice (some ⟨g, 0, none⟩) bn cap) ∧ bn + 1 ≤ cap ∧ Hid (Own w' u.heap.size (.slice (some ⟨g, 0, none⟩) (bn + 1) cap) (B ++ [167]) ∧ Below u.heap.size u w')) := fun u hu => by
    have := lent04_any w.heap.size _ B u (by have := H.out.2.2.2.1; omega) (H.out.2.1.below hu (Nat.le_refl _)) hu.size
    rw [HN.out.2] at this
    exact this
  clear hSA hSB hsm hsa hsa1 okA okB han hbn hk hm la lb
  go_enter Tryd.func5, Tryd.ntmps5
  refine post_hid fun Q hQ => ?_
  go_upto_region 4 with (first
    | (go_at_call 8; refine HSh.out.mono ?_; rintro e W1 ⟨rfl, hb1⟩; have K1 : Hid (Below w.heap.size w W1) := hb1)
    | (go_at_call 9; (with_reducible refine (HLa.out W1 K1.out).mono ?_); rintro e W2 ⟨g2, c2, rfl, hc2, h2⟩; have K2 : Hid (Below w.heap.size w W2) := below_thru K1.out h2.out.2)
    | (go_at_call 9; (with_reducible refine (HLb.out W2 K2.out).mono ?_); rintro e W3 ⟨g3, c3, rfl, hc3, h3⟩; have K3 : Hid (Below w.heap.size w W3) := below_thru K2.out h3.out.2))
  have K4 : Hid (Ss w W3.drew W1.heap.size W2.heap.size g2 c2 an g3 c3 bn A B) := Ss.thru ⟨K3.out, h2.out.1.below h3.out.2 (Nat.le_refl _), h3.out.1⟩ ((Below.refl W3.heap.size W3).drew)
  have HL2 : Hid (an ≤ 140737488355327 ∧ bn ≤ 140737488355327) := by
    have h1 := HN.out
    have h2 := H.out.2.2
    exact ⟨by omega, by omega⟩
  have HA1 : Hid (Calls Tryd.prog 21 #[.slice (some ⟨g2, 0, none⟩) an c2, .slice (some ⟨g3, 0, none⟩) bn c3] W3.drew fun e w' => e = .returned (.bool sm) ∧ Below W3.drew.heap.size W3.drew w') := HS.out _ _ _ _ _ (sv_front K4.out.ox HN.out.1 H.out.2.2.2.2.1) (sv_front K4.out.oy HN.out.2 H.out.2.2.2.2.2)
  clear h2 h3 hb1 HSh
  rw [hQ.out]
  rcases hse with ⟨rfl, rfl⟩ | ⟨rfl, hne⟩
  · go_region_held_law (fun u => Sem.run Tryd.prog (convert 23 9 (.slice ao an ac)) u = .ok (.string SA) u ∧ Sem.run Tryd.prog (convert 23 9 (.slice bo bn bc)) u = .ok (.string SA) u) (first | assumption | exact HC.out _ K4.out.be | exact HC.out _ K5.out.be | exact HC.out _ K6.out.1.be | exact HC.out _ K7.out.be | exact HC.out _ K8.out.be | exact HC.out _ K9.out.be)
      (first
        | (go_at_call 21; (with_reducible refine HA1.out.mono ?_); clear HA1; rintro e W4 ⟨rfl, h4⟩; have K5 : Hid (Ss w W4 W1.heap.size W2.heap.size g2 c2 an g3 c3 bn A B) := K4.out.thru h4; clear h4)
        | (go_at_call 9; (with_reducible refine (HLa.out W4 K5.out.be).mono ?_); rintro e W5 ⟨g5, c5, rfl, hc5, h5⟩; have K6 : Hid (Ss w W5 W1.heap.size W2.heap.size g2 c2 an g3 c3 bn A B ∧ Own W5 W4.heap.size (.slice (some ⟨g5, 0, none⟩) (an + 1) c5) (A ++ [167])) := ⟨K5.out.thru h5.out.2, h5.out.1⟩; clear h5)
        | (go_at_call 21; (with_reducible refine (HS2.out W5 g2 g5 c2 c5 (sv_front K6.out.1.ox HN.out.1 H.out.2.2.2.2.1) (sv_front K6.out.2 HN.out.1 H.out.2.2.2.2.1)).mono ?_); rintro e W6 ⟨rfl, h6⟩; have K7 : Hid (Ss w W6 W1.heap.size W2.heap.size g2 c2 an g3 c3 bn A B) := K6.out.1.thru h6; clear h6)
        | (go_at_call 16; (with_reducible refine (kept04_any W1.heap.size g2 c2 an (.slice ao an ac) A W6 K7.out.ox HN.out.1 hc2 (Sv.mono (H.out.1.below K7.out.be (Nat.le_refl _)) K7.out.be.size) HL2.out.1).mono ?_); rintro e W7 ⟨rfl, h7⟩; have K8 : Hid (Ss w W7 W1.heap.size W2.heap.size g2 c2 an g3 c3 bn A B) := K7.out.thru h7; clear h7)
        | (go_at_call 16; (with_reducible refine (kept04_any W2.heap.size g3 c3 bn (.slice bo bn bc) B W7 K8.out.oy HN.out.2 hc3 (Sv.mono (H.out.2.1.below K8.out.be (Nat.le_refl _)) K8.out.be.size) HL2.out.2).mono ?_); rintro e W8 ⟨rfl, h8⟩; have K9 : Hid (Ss w W8 W1.heap.size W2.heap.size g2 c2 an g3 c3 bn A B) := K8.out.thru h8; clear h8))
    all_goals
      go_wp2_with fail
      rw [hQ.out]
      go_ret
      exact ⟨rfl, K9.out.be⟩
  · go_region_held_law (fun u => Sem.run Tryd.prog (convert 23 9 (.slice ao an ac)) u = .ok (.string SA) u ∧ Sem.run Tryd.prog (convert 23 9 (.slice bo bn bc)) u = .ok (.string SB) u) (first | assumption | exact HC.out _ K4.out.be | exact HC.out _ K5.out.be | exact HC.out _ K6.out.1.be | exact HC.out _ K7.out.be | exact HC.out _ K8.out.be | exact HC.out _ K9.out.be)
      (first
        | (go_at_call 21; (with_reducible refine HA1.out.mono ?_); clear HA1; rintro e W4 ⟨rfl, h4⟩; have K5 : Hid (Ss w W4 W1.heap.size W2.heap.size g2 c2 an g3 c3 bn A B) := K4.out.thru h4; clear h4)
        | (go_at_call 9; (with_reducible refine (HLa.out W4 K5.out.be).mono ?_); rintro e W5 ⟨g5, c5, rfl, hc5, h5⟩; have K6 : Hid (Ss w W5 W1.heap.size W2.heap.size g2 c2 an g3 c3 bn A B ∧ Own W5 W4.heap.size (.slice (some ⟨g5, 0, none⟩) (an + 1) c5) (A ++ [167])) := ⟨K5.out.thru h5.out.2, h5.out.1⟩; clear h5)
        | (go_at_call 21; (with_reducible refine (HS2.out W5 g2 g5 c2 c5 (sv_front K6.out.1.ox HN.out.1 H.out.2.2.2.2.1) (sv_front K6.out.2 HN.out.1 H.out.2.2.2.2.1)).mono ?_); rintro e W6 ⟨rfl, h6⟩; have K7 : Hid (Ss w W6 W1.heap.size W2.heap.size g2 c2 an g3 c3 bn A B) := K6.out.1.thru h6; clear h6)
        | (go_at_call 16; (with_reducible refine (kept04_any W1.heap.size g2 c2 an (.slice ao an ac) A W6 K7.out.ox HN.out.1 hc2 (Sv.mono (H.out.1.below K7.out.be (Nat.le_refl _)) K7.out.be.size) HL2.out.1).mono ?_); rintro e W7 ⟨rfl, h7⟩; have K8 : Hid (Ss w W7 W1.heap.size W2.heap.size g2 c2 an g3 c3 bn A B) := K7.out.thru h7; clear h7)
        | (go_at_call 16; (with_reducible refine (kept04_any W2.heap.size g3 c3 bn (.slice bo bn bc) B W7 K8.out.oy HN.out.2 hc3 (Sv.mono (H.out.2.1.below K8.out.be (Nat.le_refl _)) K8.out.be.size) HL2.out.2).mono ?_); rintro e W8 ⟨rfl, h8⟩; have K9 : Hid (Ss w W8 W1.heap.size W2.heap.size g2 c2 an g3 c3 bn A B) := K8.out.thru h8; clear h8))
    all_goals
      go_wp2_with fail
      rw [hQ.out]
      go_ret
      exact ⟨rfl, K9.out.be⟩
end Go.Proofs.YtocimfhagkcnlaaDoor
