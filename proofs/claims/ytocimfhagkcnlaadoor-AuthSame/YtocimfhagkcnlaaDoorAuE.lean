/- Auth: a key's bytes. -/
import Derived.Test.YtocimfhagkcnlaaDoorAuD
namespace Go.Proofs.YtocimfhagkcnlaaDoor
open Go Go.RowKit Go.Sort
set_option linter.unusedVariables false
theorem shl4 (a : Int) (h0 : 0 ≤ a) (h1 : a ≤ 15) : IntKind.i64.wrap (a * 16) = a * 16 := by rw [IntKind.wrap_i64]; omega
theorem i64_or_nat' (a b : Nat) (ha : a < 256) (hb : b < 256) : bits .or .i64 (a : Int) (b : Int) = ((a ||| b : Nat) : Int) := by
  have hx : a ||| b < 2 ^ 8 := Nat.or_lt_two_pow (by omega) (by omega)
  have o : ∀ a : Nat, a < 9223372036854775808 → (BitVec.ofInt 64 (a : Int)).toNat = a := fun a ha => by
    rw [BitVec.ofInt_natCast, BitVec.toNat_ofNat]; exact Nat.mod_eq_of_lt (by omega)
  show IntKind.i64.wrap ((BitVec.ofInt 64 (a : Int) ||| BitVec.ofInt 64 (b : Int)).toNat : Int) = _
  rw [BitVec.toNat_or, o a (by omega), o b (by omega), IntKind.wrap_i64]
  omega
theorem or_hex : ∀ a, a < 16 → ∀ b, b < 16 → (a * 16) ||| b = a * 16 + b := by decide
theorem or_hx (a b : Int) (a0 : 0 ≤ a) (a1 : a ≤ 15) (b0 : 0 ≤ b) (b1 : b ≤ 15) : bits .or .i64 (a * 16) b = a * 16 + b := by
  obtain ⟨A, rfl⟩ := Int.eq_ofNat_of_zero_le a0
  obtain ⟨B, rfl⟩ := Int.eq_ofNat_of_zero_le b0
  have h := i64_or_nat' (A * 16) B (by omega) (by omega)
  rw [or_hex A (by omega) B (by omega)] at h
  simpa using h
theorem Sv.one (w : World) (x : Int) (h0 : 0 ≤ x) (h1 : x < 256) : Sv (w.heap.size + 1) (w.alloc (.cells #[.int .u8 x] 5)) (.slice (some ⟨w.heap.size, 0, none⟩) 1 1) [x] := by
  refine ⟨_, _, rfl, Nat.le_refl _, by simp, fun k hk => ⟨_, rfl, by simp, ?_⟩, fun b hb => by simp at hb; omega⟩
  have : k = 0 := by simp at hk; omega
  subst this
  rw [add_own, World.cell?_alloc_new]
  rfl
/-- which hexadecimal digit it is, or below 0 -/
def hxI (b : UInt8) : Int := Lib.indexByte [48, 49, 50, 51, 52, 53, 54, 55, 56, 57, 97, 98, 99, 100, 101, 102] b
set_option maxRecDepth 40000 in
set_option maxHeartbeats 1000000 in
theorem hxI_bd (b : UInt8) : -1 ≤ hxI b ∧ hxI b ≤ 15 := by
  have h : ∀ b : UInt8, decide (-1 ≤ hxI b ∧ hxI b ≤ 15) = true := by
    intro b
    have : ∀ n : Fin 256, decide (-1 ≤ hxI (UInt8.ofNat n.val) ∧ hxI (UInt8.ofNat n.val) ≤ 15) = true := by decide
    have h2 := this ⟨b.toNat, b.toNat_lt⟩
    rwa [UInt8.ofNat_toNat] at h2
  exact of_decide_eq_true (h b)
def rdB : List UInt8 → Option (List Int)
  | [] => some []
  | [_] => none
  | a :: b :: r => if hxI a < 0 ∨ hxI b < 0 then none else (rdB r).map (fun t => (hxI a * 16 + hxI b) :: t)
theorem rdB_odd : ∀ (n : Nat) (l : List UInt8), l.length = 2 * n + 1 → rdB l = none
  | 0, l, h => by
    match l, h with
    | [a], _ => rfl
  | n + 1, l, h => by
    match l, h with
    | a :: b :: r, h =>
      have := rdB_odd n r (by simp at h; omega)
      unfold rdB
      rw [this]
      split <;> rfl
theorem rdB_two {l : List UInt8} {k : Nat} {a b : UInt8} (ha : l[k]? = some a) (hb : l[k + 1]? = some b) : rdB (l.drop k) = if hxI a < 0 ∨ hxI b < 0 then none else (rdB (l.drop (k + 2))).map (fun t => (hxI a * 16 + hxI b) :: t) := by
  obtain ⟨h1, e1⟩ := List.getElem?_eq_some_iff.1 ha
  obtain ⟨h2, e2⟩ := List.getElem?_eq_some_iff.1 hb
  rw [List.drop_eq_getElem_cons h1, List.drop_eq_getElem_cons h2, e1, e2]
  rfl
theorem own_lt' {w : World} {B : Nat} {v : Value} {bs : List Int} (h : Own w B v bs) : ∀ q, v.ownBlock = some q → B ≤ q := by
  intro q hq
  rcases h.2 with ⟨h1, _⟩ | ⟨g, cap, cur, h1, h2, _⟩
  · rw [h1] at hq; cases hq
  · rw [h1] at hq
    simp only [Value.ownBlock] at hq
    injection hq with hq
    omega
/-- what comes out of it -/
def RdO (X : Option (List Int)) (w : World) (B : Nat) (v : Value) : Prop := match X with
  | some l => Own w B v l ∧ okb l
  | none => v = .slice none 0 0
set_option maxRecDepth 20000 in
set_option maxHeartbeats 1000000 in
theorem readBytes_any (s : ByteArray) (w : World) (hs : s.size ≤ 1000000) : Calls Tryd.prog 72 #[.string s] w fun e w' => ∃ v', e = .returned (.tuple #[v', .bool (rdB s.data.toList).isSome]) ∧ Hid (RdO (rdB s.data.toList) w' w.heap.size v') ∧ Hid (Below w.heap.size w w') := by
  obtain ⟨X, hX⟩ : ∃ X, rdB s.data.toList = X := ⟨_, rfl⟩
  have HX : Hid (rdB s.data.toList = X) := hX
  rw [hX]
  clear hX
  obtain ⟨n, hn⟩ : ∃ n, s.size = n := ⟨_, rfl⟩
  have HL : Hid (s.data.toList.length = n) := by show _ = _; rw [← hn]; simp
  have hs3 : (n : Int) ≤ 1000000 := by omega
  have HSz : Hid (s.size = n) := hn
  clear hs
  go_enter Tryd.func72, Tryd.ntmps72
  refine post_hid fun Q hQ => ?_
  obtain ⟨m, hm⟩ : ∃ m, n = 2 * m ∨ n = 2 * m + 1 := ⟨n / 2, by omega⟩
  rcases hm with hm | hm
  · have HM : Hid (n = 2 * m) := hm
    have hmod : (n : Int) % 2 = 0 := by omega
    clear hm
    go_wp2_with fail
    go_loopw [4, 5, 6, 7] (fun v i _ _ wr => ∃ k : Nat, i = .int .i64 k ∧ (k : Int) ≤ n ∧ Hid (∃ acc, 2 * acc.length = k ∧ Own wr w.heap.size v acc ∧ okb acc ∧ X = (rdB (s.data.toList.drop k)).map (acc ++ ·) ∧ Below w.heap.size w wr)) (fun _ i _ _ _ => n - (intOf i).toNat)
    case atStart => exact ⟨0, rfl, by omega, [], rfl, Own.nil _ _, okb_nil, by rw [← HX.out, List.drop_zero]; cases rdB s.data.toList <;> rfl, Below.refl _ _⟩
    case round =>
      obtain ⟨k, rfl, hk, HB⟩ := hrel
      obtain ⟨vv, hvv⟩ : ∃ vv, vv = u4 := ⟨_, rfl⟩
      subst hvv
      by_cases hlt : (k : Int) < n
      · obtain ⟨acc, a1, a2, a3, a4, a5⟩ := HB.out
        have hk1 : k + 1 < n := by have := HM.out; omega
        have hsz := HSz.out
        obtain ⟨a, ha⟩ : ∃ c, c = s[k] := ⟨_, rfl⟩
        obtain ⟨b, hb⟩ : ∃ c, c = s[k + 1] := ⟨_, rfl⟩
        have ha' : s.data.toList[k]? = some a := by rw [List.getElem?_eq_getElem (by rw [HL.out]; omega), ha]; rfl
        have hb' : s.data.toList[k + 1]? = some b := by rw [List.getElem?_eq_getElem (by rw [HL.out]; omega), hb]; rfl
        have hT := rdB_two ha' hb'
        have HIx : Hid (∀ (c : UInt8) u, Calls Tryd.prog 80 #[.string { data := #[48, 49, 50, 51, 52, 53, 54, 55, 56, 57, 97, 98, 99, 100, 101, 102] }, .int .u8 (c.toNat : Int)] u fun e w' => e = .returned (.int .i64 (hxI c)) ∧ w' = u) := fun c u => by
          refine (Tryd.strings_IndexByte _ _ u).mono ?_
          rintro e w' ⟨rfl, rfl⟩
          refine ⟨?_, rfl⟩
          have e1 : ((c.toNat : Int)).toNat.toUInt8 = c := by simp
          rw [e1]
          rfl
        have hix : ∀ u, Sem.run Tryd.prog (Instr.index 9 (.string s) (.int .i64 (k : Int))) u = .ok (.int .u8 (a.toNat : Int)) u := fun u => by
          rw [ha]
          have h0 : (0 : Int) ≤ k := Int.natCast_nonneg k
          have h1 : k < s.size := by omega
          go_simp
        have hix2 : ∀ u, Sem.run Tryd.prog (Instr.index 9 (.string s) (.int .i64 ((k : Int) + 1))) u = .ok (.int .u8 (b.toNat : Int)) u := fun u => by
          rw [hb]
          have h0 : (0 : Int) ≤ ((k + 1 : Nat) : Int) := Int.natCast_nonneg _
          have h1 : k + 1 < s.size := by omega
          rw [show (k : Int) + 1 = ((k + 1 : Nat) : Int) from by omega]
          go_simp
          try rw [dif_pos ⟨by omega, by omega⟩]
        obtain ⟨A, hA⟩ : ∃ A, hxI a = A := ⟨_, rfl⟩
        obtain ⟨B, hB⟩ : ∃ A, hxI b = A := ⟨_, rfl⟩
        have bA := hxI_bd a
        have bB := hxI_bd b
        rw [hA] at bA hT
        rw [hB] at bB hT
        have HA : Hid (∀ u, Calls Tryd.prog 80 #[.string { data := #[48, 49, 50, 51, 52, 53, 54, 55, 56, 57, 97, 98, 99, 100, 101, 102] }, .int .u8 (a.toNat : Int)] u fun e w' => e = .returned (.int .i64 A) ∧ w' = u) := fun u => by rw [← hA]; exact HIx.out a u
        have HBb : Hid (∀ u, Calls Tryd.prog 80 #[.string { data := #[48, 49, 50, 51, 52, 53, 54, 55, 56, 57, 97, 98, 99, 100, 101, 102] }, .int .u8 (b.toNat : Int)] u fun e w' => e = .returned (.int .i64 B) ∧ w' = u) := fun u => by rw [← hB]; exact HIx.out b u
        have HT : Hid (X = (if A < 0 ∨ B < 0 then none else (rdB (s.data.toList.drop (k + 2))).map (fun t => (A * 16 + B) :: t)).map (acc ++ ·)) := by show _ = _; rw [a4, hT]
        have HO : Hid (2 * acc.length = k ∧ Own wr.drew w.heap.size vv acc ∧ okb acc ∧ Below w.heap.size w wr.drew) := ⟨a1, a2.below ((Below.refl _ _).drew) (Nat.le_refl _), a3, a5.trans ((Below.refl _ _).drew)⟩
        have hw1 : IntKind.i64.wrap ((k : Int) + 1) = (k : Int) + 1 := by rw [IntKind.wrap_i64]; omega
        clear ha hb ha' hb' hT hA hB HIx a1 a2 a3 a4 a5 HB hsz
        go_upto_region 7 with fail
        go_region_held3 (fun _ => True) (first | trivial | go_keep) ((go_at_call 80; first | ((with_reducible refine (HA.out _).mono ?_); rintro e w5 ⟨rfl, rfl⟩) | ((with_reducible refine (HBb.out _).mono ?_); rintro e w6 ⟨rfl, rfl⟩)))
        all_goals
          by_cases A0 : A < 0
          · have HE : Hid (X = none) := by show _ = _; rw [HT.out, if_pos (.inl A0)]; rfl
            clear bA bB HT HA HBb hix hix2
            go_wp2_with fail
            rw [hQ.out]
            go_ret2
            exact ⟨_, by rw [HE.out]; rfl, by rw [HE.out]; rfl, HO.out.2.2.2⟩
          by_cases B0 : B < 0
          · have HE : Hid (X = none) := by show _ = _; rw [HT.out, if_pos (.inr B0)]; rfl
            clear bA bB HT HA HBb hix hix2
            go_wp2_with fail
            rw [hQ.out]
            go_ret2
            exact ⟨_, by rw [HE.out]; rfl, by rw [HE.out]; rfl, HO.out.2.2.2⟩
          have HE : Hid (X = (rdB (s.data.toList.drop (k + 2))).map ((acc ++ [A * 16 + B]) ++ ·)) := by
            show _ = _
            rw [HT.out, if_neg (by omega)]
            cases rdB (s.data.toList.drop (k + 2)) with
            | none => rfl
            | some r => show some (acc ++ (A * 16 + B) :: r) = some ((acc ++ [A * 16 + B]) ++ r); simp
          obtain ⟨C, hC⟩ : ∃ C, A * 16 + B = C := ⟨_, rfl⟩
          have hs1 := shl4 A (by omega) bA.2
          have hs2 : bits .or .i64 (A * 16) B = C := by rw [or_hx A B (by omega) bA.2 (by omega) bB.2, hC]
          have hC1 : 0 ≤ C ∧ C < 256 := by omega
          have hs3' : IntKind.u8.wrap C = C := by rw [IntKind.wrap_u8]; omega
          rw [hC] at HE
          have HC1 : Hid (0 ≤ C ∧ C < 256) := hC1
          have HL1 : Hid (acc.length ≤ 1000000) := by have := HO.out.1; show _ ≤ _; omega
          clear hC HT HA HBb hix hix2 hC1
          go_wp2_with (at_builtin; refine wpList_app8 (by rfl) _ _ 23 (by rfl) Tryd.underlying23 w.heap.size (wr.drew.heap.size + 1) vv _ acc [C] (by rfl) (by rfl) (HO.out.2.1.alloc _) (Sv.one wr.drew C HC1.out.1 HC1.out.2) (by have := HL1.out; simp; omega) (Nat.le_trans HO.out.2.2.2.size (by simp)) ?_; intro v9 w9 ho9 hg9 hv9)
          have hb9 : Below w.heap.size w w9 := Below.grown (HO.out.2.2.2.alloc HO.out.2.2.2.size (.cells #[.int .u8 C] 5)) hg9 (Nat.le_trans HO.out.2.2.2.size (by simp)) (fun q hq => (own_lt' HO.out.2.1 q hq))
          have hacc : 2 * (acc ++ [C]).length = k + 2 := by have := HO.out.1; rw [List.length_append, List.length_singleton]; omega
          refine ⟨⟨_, _, _, _, ⟨k + 2, by go_num, by omega, acc ++ [C], hacc, ho9, okb_app HO.out.2.2.1 (fun x hx => by simp at hx; have := HC1.out; omega), HE.out, hb9⟩, rfl, rfl, rfl, rfl⟩, by simp [intOf]; omega⟩
      · have hkn : k = n := by omega
        subst hkn
        obtain ⟨acc, a1, a2, a3, a4, a5⟩ := HB.out
        have HE : Hid (X = some acc) := by
          show _ = _
          rw [a4, List.drop_of_length_le (by rw [HL.out]; exact Nat.le_refl _)]
          show some (acc ++ []) = _
          rw [List.append_nil]
        go_wp2_with fail
        rw [hQ.out]
        go_ret2
        exact ⟨_, by rw [HE.out]; rfl, by rw [HE.out]; exact ⟨a2, a3⟩, a5⟩
  · have HE : Hid (X = none) := by show _ = _; rw [← HX.out]; exact rdB_odd m _ (by rw [HL.out]; exact hm)
    have hmod : (n : Int) % 2 = 1 := by omega
    clear hm
    go_wp2_with fail
    rw [hQ.out]
    go_ret2
    exact ⟨_, by rw [HE.out]; rfl, by rw [HE.out]; rfl, Below.refl _ _⟩
end Go.Proofs.YtocimfhagkcnlaaDoor
