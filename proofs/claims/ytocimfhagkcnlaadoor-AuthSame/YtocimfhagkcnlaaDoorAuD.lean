/- Auth: a key's number. -/
import Derived.Test.YtocimfhagkcnlaaDoorAuC
namespace Go.Proofs.YtocimfhagkcnlaaDoor
open Go Go.RowKit Go.Sort
set_option linter.unusedVariables false
/-- which digit it is, or below 0 -/
def dgI (b : UInt8) : Int := Lib.indexByte [48, 49, 50, 51, 52, 53, 54, 55, 56, 57] b
def idE : Int → List UInt8 → Option Int
  | v, [] => some v
  | v, b :: r => if dgI b < 0 ∨ v * 10 + dgI b = 0 ∨ 65535 < v * 10 + dgI b then none else idE (v * 10 + dgI b) r
theorem idE_drop {bs : List UInt8} {k : Nat} {b : UInt8} (v : Int) (h : bs[k]? = some b) : idE v (bs.drop k) = if dgI b < 0 ∨ v * 10 + dgI b = 0 ∨ 65535 < v * 10 + dgI b then none else idE (v * 10 + dgI b) (bs.drop (k + 1)) := by
  have hk : k < bs.length := (List.getElem?_eq_some_iff.1 h).1
  rw [List.drop_eq_getElem_cons hk]
  have e : bs[k] = b := (List.getElem?_eq_some_iff.1 h).2
  rw [e]
  rfl
set_option maxRecDepth 40000 in
set_option maxHeartbeats 1000000 in
theorem dgI_bd (b : UInt8) : -1 ≤ dgI b ∧ dgI b ≤ 9 := by
  have h : ∀ b : UInt8, decide (-1 ≤ dgI b ∧ dgI b ≤ 9) = true := by
    intro b
    have : ∀ n : Fin 256, decide (-1 ≤ dgI (UInt8.ofNat n.val) ∧ dgI (UInt8.ofNat n.val) ≤ 9) = true := by decide
    have h2 := this ⟨b.toNat, b.toNat_lt⟩
    rwa [UInt8.ofNat_toNat] at h2
  exact of_decide_eq_true (h b)
def idV (o : Option Int) : Int := o.getD 0
set_option maxRecDepth 20000 in
set_option maxHeartbeats 1000000 in
theorem readID_any (s : ByteArray) (w : World) (hs : s.size ≤ 1000000) : Calls Tryd.prog 70 #[.string s] w fun e w' => e = .returned (.tuple #[.int .i64 (idV (idE 0 s.data.toList)), .bool (idE 0 s.data.toList).isSome]) ∧ Below w.heap.size w w' := by
  obtain ⟨X, hX⟩ : ∃ X, idE 0 s.data.toList = X := ⟨_, rfl⟩
  have HX : Hid (idE 0 s.data.toList = X) := hX
  rw [hX]
  clear hX
  have hs3 : (s.size : Int) ≤ 1000000 := by omega
  clear hs
  go_enter Tryd.func70, Tryd.ntmps70
  refine post_hid fun Q hQ => ?_
  go_wp2_with fail
  go_loopw [4, 5, 6, 9] (fun v _ _ i wr => ∃ (k : Nat) (V : Int), i = .int .i64 k ∧ (k : Int) ≤ s.size ∧ v = .int .i64 V ∧ 0 ≤ V ∧ V ≤ 65535 ∧ Hid (X = idE V (s.data.toList.drop k) ∧ Below w.heap.size w wr)) (fun _ _ _ i _ => s.size - (intOf i).toNat)
  case atStart => exact ⟨0, 0, rfl, by omega, rfl, by omega, by omega, HX.out.symm, Below.refl _ _⟩
  case round =>
    obtain ⟨k, V, rfl, hk, rfl, v0, v1, HB⟩ := hrel
    by_cases hlt : (k : Int) < s.size
    · have hkn : k < s.size := by omega
      go_upto_region 5 with fail
      obtain ⟨c, hc⟩ : ∃ c, c = s[k] := ⟨_, rfl⟩
      have HC : Hid (s.data.toList[k]? = some c) := by
        show _ = _
        rw [List.getElem?_eq_getElem (by simpa using hkn), hc]
        rfl
      have HI : Hid (∀ u, Calls Tryd.prog 80 #[.string (({ data := #[48, 49, 50, 51, 52, 53, 54, 55, 56, 57, 97, 98, 99, 100, 101, 102] } : ByteArray).extract 0 10), .int .u8 (c.toNat : Int)] u fun e w' => e = .returned (.int .i64 (dgI c)) ∧ w' = u) := fun u => by
        refine (Tryd.strings_IndexByte _ _ u).mono ?_
        rintro e w' ⟨rfl, rfl⟩
        refine ⟨?_, rfl⟩
        have e1 : ((c.toNat : Int)).toNat.toUInt8 = c := by simp
        rw [e1]
        rfl
      have hix : ∀ u, Sem.run Tryd.prog (Instr.index 9 (.string s) (.int .i64 (k : Int))) u = .ok (.int .u8 (c.toNat : Int)) u := fun u => by
        rw [hc]
        have h0 : (0 : Int) ≤ k := Int.natCast_nonneg k
        go_simp
      clear hc
      go_region_held3 (fun _ => True) (first | trivial | go_keep) ((go_at_call 80; refine (HI.out _).mono ?_; rintro e w5 ⟨rfl, rfl⟩))
      have HD := idE_drop V HC.out
      obtain ⟨D, hD⟩ : ∃ D, dgI c = D := ⟨_, rfl⟩
      have hb := dgI_bd c
      rw [hD] at hb HD ⊢
      obtain ⟨M, hM⟩ : ∃ M, V * 10 + D = M := ⟨_, rfl⟩
      have hw1 : IntKind.i64.wrap (V * 10) = V * 10 := by rw [IntKind.wrap_i64]; omega
      have hw2 : IntKind.i64.wrap (V * 10 + D) = M := by rw [IntKind.wrap_i64]; omega
      have HB2 : Hid (X = (if D < 0 ∨ M = 0 ∨ 65535 < M then none else idE M (s.data.toList.drop (k + 1))) ∧ Below w.heap.size w wr.drew) := ⟨by rw [HB.out.1, HD, hM], HB.out.2.trans ((Below.refl _ _).drew)⟩
      have hMb : -1 ≤ M ∧ M ≤ 655359 := by omega
      have hw4 : IntKind.i64.wrap M = M := by rw [IntKind.wrap_i64]; omega
      have hw3 : wrap64 M = M := by rw [← IntWalk.i64_left]; exact hw4
      clear hD HD HB hix HI
      by_cases d0 : D < 0
      · have HE : Hid (X = none) := by show _ = _; rw [HB2.out.1, if_pos (.inl d0)]
        clear hb hMb
        go_wp2_with fail
        rw [hQ.out]
        go_ret2
        exact ⟨by rw [HE.out]; rfl, HB2.out.2⟩
      by_cases m0 : M = 0
      · have HE : Hid (X = none) := by show _ = _; rw [HB2.out.1, if_pos (.inr (.inl m0))]
        have hm0 : (M == 0) = true := by simpa using m0
        clear hb hMb m0
        go_wp2_with fail
        rw [hQ.out]
        go_ret2
        exact ⟨by rw [HE.out]; rfl, HB2.out.2⟩
      have hm0 : (M == 0) = false := by simpa using m0
      by_cases m1 : 65535 < M
      · have HE : Hid (X = none) := by show _ = _; rw [HB2.out.1, if_pos (.inr (.inr m1))]
        clear hb hMb
        go_wp2_with fail
        rw [hQ.out]
        go_ret2
        exact ⟨by rw [HE.out]; rfl, HB2.out.2⟩
      have HE : Hid (X = idE M (s.data.toList.drop (k + 1))) := by show _ = _; rw [HB2.out.1, if_neg (by omega)]
      go_wp2_with fail
      go_roundw
      case rel => exact ⟨k + 1, M, by go_num, by omega, rfl, by omega, by omega, HE.out, HB2.out.2⟩
      case measure => simp [intOf]; omega
    · have hks : k = s.size := by omega
      have HE : Hid (X = some V) := by
        show _ = _
        rw [HB.out.1, List.drop_of_length_le (by simp; omega)]
        rfl
      go_wp2_with fail
      rw [hQ.out]
      go_ret2
      exact ⟨by rw [HE.out]; rfl, HB.out.2⟩
end Go.Proofs.YtocimfhagkcnlaaDoor
