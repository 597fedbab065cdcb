/- assoc: Drop. -/
import Derived.Test.YtnjdmkgkpdebdaaKF
namespace Go.Proofs.Ytnjdmkgkpdebdaa
open Go Go.RowKit Go.Sort
set_option linter.unusedVariables false
theorem seq_of {T T' : List (Option Mb)} {S R : Nat → Prop} (h : SpS T S T') (e : ∀ i, S i ↔ R i) : SpS T R T' := by
  have : S = R := funext fun i => propext (e i)
  subst this
  exact h
theorem map_set_ptr (T : List (Option Mb)) (i : Nat) : (T.map ptr).set i (.pointer none) = (T.set i none).map ptr := by
  rw [List.map_set]; rfl
set_option maxRecDepth 20000 in
set_option maxHeartbeats 2000000 in
theorem drop_any : ∀ (n q : Nat) (T : List (Option Mb)) (id : Int) (w : World), Tb w q T → cnt T ≤ n → Calls Try.prog 21 #[.pointer (some ⟨q, 0, none⟩), .int .i64 id] w fun e w' => ∃ T', e = .returned (.bool (atM T id).isSome) ∧ Hid (SpS T (fun i => (i : Int) + 1 = id) T') ∧ Hid (Tb w' q T') ∧ Hid (w.grownBy w' (some q)) := by
  intro n
  induction n with
  | zero =>
    intro q T id w h hn
    have HT : Hid (Tb w q T) := h
    have hno : ∀ i, at0 T i = none := fun i => by
      cases hm : at0 T i with
      | none => rfl
      | some m =>
        have := cnt_set T i m (at0_some.1 hm)
        omega
    have HA : Hid (atM T id = none) := atM_not fun i _ hi => absurd (hno i) hi
    have HS : Hid (SpS T (fun i => (i : Int) + 1 = id) T) := SpS.idle fun i _ => hno i
    clear h hn hno
    go_enter Try.func21, Try.ntmps21
    go_wp2_with (go_at_call 39; refine (at_any q T id w HT.out).mono ?_; rintro e w1 ⟨rfl, hw1⟩; rw [HA.out, hw1]; unfold ptr; simp only)
    go_ret
    exact ⟨T, by rw [HA.out]; rfl, HS, HT, grownBy_drewN _ 0 _⟩
  | succ n ih =>
    intro q T id w h hn
    have HT : Hid (Tb w q T ∧ cnt T ≤ n + 1) := ⟨h, hn⟩
    have IH : Hid (∀ (q : Nat) (T : List (Option Mb)) (id : Int) (w : World), Tb w q T → cnt T ≤ n → Calls Try.prog 21 #[.pointer (some ⟨q, 0, none⟩), .int .i64 id] w fun e w' => ∃ T', e = .returned (.bool (atM T id).isSome) ∧ Hid (SpS T (fun i => (i : Int) + 1 = id) T') ∧ Hid (Tb w' q T') ∧ Hid (w.grownBy w' (some q))) := ih
    clear ih h hn
    obtain ⟨x, hx⟩ : ∃ x, atM T id = x := ⟨_, rfl⟩
    cases x with
    | none =>
      have HA : Hid (atM T id = none) := hx
      have HS : Hid (SpS T (fun i => (i : Int) + 1 = id) T) := SpS.idle fun i hi => by
        cases hm : at0 T i with
        | none => rfl
        | some m =>
          have h1 := at0_some.1 hm
          have h2 : i < 16 := by
            rcases Nat.lt_or_ge i 16 with h | h
            · exact h
            · rw [List.getElem?_eq_none (by rw [HT.out.1.len]; exact h)] at h1; cases h1
          rw [← hi, atM_at i h2, hm] at hx
          cases hx
      clear hx
      go_enter Try.func21, Try.ntmps21
      go_wp2_with (go_at_call 39; refine (at_any q T id w HT.out.1).mono ?_; rintro e w1 ⟨rfl, hw1⟩; rw [HA.out, hw1]; unfold ptr; simp only)
      go_ret
      exact ⟨T, by rw [HA.out]; rfl, HS, HT.out.1, grownBy_drewN _ 0 _⟩
    | some m0 =>
      have HA : Hid (atM T id = some m0) := hx
      obtain ⟨i0, hi1, hi2, hi3⟩ := atM_mem hx
      have HI : Hid (T[i0]? = some (some m0) ∧ id = (i0 : Int) + 1 ∧ i0 < 16) := ⟨hi1, hi2, hi3⟩
      have hix := ixa q i0 hi3
      have e5 : wrap64 (id - 1) = (i0 : Int) := by rw [hi2, ← IntWalk.i64_left]; exact wrap_fit i0 (by omega)
      clear hx hi1 hi2 hi3
      go_enter Try.func21, Try.ntmps21
      refine post_hid fun Q hQ => ?_
      go_upto_region 4 with (first
        | (go_at_call 39; refine (at_any q T id w HT.out.1).mono ?_; rintro e w1 ⟨rfl, hw1⟩; rw [HA.out, hw1]; unfold ptr; simp only)
        | (refine step_st1 (by rfl) _ _ rfl q i0 (.pointer none) (by rfl) (by rfl) rfl (by kernel_rfl) rfl (T.map ptr) (by rw [List.length_map, HT.out.1.len]; exact HI.out.2.2) HT.out.1.tab ?_; intro w2 H2))
      have H3 : Hid (Tb w2 q (T.set i0 none) ∧ w.grownBy w2 (some q)) := by
        refine ⟨HT.out.1.less (by rw [List.length_set]) (fun i => ?_) (by rw [← map_set_ptr]; exact H2.out.bk) H2.out.gr, H2.out.gr⟩
        rw [at0_set T i0 i none (by rw [HT.out.1.len]; exact HI.out.2.2)]
        split
        · exact .inr rfl
        · exact .inl rfl
      obtain ⟨T1, hT1⟩ : ∃ T1, T1 = T.set i0 none := ⟨_, rfl⟩
      rw [← hT1] at H3
      have HT1 : Hid (T1 = T.set i0 none) := hT1
      clear H2 hT1 hix e5
      obtain ⟨L, HL, hc, hl⟩ := H3.out.1.row
      have HC : Hid (∀ j u, L[j]? = some u → w2.cell? ((⟨q, 0, none⟩ : Addr).add j) = some u) := hc
      clear hc
      go_wp2_with (refine step_ldat 72 _ rfl rfl ⟨q, 0, none⟩ (by rfl) L _ Try.underlying72 rfl (by rw [hl.out]; kernel_rfl) HC.out ?_)
      go_loopw [21] (fun i wr => ∃ (k : Nat) (Tc : List (Option Mb)), i = .int .i64 k ∧ (k : Int) ≤ 16 ∧ Hid (Tb wr q Tc ∧ w2.grownBy wr (some q) ∧ Lp T T1 (fun i => i = i0) (fun j => ∃ n, at0 T j = some n ∧ n.par = (i0 : Int) + 1) k Tc)) (fun i _ => 16 - (intOf i).toNat)
      case atStart => exact ⟨0, T1, rfl, by omega, ⟨H3.out.1, grownBy_drewN _ 0 _, Lp.start _ _ _ _⟩⟩
      case round =>
        obtain ⟨k, Tc, rfl, hk, HR⟩ := hrel
        by_cases hlt : (k : Int) < 16
        · have hix := H3.out.1.ix HL.out k (by omega)
          obtain ⟨x, hx⟩ : ∃ x, x = T1.getD k none := ⟨_, rfl⟩
          rw [← hx] at hix
          have HX : Hid (at0 T1 k = x) := hx.symm
          have hsT : ∀ i m, at0 T1 i = some m → at0 T i = some m := fun i m hm => by
            rw [HT1.out, at0_set T i0 i none (by rw [HT.out.1.len]; exact HI.out.2.2)] at hm
            split at hm
            · cases hm
            · exact hm
          have HsT : Hid (∀ i m, at0 T1 i = some m → at0 T i = some m) := hsT
          clear hx hsT
          cases x with
          | none =>
            have HN : Hid (Lp T T1 (fun i => i = i0) (fun j => ∃ n, at0 T j = some n ∧ n.par = (i0 : Int) + 1) (k + 1) Tc) := HR.out.2.2.skip fun _ => by
              rcases HR.out.2.2.sub k with e | e
              · rw [e]; exact HX.out
              · exact e
            unfold ptr at hix
            go_wp2_with fail
            go_roundw
            case rel => exact ⟨k + 1, Tc, by go_num, by omega, ⟨HR.out.1, HR.out.2.1, HN.out⟩⟩
            case measure => simp [intOf]; omega
          | some m =>
            unfold ptr at hix
            have hM := H3.out.1.mem k m (at0_some.1 HX.out)
            have HM : Hid (Bk m.b wr (mbL m).toArray 77 ∧ m.id = (k : Int) + 1) := ⟨hM.1.kept (HR.out.2.1.block _ hM.1.lt (fun e => hM.2.1 (Option.some.inj e))), hM.2.2⟩
            clear hM
            have c0 : wr.cell? ⟨m.b, 0, none⟩ = some (.int .i64 m.id) := HM.out.1.cell 0
            have c13 : wr.cell? ⟨m.b, 13, none⟩ = some (.int .i64 m.par) := HM.out.1.cell 13
            by_cases hp : m.par = id
            · rw [hp] at c13
              have HP : Hid (m.par = id) := hp
              clear hp
              have hc : cnt Tc ≤ n := by
                have h1 := cnt_le T1 Tc HR.out.2.2.len HR.out.2.2.sub
                have h2 := cnt_set T i0 m0 HI.out.1
                rw [← HT1.out] at h2
                have := HT.out.2
                omega
              have IHc : Hid (Calls Try.prog 21 #[.pointer (some ⟨q, 0, none⟩), .int .i64 m.id] wr fun e w' => ∃ T', e = .returned (.bool (atM Tc m.id).isSome) ∧ Hid (SpS Tc (fun i => (i : Int) + 1 = m.id) T') ∧ Hid (Tb w' q T') ∧ Hid (wr.grownBy w' (some q))) := IH.out q Tc m.id wr HR.out.1 hc
              clear hc
              go_wp2_with (go_at_call 21; refine IHc.out.mono ?_; rintro e w5 ⟨T5, rfl, h5, h6, h7⟩)
              have HN : Hid (Lp T T1 (fun i => i = i0) (fun j => ∃ n, at0 T j = some n ∧ n.par = (i0 : Int) + 1) (k + 1) T5) := by
                refine HR.out.2.2.drop HsT.out ?_ (seq_of h5.out fun i => ?_)
                · refine .step k i0 m (HsT.out k m HX.out) (by rw [HP.out]; exact HI.out.2.1) (.base i0 m0 (at0_some.2 HI.out.1) rfl)
                · rw [HM.out.2]; omega
              go_roundw
              case rel => exact ⟨k + 1, T5, by go_num, by omega, ⟨h6.out, grownBy_trans HR.out.2.1 h7.out, HN.out⟩⟩
              case measure => simp [intOf]; omega
            · have hp2 : (m.par == id) = false := by simpa using hp
              have HN : Hid (Lp T T1 (fun i => i = i0) (fun j => ∃ n, at0 T j = some n ∧ n.par = (i0 : Int) + 1) (k + 1) Tc) := HR.out.2.2.skip fun ⟨n', h1, h2⟩ => by
                rw [HsT.out k m HX.out] at h1
                injection h1 with h1
                subst h1
                exact absurd (h2.trans HI.out.2.1.symm) hp
              go_wp2_with fail
              go_roundw
              case rel => exact ⟨k + 1, Tc, by go_num, by omega, ⟨HR.out.1, HR.out.2.1, HN.out⟩⟩
              case measure => simp [intOf]; omega
        · go_wp2_with fail
          rw [hQ.out]
          go_ret
          refine ⟨Tc, by rw [HA.out]; rfl, ?_, HR.out.1, grownBy_trans H3.out.2 HR.out.2.1⟩
          have hl := HT.out.1.len
          have h1 := HR.out.2.2
          have e : k = T.length := by omega
          rw [e, HT1.out] at h1
          exact seq_of (Lp.one (at0_some.2 HI.out.1) (by rw [hl]; exact HI.out.2.2) h1) fun i => by rw [HI.out.2.1]; omega
end Go.Proofs.Ytnjdmkgkpdebdaa
