/- assoc: Expire. -/
import Derived.Test.YtnjdmkgkpdebdaaKH
namespace Go.Proofs.Ytnjdmkgkpdebdaa
open Go Go.RowKit Go.Sort
set_option linter.unusedVariables false
/-- whose time is over -/
def exS (T : List (Option Mb)) (now : Int) (i : Nat) : Prop := ∃ m, at0 T i = some m ∧ m.ends ≠ 0 ∧ m.ends ≤ now
/-- whose numbers are gone -/
def gnF : List (Option Mb) → List (Option Mb) → Nat → List Int
  | some _ :: t, none :: u, k => ((k : Int) + 1) :: gnF t u (k + 1)
  | some _ :: t, some _ :: u, k => gnF t u (k + 1)
  | none :: t, _ :: u, k => gnF t u (k + 1)
  | [], _, _ => []
  | _ :: _, [], _ => []
def intL (l : List Int) : List (List Value) := l.map fun n => [.int .i64 n]
theorem gn_len : ∀ (T U : List (Option Mb)) (k : Nat), (gnF T U k).length ≤ T.length
  | [], _, _ => by simp [gnF]
  | none :: t, [], _ => by simp [gnF]
  | some _ :: t, [], _ => by simp [gnF]
  | none :: t, x :: u, k => by have := gn_len t u (k + 1); simp [gnF]; omega
  | some _ :: t, none :: u, k => by have := gn_len t u (k + 1); simp [gnF]; omega
  | some _ :: t, some _ :: u, k => by have := gn_len t u (k + 1); simp [gnF]; omega
theorem zero16 : (Try.prog.info? 72).map (·.size) = some 16 := by kernel_rfl
def nil16 : List Value := [.pointer none, .pointer none, .pointer none, .pointer none, .pointer none, .pointer none, .pointer none, .pointer none, .pointer none, .pointer none, .pointer none, .pointer none, .pointer none, .pointer none, .pointer none, .pointer none]
theorem ptr_one (T : List (Option Mb)) : ∀ v ∈ T.map ptr, v.oneCell' = true := by
  intro v hv
  obtain ⟨x, _, rfl⟩ := List.mem_map.1 hv
  cases x <;> rfl
theorem all_one {l : List Value} (h : ∀ v ∈ l, v.oneCell' = true) : l.toArray.all (·.oneCell') = true := by
  rw [List.all_toArray]
  exact List.all_eq_true.2 h
set_option maxRecDepth 20000 in
set_option maxHeartbeats 2000000 in
theorem expire_any (q : Nat) (T : List (Option Mb)) (now : Int) (w : World) (h : Tb w q T) : Calls Try.prog 16 #[.pointer (some ⟨q, 0, none⟩), .int .i64 now] w fun e w' => ∃ T' v, e = .returned v ∧ Hid (SpS T (exS T now) T') ∧ Hid (Tb w' q T') ∧ Hid (OR w' w.heap.size 3 1 v (intL (gnF T T' 0))) ∧ Hid (w.grownBy w' (some q)) := by
  have HT : Hid (Tb w q T) := h
  obtain ⟨L, HL, hc, hl⟩ := h.row
  have HC : Hid (∀ j u, L[j]? = some u → w.cell? ((⟨q, 0, none⟩ : Addr).add j) = some u) := hc
  have HO : Hid (∀ v ∈ L, v.oneCell' = true) := by rw [HL.out]; exact ptr_one T
  clear h hc
  go_enter Try.func16, Try.ntmps16
  refine post_hid fun Q hQ => ?_
  go_upto_region 2 with (first
    | (refine step_ldat 72 _ rfl rfl ⟨q, 0, none⟩ (by rfl) L _ Try.underlying72 rfl (by rw [hl.out]; kernel_rfl) HC.out ?_)
    | (refine step_alL (by rfl) 72 rfl nil16.toArray (fun u => by kernel_rfl) ?_; intro w1 g H1)
    | (refine step_stL (by rfl) _ _ rfl g L.toArray (by rfl) (by rfl) nil16.toArray ?_ ?_ (all_one HO.out) H1.out.bk ?_; (rw [zero16]; show some 16 = some L.length; rw [hl.out]); (show 16 = L.length; rw [hl.out]); intro w2 H2))
  have H3 : Hid (Tb w2 q T ∧ Bk g w2 L.toArray 72 ∧ Below w.heap.size w w2 ∧ g = w.heap.size) := by
    have hb : Below w.heap.size w w2 := H2.out.below H1.out.be (by rw [H1.out.sz]; omega) (Nat.le_of_eq H1.out.at'.symm)
    exact ⟨HT.out.below hb, H2.out.bk, hb, H1.out.at'⟩
  clear H1 H2 HC
  have HC : Hid (∀ j u, L[j]? = some u → w2.cell? ((⟨g, 0, none⟩ : Addr).add j) = some u) := cells_of H3.out.2.1
  go_wp2_with (refine step_ldat 72 _ rfl rfl ⟨g, 0, none⟩ (by rfl) L _ Try.underlying72 rfl (by rw [hl.out]; kernel_rfl) HC.out ?_)
  go_loopw [16] (fun i wr => ∃ (k : Nat) (Tc : List (Option Mb)), i = .int .i64 k ∧ (k : Int) ≤ 16 ∧ Hid (Tb wr q Tc ∧ w2.grownBy wr (some q) ∧ Lp T T (exS T now) (exS T now) k Tc)) (fun i _ => 16 - (intOf i).toNat)
  case atStart => exact ⟨0, T, rfl, by omega, ⟨H3.out.1, grownBy_drewN _ 0 _, Lp.start _ _ _ _⟩⟩
  case round =>
    obtain ⟨k, Tc, rfl, hk, HR⟩ := hrel
    by_cases hlt : (k : Int) < 16
    · have hix := HT.out.ix HL.out k (by omega)
      obtain ⟨x, hx⟩ : ∃ x, x = T.getD k none := ⟨_, rfl⟩
      rw [← hx] at hix
      have HX : Hid (at0 T k = x) := hx.symm
      clear hx
      cases x with
      | none =>
        have HN : Hid (Lp T T (exS T now) (exS T now) (k + 1) Tc) := HR.out.2.2.skip fun ⟨m, hm, _⟩ => by
          rw [HX.out] at hm; cases hm
        unfold ptr at hix
        go_wp2_with fail
        go_roundw
        case rel => exact ⟨k + 1, Tc, by go_num, by omega, ⟨HR.out.1, HR.out.2.1, HN.out⟩⟩
        case measure => simp [intOf]; omega
      | some m =>
        unfold ptr at hix
        have hM := H3.out.1.mem k m (at0_some.1 HX.out)
        have HM : Hid (Bk m.b wr (mbL m).toArray 77 ∧ m.id = (k : Int) + 1) := ⟨hM.1.kept (HR.out.2.1.block _ hM.1.lt (fun e => hM.2.1 (Option.some.inj e))), hM.2.2⟩
        clear hM
        have c0 : wr.cell? ⟨m.b, 0, none⟩ = some (.int .i64 m.id) := HM.out.1.cell 0
        have c14 : wr.cell? ⟨m.b, 14, none⟩ = some (.int .i64 m.ends) := HM.out.1.cell 14
        by_cases hp : m.ends ≠ 0 ∧ m.ends ≤ now
        · have HP : Hid (exS T now k) := ⟨m, HX.out, hp⟩
          obtain ⟨hp0, hp1⟩ := hp
          have hp2 : (m.ends == 0) = false := by simpa using hp0
          have IHc : Hid (Calls Try.prog 21 #[.pointer (some ⟨q, 0, none⟩), .int .i64 m.id] wr fun e w' => ∃ T', e = .returned (.bool (atM Tc m.id).isSome) ∧ Hid (SpS Tc (fun i => (i : Int) + 1 = m.id) T') ∧ Hid (Tb w' q T') ∧ Hid (wr.grownBy w' (some q))) := drop_any (cnt Tc) q Tc m.id wr HR.out.1 (Nat.le_refl _)
          go_wp2_with (go_at_call 21; refine IHc.out.mono ?_; rintro e w5 ⟨T5, rfl, h5, h6, h7⟩)
          have HN : Hid (Lp T T (exS T now) (exS T now) (k + 1) T5) := by
            refine HR.out.2.2.drop (fun i m hm => hm) (.base k m HX.out HP.out) (seq_of h5.out fun i => ?_)
            rw [HM.out.2]; omega
          go_roundw
          case rel => exact ⟨k + 1, T5, by go_num, by omega, ⟨h6.out, grownBy_trans HR.out.2.1 h7.out, HN.out⟩⟩
          case measure => simp [intOf]; omega
        · have HN : Hid (Lp T T (exS T now) (exS T now) (k + 1) Tc) := HR.out.2.2.skip fun ⟨m', hm, h2⟩ => by
            rw [HX.out] at hm; injection hm with hm; subst hm; exact absurd h2 hp
          by_cases h0 : m.ends = 0
          · rw [h0] at c14
            go_wp2_with fail
            go_roundw
            case rel => exact ⟨k + 1, Tc, by go_num, by omega, ⟨HR.out.1, HR.out.2.1, HN.out⟩⟩
            case measure => simp [intOf]; omega
          · have h02 : (m.ends == 0) = false := by simpa using h0
            have hgt : now < m.ends := by
              rcases Int.lt_or_le now m.ends with h | h
              · exact h
              · exact absurd ⟨h0, h⟩ hp
            clear hp
            go_wp2_with fail
            go_roundw
            case rel => exact ⟨k + 1, Tc, by go_num, by omega, ⟨HR.out.1, HR.out.2.1, HN.out⟩⟩
            case measure => simp [intOf]; omega
    · have HZ : Hid (SpS T (exS T now) Tc) := by
        have h1 := HR.out.2.2
        have e : k = T.length := by rw [HT.out.len]; omega
        rw [e] at h1
        exact Lp.all h1 fun i ⟨m, hm, _⟩ => by
          have hm := at0_some.1 hm
          rcases Nat.lt_or_ge i T.length with h | h
          · exact h
          · rw [List.getElem?_eq_none h] at hm; cases hm
      obtain ⟨w4, hw4⟩ : ∃ w4, w4 = wr := ⟨_, rfl⟩
      subst hw4
      have HB : Hid (Bk g w4 L.toArray 72 ∧ Tb w4 q Tc ∧ w.grownBy w4 (some q) ∧ (∀ (i : Nat) m, Tc[i]? = some (some m) → m.b < w.heap.size) ∧ (∀ (i : Nat) m, at0 T i = some m → Bk m.b w4 (mbL m).toArray 77 ∧ m.b < w.heap.size ∧ m.id = (i : Int) + 1)) := by
        have l1 := HT.out.lt
        refine ⟨H3.out.2.1.kept (HR.out.2.1.block _ H3.out.2.1.lt (fun e => by injection e with e; have := H3.out.2.2.2; omega)), HR.out.1, grownBy_trans (grownBy_below H3.out.2.2.1 _) HR.out.2.1, fun i m hm => ?_, fun i m hm => ?_⟩
        · exact (HT.out.mem i m (at0_some.1 (HZ.out.same i m (at0_some.2 hm)))).1.lt
        · have h1 := H3.out.1.mem i m (at0_some.1 hm)
          exact ⟨h1.1.kept (HR.out.2.1.block _ h1.1.lt (fun e => h1.2.1 (Option.some.inj e))), (HT.out.mem i m (at0_some.1 hm)).1.lt, h1.2.2⟩
      have HC4 : Hid (∀ j u, L[j]? = some u → w4.cell? ((⟨g, 0, none⟩ : Addr).add j) = some u) := cells_of HB.out.1
      clear HR H3 HC
      go_wp2_with (refine step_ldat 72 _ rfl rfl ⟨g, 0, none⟩ (by rfl) L _ Try.underlying72 rfl (by rw [hl.out]; kernel_rfl) HC4.out ?_)
      clear hlt hk
      go_loopw [8, 47] (fun v i wr => ∃ (j : Nat) (acc : List Int), i = .int .i64 j ∧ (j : Int) ≤ 16 ∧ Hid (OR wr w.heap.size 3 1 v (intL acc) ∧ Below w.heap.size w4 wr ∧ acc ++ gnF (T.drop j) (Tc.drop j) j = gnF T Tc 0)) (fun _ i _ => 16 - (intOf i).toNat)
      case atStart => exact ⟨0, [], rfl, by omega, ⟨OR.nil _ _ _ _, Below.refl _ _, rfl⟩⟩
      case round =>
        obtain ⟨j, acc, rfl, hj, HR⟩ := hrel
        obtain ⟨v, hv⟩ : ∃ v, v = u8 := ⟨_, rfl⟩
        subst hv
        have hsz : w.heap.size ≤ w4.heap.size := HB.out.2.2.1.size
        have HW : Hid (Tb wr q Tc ∧ w.heap.size ≤ wr.heap.size) := ⟨HB.out.2.1.belowB HR.out.2.1 HT.out.lt HB.out.2.2.2.1, Nat.le_trans hsz HR.out.2.1.size⟩
        clear hsz
        by_cases hlt : (j : Int) < 16
        · have hix := HT.out.ix HL.out j (by omega)
          have hiq := ixa q j (by omega)
          have hdr := drop_at HT.out.len j (by omega)
          have hdc := drop_at HB.out.2.1.len j (by omega)
          have hcq := HW.out.1.cell j (by omega)
          obtain ⟨x, hx⟩ : ∃ x, x = T.getD j none := ⟨_, rfl⟩
          obtain ⟨y, hy⟩ : ∃ y, y = Tc.getD j none := ⟨_, rfl⟩
          rw [← hx] at hix hdr
          rw [← hy] at hdc hcq
          have HX : Hid (at0 T j = x) := hx.symm
          have hge := HR.out.2.2
          rw [hdr, hdc] at hge
          clear hx hy hdr hdc
          cases x with
          | none =>
            have HN : Hid (acc ++ gnF (T.drop (j + 1)) (Tc.drop (j + 1)) (j + 1) = gnF T Tc 0) := hge
            clear hge
            unfold ptr at hix
            go_wp2_with fail
            go_roundw
            case rel => exact ⟨j + 1, acc, by go_num, by omega, ⟨HR.out.1, HR.out.2.1, HN.out⟩⟩
            case measure => simp [intOf]; omega
          | some m =>
            unfold ptr at hix
            cases y with
            | some m' =>
              have HN : Hid (acc ++ gnF (T.drop (j + 1)) (Tc.drop (j + 1)) (j + 1) = gnF T Tc 0) := hge
              clear hge
              unfold ptr at hcq
              go_wp2_with fail
              go_roundw
              case rel => exact ⟨j + 1, acc, by go_num, by omega, ⟨HR.out.1, HR.out.2.1, HN.out⟩⟩
              case measure => simp [intOf]; omega
            | none =>
              have HN : Hid ((acc ++ [(j : Int) + 1]) ++ gnF (T.drop (j + 1)) (Tc.drop (j + 1)) (j + 1) = gnF T Tc 0) := by
                show _ = _; rw [List.append_assoc]; exact hge
              clear hge
              unfold ptr at hcq
              obtain ⟨k1, k2, k3⟩ := HB.out.2.2.2.2 j m HX.out
              have c0 : wr.cell? ⟨m.b, 0, none⟩ = some (.int .i64 m.id) := by
                rw [HR.out.2.1.cell (p := ⟨m.b, 0, none⟩) k2]; exact k1.cell 0
              have HK : Hid (m.id = (j : Int) + 1) := k3
              have HLn : Hid ((intL acc).length ≤ 16) := by
                have h1 := gn_len T Tc 0
                rw [← HN.out] at h1
                show _ ≤ _
                unfold intL
                rw [List.length_map]
                simp only [List.length_append, HT.out.len] at h1
                omega
              clear k1 k2 k3
              go_wp2_with (first
                | (refine step_bsL (by rfl) 24 3 _ rfl (.int .i64 m.id) [.int .i64 m.id] (by rfl) (run_bsI m.id) ?_; intro w6 g6 H6)
                | (at_builtin; refine step_apL tiI rfl _ _ rfl w.heap.size g6 v [.int .i64 m.id] (by rfl) (by rfl) rfl (by intro u hu; simp at hu; rw [hu]; rfl) wr _ ?_ ?_ HR.out.1 H6.out HW.out.2 ?_; (have := HLn.out; simp only [maxLen]; omega); (have := HLn.out; omega); intro v7 w7 H7))
              go_roundw
              case rel =>
                refine ⟨j + 1, acc ++ [(j : Int) + 1], by go_num, by omega, ⟨?_, HR.out.2.1.trans H7.out.2, HN.out⟩⟩
                have h1 := H7.out.1
                rw [HK.out] at h1
                unfold intL at h1 ⊢
                rw [List.map_append]
                exact h1
              case measure => simp [intOf]; omega
        · have HE : Hid (acc = gnF T Tc 0) := by
            have h1 := HR.out.2.2
            rw [drop_end HT.out.len j (by omega)] at h1
            show _ = _
            simpa [gnF] using h1
          go_wp2_with fail
          rw [hQ.out]
          go_ret
          refine ⟨Tc, v, rfl, HZ, HW.out.1, ?_, ?_⟩
          · have h1 := HR.out.1
            rw [HE.out] at h1
            exact h1
          · have b := HR.out.2.1
            have g := HB.out.2.2.1
            exact ⟨b.os.trans g.os, b.tape.trans g.tape, b.output.trans g.output, Nat.le_trans g.size b.size, fun k hk hne => (b.block k hk).trans (g.block k hk hne)⟩
end Go.Proofs.Ytnjdmkgkpdebdaa
