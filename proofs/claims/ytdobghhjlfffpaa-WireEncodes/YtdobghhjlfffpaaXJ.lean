/- What heavy of the laws' package says. -/
import Derived.Test.YtdobghhjlfffpaaXC
namespace Go.Proofs.Ytdobghhjlfffpaa
open Go.RowKit
/-- what is not heavy is small -/
def hvP (xs : List Xt) (mn : Nat) : Prop := xs.length ≤ 65536 ∧ mn ≤ 65536 ∧ ∀ x ∈ xs, x.dat.length ≤ 65536
set_option maxRecDepth 4000 in
set_option maxHeartbeats 8000000 in
theorem heavy_any (N : Nat) (h : Hd) (ev : Value) (xs : List Xt) (key : Int) (nak : Bool) (ma : Option Addr) (mn mc : Nat) (w : World) (he : Es N w ev xs) (hN : N ≤ w.heap.size) (hl : (xs.length : Int) ≤ 140737488355328) (hx : ∀ x ∈ xs, (x.dat.length : Int) ≤ 9223372036854775807) (hmn : (mn : Int) ≤ 9223372036854775807) :
    Calls Try.prog 6 #[pkV h ev key nak (.slice ma mn mc)] w fun e' w' => ∃ r, e' = .returned r ∧ (r = .bool true ∨ (r = .bool false ∧ hvP xs mn)) ∧ Below w.heap.size w w' := by
  have H : Hid (Es N w ev xs) := he
  obtain ⟨ea, ec, rfl, h1, -⟩ := he
  obtain ⟨en, hen⟩ : ∃ L, L = xs.length := ⟨_, rfl⟩
  rw [← hen] at H ⊢
  have HL : Hid (en = xs.length) := hen
  obtain ⟨EN, hEN⟩ : ∃ x : Int, (en : Int) = x := ⟨_, rfl⟩
  have HEN : Hid ((en : Int) = EN) := hEN
  have l1 : EN ≤ 140737488355328 := by omega
  have l0 : 0 ≤ EN := by omega
  obtain ⟨MN, hMN⟩ : ∃ x : Int, (mn : Int) = x := ⟨_, rfl⟩
  have HMN : Hid ((mn : Int) = MN) := hMN
  have m0 : 0 ≤ MN := by omega
  have m1 : MN ≤ 9223372036854775807 := by omega
  obtain ⟨MM, hMM⟩ : ∃ x : Int, min MN 1048576 = x := ⟨_, rfl⟩
  have mm0 : 0 ≤ MM := by omega
  have mm1 : MM ≤ 1048576 := by omega
  have HMM : Hid (min MN 1048576 = MM) := hMM
  have HXL : Hid (∀ x ∈ xs, (x.dat.length : Int) ≤ 9223372036854775807) := hx
  clear h1 hx hl hen hmn
  unfold pkV
  go_enter Try.func6, Try.ntmps6
  go_wp2_with fail
  obtain ⟨W0, hW0⟩ : ∃ W, W = w.alloc (.cells #[.int .i64 h.leap, .int .i64 h.ver, .int .i64 h.mode, .int .i64 h.str, .int .i64 h.poll, .int .i64 h.prec, .int .i64 h.del, .int .i64 h.dis, .int .u32 h.rid, .int .u64 h.t0, .int .u64 h.t1, .int .u64 h.t2, .int .u64 h.t3, .slice ea en ec, .int .i64 key, .bool nak, .slice ma mn mc] 29) := ⟨_, rfl⟩
  have K0 : Hid (Ck w.heap.size W0 #[.int .i64 h.leap, .int .i64 h.ver, .int .i64 h.mode, .int .i64 h.str, .int .i64 h.poll, .int .i64 h.prec, .int .i64 h.del, .int .i64 h.dis, .int .u32 h.rid, .int .u64 h.t0, .int .u64 h.t1, .int .u64 h.t2, .int .u64 h.t3, .slice ea en ec, .int .i64 key, .bool nak, .slice ma mn mc] ∧ Below w.heap.size w W0) := by rw [hW0]; exact ⟨Ck.new _ _ _, (by repeat' (first | with_reducible exact Below.refl _ _ | with_reducible refine Below.setCell ?_ (by first | (simp; done) | (simp; omega) | omega) _ | with_reducible refine below_drewN ?_ _ | with_reducible refine Below.drew ?_ | with_reducible refine Below.alloc ?_ (by first | (simp; done) | (simp; omega) | omega) _))⟩
  rw [← hW0]
  clear hW0
  obtain ⟨c0, c1, c2, c3, c4, c5, c6, c7, c8, c9, c10, c11, c12, c13, c14, c15, c16⟩ := K0.out.1.c17
  go_loop [3, 4] (fun t i => ∃ (k : Nat) (T KI : Int), t = .int .i64 T ∧ i = .int .i64 KI ∧ 0 ≤ KI ∧ KI ≤ EN ∧ 0 ≤ T ∧ T ≤ 140737489600000 ∧ Hid (KI = (k : Int) ∧ EN ≤ T ∧ MM ≤ T ∧ ∀ j (hj : j < xs.length), j < k → min (xs[j].dat.length : Int) 1048576 ≤ T)) (fun _ i => (EN - intOf i).toNat)
  case atStart => exact ⟨0, _, 0, rfl, rfl, by omega, l0, by omega, by omega, rfl, by omega, by omega, fun j _ hj => absurd hj (by omega)⟩
  case round =>
    obtain ⟨k, T, KI, rfl, rfl, hk0, hk, t0, t1, hT⟩ := hrel
    by_cases hlt : KI < EN
    · by_cases h65 : T ≤ 65536
      · have hkx : k < xs.length := by have := HL.out; have := HEN.out; have := hT.out.1; omega
        obtain ⟨ad, g1, g2, g3, g4, -⟩ := (H.out.below K0.out.2 hN).at k hkx
        have hix : ∀ w, Sem.run Try.prog (Instr.indexAt 26 (.slice ea en ec) (.int .i64 KI)) w = .ok (.pointer (some (ad.add (k * 2)))) w := by rw [hT.out.1]; exact xidx_run en ec k g1.out (by have := HEN.out; have := hT.out.1; omega)
        obtain ⟨A, hA0⟩ : ∃ A, A = ad.add (k * 2) := ⟨_, rfl⟩
        rw [← hA0] at hix g3
        obtain ⟨dv, hdv⟩ : ∃ d, d = xs[k].dv := ⟨_, rfl⟩
        rw [← hdv] at g3 g4
        obtain ⟨da, dc, hd, -⟩ := g4
        subst hd
        obtain ⟨dn, hdn⟩ : ∃ n, n = xs[k].dat.length := ⟨_, rfl⟩
        rw [← hdn] at g3
        have g3' : W0.cell? { block := A.block, off := A.off + 1 } = some (.slice da dn dc) := by simpa [Addr.add] using g3
        obtain ⟨DN, hDN⟩ : ∃ x : Int, (dn : Int) = x := ⟨_, rfl⟩
        have d1 : DN ≤ 9223372036854775807 := by have := HXL.out _ (List.getElem_mem hkx); omega
        have d0 : 0 ≤ DN := by omega
        obtain ⟨DM, hDM⟩ : ∃ x : Int, min DN 1048576 = x := ⟨_, rfl⟩
        have dm0 : 0 ≤ DM := by omega
        have dm1 : DM ≤ 1048576 := by omega
        have HE : Hid (DM = min (xs[k].dat.length : Int) 1048576) := by show _ = _; rw [← hDM, ← hDN, hdn]
        clear hA0 hdv hdn g1 g2 g3
        go_wp2_with fail
        refine ⟨⟨k + 1, _, KI + 1, rfl, rfl, by omega, by omega, by omega, by omega, by have := hT.out.1; omega, by have := hT.out; omega, by have := hT.out; omega, fun j hj hjk => ?_⟩, by simp [intOf]; omega⟩
        by_cases hjk' : j < k
        · have := hT.out.2.2.2 j hj hjk'; omega
        · have : j = k := by omega
          subst this
          rw [← HE.out]; omega
      · go_wp2_with fail
        all_goals
          go_ret
          refine ⟨_, rfl, ?_, K0.out.2⟩
          first
          | exact .inl rfl
          | exact .inl (by show Value.bool (decide (65536 < T)) = _; rw [decide_eq_true (by omega)])
    · by_cases h65 : 65536 < T
      · go_wp2_with fail
        all_goals
          go_ret
          refine ⟨_, rfl, ?_, K0.out.2⟩
          first
          | exact .inl rfl
          | exact .inl (by show Value.bool (decide (65536 < T)) = _; rw [decide_eq_true (by omega)])
      · have HV : Hid (hvP xs mn) := by
          have h1 := HL.out
          have h2 := HEN.out
          have h3 := hT.out
          have h4 := HMN.out
          have h5 := HMM.out
          refine ⟨by omega, by omega, fun x hx => ?_⟩
          obtain ⟨j, hj, rfl⟩ := List.mem_iff_getElem.1 hx
          have := h3.2.2.2 j hj (by omega)
          omega
        go_wp2_with fail
        all_goals
          go_ret
          refine ⟨_, rfl, ?_, K0.out.2⟩
          first
          | exact .inr ⟨rfl, HV.out⟩
          | exact .inr ⟨by show Value.bool (decide (65536 < T)) = _; rw [decide_eq_false (by omega)], HV.out⟩
end Go.Proofs.Ytdobghhjlfffpaa
