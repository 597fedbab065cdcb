/- Clone and joinRanges. -/
import Derived.Test.YtmgphfdieekpdaaSB
import Derived.Test.YtmgphfdieekpdaaRP
import Derived.Deep.RegionWith
import Derived.Laws.Cover3
namespace Go.Proofs.Ytmgphfdieekpdaa
open Go Go.RowKit Go.Sort
theorem eql_nilR (ao : Option Addr) (n c : Nat) (w : World) : (binOp .eql 22 (.slice ao n c) (.slice none 0 0)).run Try.prog w = .ok (.bool ao.isNone) w := by
  have h := run_equal_slice_nil (P := Try.prog) w 22 26 ao n c Try.underlying22
  simp only [binOp, Sem.run_bind, h, Result.andThen_ok, Sem.run_pure]
set_option maxHeartbeats 1000000 in
theorem clone_any (N : Nat) (v : Value) (xs : List Ru) (w : World) (hN : N ≤ w.heap.size) (ha : Rk N w 3 v (xs.map ruL)) (hra : Ra v) (hl : xs.length ≤ 1000) :
    Calls Try.prog 27 #[v] w fun e w' => ∃ v', e = .returned v' ∧ OR w' w.heap.size 26 3 v' (xs.map ruL) ∧ Below w.heap.size w w' := by
  obtain ⟨ao, cap, hav, hc, hcell⟩ := ha.ru
  subst hav
  rcases ao with _ | ad
  · have hc0 := hra _ _ rfl
    have hl0 : xs = [] := List.length_eq_zero_iff.1 (by omega)
    subst hl0 hc0
    simp only [List.length_nil]
    clear ha hra hcell hc hl hN
    have hq := eql_nilR none 0 0
    go_enter Try.func27, Try.ntmps27
    go_wp2
    go_ret
    exact ⟨_, rfl, OR.nil _ _ _ _, Below.refl _ _⟩
  · have HA : Hid (Rk N w 3 (.slice (some ad) xs.length cap) (xs.map ruL) ∧ Ra (.slice (some ad) xs.length cap) ∧ N ≤ w.heap.size) := ⟨ha, hra, hN⟩
    have HS : Hid (0 + (xs.map ruL).length ≤ maxLen ∧ (0 + (xs.map ruL).length) * 24 ≤ 140737488355328) := by
      show _ ∧ _
      rw [List.length_map]
      unfold maxLen
      omega
    obtain ⟨L, hL⟩ : ∃ L, L = xs.length := ⟨_, rfl⟩
    rw [← hL] at HA ⊢
    have HL : Hid (L = xs.length) := hL
    clear ha hra hcell hc hN hL hl
    have hq := eql_nilR (some ad) L cap
    go_enter Try.func27, Try.ntmps27
    go_wp2_with (refine wpList_appk tiRu (by rfl) _ _ (by rfl) w.heap.size N _ (.slice (some ad) L cap) [] (xs.map ruL) (by rfl) (by rfl) ?_ ?_ HA.out.2.1 (ruL_len xs) (ruL_one xs) HS.out.1 HS.out.2 (by simp) ?_; exact OR.fresh _ _ _ _ (Nat.le_refl _); exact HA.out.1.below ((Below.refl _ _).alloc (Nat.le_refl _) _) HA.out.2.2)
    intro v1 w1 ho hg hv
    obtain ⟨ao1, cap1, hv1, hc1, -⟩ := ho.rk
    subst hv1
    have HO : Hid (OR w1 w.heap.size 26 3 (.slice ao1 (xs.map ruL).length cap1) (xs.map ruL)) := ho
    have HB1 : Hid (Below w.heap.size w w1) := ((Below.refl _ _).alloc (Nat.le_refl _) _).grown hg (by simp) (fun k hk => by simp [Value.ownBlock] at hk; omega)
    clear ho hg hv
    go_wp2
    go_ret
    exact ⟨_, rfl, HO.out, HB1.out⟩
/-- one range more -/
def jnS (js : List Ru) (r : Ru) : List Ru := match js.getLast? with
  | none => js ++ [r]
  | some l => if crI l r = 0 then js.dropLast ++ [⟨l.addr, l.bits, orI l.flags r.flags⟩] else js ++ [r]
def jn (ys : List Ru) : List Ru := ys.foldl jnS []
theorem jnS_nil (r : Ru) : jnS [] r = [r] := rfl
theorem jnS_last (js : List Ru) (h : js ≠ []) (r : Ru) : jnS js r = if crI (js.getLast h) r = 0 then js.dropLast ++ [⟨(js.getLast h).addr, (js.getLast h).bits, orI (js.getLast h).flags r.flags⟩] else js ++ [r] := by
  unfold jnS
  rw [List.getLast?_eq_some_getLast h]
theorem jn_take (ys : List Ru) (k : Nat) (h : k < ys.length) : jn (ys.take (k + 1)) = jnS (jn (ys.take k)) ys[k] := by
  unfold jn
  rw [List.take_succ_eq_append_getElem h, List.foldl_append]; rfl
theorem jnS_len (js : List Ru) (r : Ru) : (jnS js r).length ≤ js.length + 1 := by
  by_cases h : js = []
  · subst h; simp [jnS_nil]
  · rw [jnS_last js h]; split <;> simp
theorem jn_len (ys : List Ru) : (jn ys).length ≤ ys.length := by
  unfold jn
  have : ∀ (zs : List Ru) (js : List Ru), (zs.foldl jnS js).length ≤ js.length + zs.length := by
    intro zs
    induction zs with
    | nil => intro js; simp
    | cons z t ih => intro js; rw [List.foldl_cons]; have h1 := ih (jnS js z); have h2 := jnS_len js z; simp; omega
  have h := this ys []
  simpa using h
theorem Rk.at3 {N : Nat} {w : World} {ao : Option Addr} {n cap : Nat} {xs : List Ru} (h : Rk N w 3 (.slice ao n cap) (xs.map ruL)) (k : Nat) (hk : k < xs.length) : ∃ ad, ao = some ad ∧ ad.block < N ∧ ∀ j u, (ruL xs[k])[j]? = some u → w.cell? ((ad.add (k * 3)).add j) = some u := by
  obtain ⟨ao', cap', h1, _, h3⟩ := h.ru
  injection h1 with h1 _ _
  subst h1
  exact h3 k hk
theorem drop_set (js : List Ru) (m : Nat) (x : Ru) (h : js.length = m + 1) : js.dropLast ++ [x] = js.set m x := by
  induction js generalizing m with
  | nil => simp at h
  | cons a t ih =>
    cases t with
    | nil =>
      have : m = 0 := by simp at h; omega
      subst this
      rfl
    | cons b t' =>
      cases m with
      | zero => simp at h
      | succ m =>
        have := ih m (by simpa using h)
        simp only [List.dropLast_cons_cons, List.cons_append, List.set_cons_succ]
        rw [this]
theorem rk_one3 (U : World) (a b c : Value) (o : TypeId) : Rk (U.heap.size + 1) (U.alloc (.cells #[a, b, c] o)) 3 (.slice (some ⟨U.heap.size, 0, none⟩) 1 1) [[a, b, c]] := by
  refine ⟨some ⟨U.heap.size, 0, none⟩, 1, rfl, by simp, fun i hi => ⟨_, rfl, by simp, fun j u hu => ?_⟩⟩
  have hi0 : i = 0 := by simp at hi; omega
  subst hi0
  rw [add_own, Nat.zero_mul, Nat.zero_add, (Bk.new U _ o).cell j]
  have : (#[a, b, c] : Array Value)[j]? = [a, b, c][j]? := by simp
  rw [this]; exact hu
theorem ra_one (U : Nat) : Ra (.slice (some ⟨U, 0, none⟩) 1 1) := by intro n c hh; cases hh
set_option maxHeartbeats 2000000 in
theorem join_any (N : Nat) (v : Value) (ys : List Ru) (w : World) (hN : N ≤ w.heap.size) (ha : Rk N w 3 v (ys.map ruL)) (hl : ys.length ≤ 1000) :
    Calls Try.prog 30 #[v] w fun e w' => ∃ v', e = .returned v' ∧ OR w' w.heap.size 26 3 v' ((jn ys).map ruL) ∧ Below w.heap.size w w' := by
  obtain ⟨ao, cap, hav, hc, -⟩ := ha.ru
  subst hav
  obtain ⟨L, hL⟩ : ∃ L, L = ys.length := ⟨_, rfl⟩
  rw [← hL] at ha ⊢
  have HL : Hid (L = ys.length ∧ L ≤ 1000) := ⟨hL, by omega⟩
  have l1 : (L : Int) ≤ 1000 := by omega
  have HA : Hid (Rk N w 3 (.slice ao L cap) (ys.map ruL) ∧ N ≤ w.heap.size) := ⟨ha, hN⟩
  clear ha hc hL hl hN
  go_enter Try.func30, Try.ntmps30
  go_wp2
  go_loopw [3, 9] (fun jv i wr => ∃ (k M : Nat) (jo : Option Addr) (jc : Nat), i = .int .i64 (k : Int) ∧ jv = .slice jo M jc ∧ (k : Int) ≤ L ∧ (M : Int) ≤ k ∧ Hid (OR wr w.heap.size 26 3 (.slice jo M jc) ((jn (ys.take k)).map ruL) ∧ M = (jn (ys.take k)).length) ∧ Hid (Below w.heap.size w wr)) (fun _ i _ => (L - intOf i).toNat)
  case atStart => exact ⟨0, 0, none, 0, rfl, rfl, by omega, by omega, ⟨OR.nil _ _ _ _, rfl⟩, Below.refl _ _⟩
  case round =>
    obtain ⟨k, M, jo, jc, rfl, rfl, hk, hM, hO, hB⟩ := hrel
    by_cases hlt : (k : Int) < L
    · have hkx : k < ys.length := by have := HL.out.1; omega
      obtain ⟨ad, g1, g2, g3⟩ := HA.out.1.at3 k hkx
      have hix : ∀ w, Sem.run Try.prog (Instr.indexAt 22 (.slice ao L cap) (.int .i64 (k : Int))) w = .ok (.pointer (some (ad.add (k * 3)))) w := ix_ru L cap k g1 hlt
      have HC : Hid (∀ j u, (ruL ys[k])[j]? = some u → wr.cell? ((ad.add (k * 3)).add j) = some u) := fun j u hu => by
        rw [hB.out.cell (p := (ad.add (k * 3)).add j) (by rw [add_block, add_block]; have := HA.out.2; omega)]
        exact g3 j u hu
      obtain ⟨E, hE⟩ : ∃ E, E = ys[k] := ⟨_, rfl⟩
      obtain ⟨A, hA0⟩ : ∃ A, A = ad.add (k * 3) := ⟨_, rfl⟩
      rw [← hA0] at hix HC
      rw [← hE] at HC
      have HJ : Hid (jn (ys.take (k + 1)) = jnS (jn (ys.take k)) E) := by rw [hE]; exact jn_take ys k hkx
      clear hA0 g1 g3 hE
      obtain ⟨x0, x1, x2⟩ := E
      unfold ruL at HC
      simp only at HC
      have HB1 : Hid (∀ o, Below w.heap.size w (wr.alloc o)) := fun o => hB.out.alloc hB.out.size o
      by_cases hM0 : M = 0
      · subst hM0
        have HJ0 : Hid (jn (ys.take (k + 1)) = [] ++ [⟨x0, x1, x2⟩]) := by
          show _ = _
          have h0 : jn (ys.take k) = [] := List.length_eq_zero_iff.1 hO.out.2.symm
          rw [HJ.out, h0]; rfl
        have HOE0 : Hid (OR wr w.heap.size 26 3 (.slice jo 0 jc) (([] : List Ru).map ruL)) := by
          have h0 : jn (ys.take k) = [] := List.length_eq_zero_iff.1 hO.out.2.symm
          have := hO.out.1
          rw [h0] at this
          exact this
        go_wp2_with (refine step_ldat 26 _ (by rfl) (by rfl) A (by rfl) [.int .u32 x0, .int .i64 x1, .int .i64 x2] _ Try.underlying26 (by rfl) ru_info ?_ ?_; exact HC.out)
        go_quiet (fail)
        generalize hU : World.drewN _ _ = U
        have HOU : Hid (OR U w.heap.size 26 3 (.slice jo 0 jc) (([] : List Ru).map ruL)) := by rw [← hU]; exact (HOE0.out.alloc _).drewN _
        have HBU : Hid (Below w.heap.size w U) := by rw [← hU]; exact below_drewN (HB1.out _) _
        have r0 : U.cell? ⟨wr.heap.size, 0, none⟩ = some (.int .u32 x0) := by rw [← hU]; simp
        have r1 : U.cell? ⟨wr.heap.size, 1, none⟩ = some (.int .i64 x1) := by rw [← hU]; simp
        have r2 : U.cell? ⟨wr.heap.size, 2, none⟩ = some (.int .i64 x2) := by rw [← hU]; simp
        have HLN : Hid ((([] : List Ru).map ruL).length + [[Value.int .u32 x0, .int .i64 x1, .int .i64 x2]].length ≤ maxLen ∧ ((([] : List Ru).map ruL).length + [[Value.int .u32 x0, .int .i64 x1, .int .i64 x2]].length) * 24 ≤ 140737488355328 ∧ w.heap.size ≤ U.heap.size + 1) := by
          refine ⟨?_, ?_, Nat.le_succ_of_le HBU.out.size⟩
          · rw [List.length_map]; simp; try (unfold maxLen; omega)
          · rw [List.length_map]; simp; try omega
        clear hU
        go_wp2_with (refine wpList_appk tiRu (by rfl) _ _ (by rfl) w.heap.size (U.heap.size + 1) (.slice jo 0 jc) (.slice (some ⟨U.heap.size, 0, none⟩) 1 1) (([] : List Ru).map ruL) [[.int .u32 x0, .int .i64 x1, .int .i64 x2]] (by rfl) (by rfl) (HOU.out.alloc _) (rk_one3 _ _ _ _ _) (ra_one _) (by intro r hr; rw [List.mem_singleton] at hr; rw [hr]; rfl) (by intro r hr u hu; rw [List.mem_singleton] at hr; rw [hr] at hu; exact one_ru _ _ _ u hu) HLN.out.1 HLN.out.2.1 (by simpa using HLN.out.2.2) ?_)
        intro v2 w2 ho2 hg2 hv2
        have HB2 : Hid (Below w.heap.size w w2) := (HBU.out.alloc HBU.out.size _).grown hg2 (by have := HBU.out.size; simp; omega) (fun q hq => (HOU.out.row.lt q hq).1)
        have ho3 : OR w2 w.heap.size 26 3 v2 ((jn (ys.take (k + 1))).map ruL) := by
          rw [HJ0.out, List.map_append]
          simpa [ruL] using ho2
        obtain ⟨jo2, jc2, hv3, -, -⟩ := ho3.rk
        rw [List.length_map] at hv3
        obtain ⟨M2, hM2⟩ : ∃ M2, M2 = (jn (ys.take (k + 1))).length := ⟨_, rfl⟩
        rw [← hM2] at hv3
        subst hv3
        have HO2 : Hid (OR w2 w.heap.size 26 3 (.slice jo2 M2 jc2) ((jn (ys.take (k + 1))).map ruL) ∧ M2 = (jn (ys.take (k + 1))).length) := ⟨ho3, hM2⟩
        have hMk : (M2 : Int) ≤ k + 1 := by
          have := jn_len (ys.take (k + 1))
          rw [← hM2, List.length_take] at this
          omega
        clear ho2 ho3 hg2 hv2 hM2
        go_wp2
        exact ⟨⟨k + 1, M2, jo2, jc2, by go_num, rfl, by omega, by omega, HO2, HB2⟩, by simp [intOf]; omega⟩
      · obtain ⟨js, hjs⟩ : ∃ js, js = jn (ys.take k) := ⟨_, rfl⟩
        have HO0 := hO.out
        rw [← hjs] at HO0 HJ
        obtain ⟨m, hm⟩ : ∃ m, M = m + 1 := ⟨M - 1, by omega⟩
        have hmj : m < js.length := by have := HO0.2; omega
        have hne : js ≠ [] := by intro h; rw [h] at hmj; simp at hmj
        have eM : (M : Int) - 1 = (m : Int) := by omega
        obtain ⟨g, jc', hf, hc', hg1, hg2⟩ := HO0.1.form (by rw [List.length_map]; omega)
        rw [List.length_map, ← HO0.2] at hf
        injection hf with hf _ hf2
        subst hf hf2
        have hml : (m : Int) < M := by omega
        have hixm : ∀ w, Sem.run Try.prog (Instr.indexAt 22 (.slice (some ⟨g, 0, none⟩) M jc) (.int .i64 (m : Int))) w = .ok (.pointer (some ⟨g, m * 3, none⟩)) w := fun u => by
          have := ix_ru (ad := ⟨g, 0, none⟩) M jc m rfl hml u
          rwa [add_own] at this
        have hrow := HO0.1.at m (by rw [List.length_map]; exact hmj)
        rw [getD_map ruL js m hmj] at hrow
        obtain ⟨l, hl⟩ : ∃ l, l = js[m] := ⟨_, rfl⟩
        have hlast : js.getLast hne = l := by rw [hl, List.getLast_eq_getElem]; congr 1; omega
        rw [← hl] at hrow
        have HJS : Hid (jn (ys.take (k + 1)) = if crI l ⟨x0, x1, x2⟩ = 0 then js.dropLast ++ [⟨l.addr, l.bits, orI l.flags x2⟩] else js ++ [⟨x0, x1, x2⟩]) := by
          show _ = _
          rw [HJ.out, jnS_last js hne, hlast]
        have HDL : Hid (js.dropLast ++ [⟨l.addr, l.bits, orI l.flags x2⟩] = js.set m ⟨l.addr, l.bits, orI l.flags x2⟩) := by
          show _ = _
          exact drop_set js m _ (by have := HO0.2; omega)
        have HLm : Hid (js[m]? = some l) := by show _ = _; rw [List.getElem?_eq_getElem hmj, hl]
        obtain ⟨l0, l1', l2⟩ := l
        have t0 := hrow 0 _ rfl
        have t1 := hrow 1 _ rfl
        have t2 := hrow 2 _ rfl
        simp [Addr.add] at t0 t1 t2
        have HOJ : Hid (OR wr w.heap.size 26 3 (.slice (some ⟨g, 0, none⟩) M jc) (js.map ruL) ∧ M = js.length ∧ m < js.length ∧ js.length ≤ 1000) := ⟨HO0.1, HO0.2, hmj, by have := HO0.2; have := HL.out.2; omega⟩
        have s0 : ∀ o, (wr.alloc o).cell? ⟨g, m * 3, none⟩ = some (.int .u32 l0) := fun o => by rw [World.cell?_alloc_lt _ _ _ hg2]; exact t0
        have s1 : ∀ o, (wr.alloc o).cell? ⟨g, m * 3 + 1, none⟩ = some (.int .i64 l1') := fun o => by rw [World.cell?_alloc_lt _ _ _ hg2]; exact t1
        have s2 : ∀ o, (wr.alloc o).cell? ⟨g, m * 3 + 2, none⟩ = some (.int .i64 l2) := fun o => by rw [World.cell?_alloc_lt _ _ _ hg2]; exact t2
        obtain ⟨C, hC⟩ : ∃ C, C = crI ⟨l0, l1', l2⟩ ⟨x0, x1, x2⟩ := ⟨_, rfl⟩
        have HCR : Hid (∀ u, Calls Try.prog 29 #[.agg #[.int .u32 l0, .int .i64 l1', .int .i64 l2], .agg #[.int .u32 x0, .int .i64 x1, .int .i64 x2]] u fun e w' => e = .returned (.int .i64 C) ∧ ∃ q os', w' = grow (u.drewN q) os') := fun u => by rw [hC]; exact ranges_any ⟨l0, l1', l2⟩ ⟨x0, x1, x2⟩ u
        rw [← hC] at HJS
        have HGN : Hid (g ≠ wr.heap.size) := by show _ ≠ _; omega
        have HG2 : Hid (w.heap.size ≤ g ∧ g < wr.heap.size) := ⟨hg1, hg2⟩
        clear hC HO0 hO hjs hm hmj hrow hl hlast t0 t1 t2 HJ hM0 hc' hne
        by_cases hC0 : C = 0
        · subst hC0
          go_wp2_with (refine step_ldat 26 _ (by rfl) (by rfl) A (by rfl) [.int .u32 x0, .int .i64 x1, .int .i64 x2] _ Try.underlying26 (by rfl) ru_info ?_ ?_; exact HC.out)
          go_region_with (go_at_call 29; refine (HCR.out _).mono ?_; rintro e w1 ⟨rfl, q1, os1, rfl⟩)
          all_goals
            generalize hU : grow _ _ = U
            have HBA : Hid (Below (wr.alloc (Obj.cells #[.int .u32 x0, .int .i64 x1, .int .i64 x2] 26)).heap.size (wr.alloc (Obj.cells #[.int .u32 x0, .int .i64 x1, .int .i64 x2] 26)) U) := by
              rw [← hU]
              first
              | exact ((Below.refl _ _).drew).trans (below_grow _ _ _)
              | exact below_grow _ _ _
            have HBU : Hid (Below w.heap.size w U) := (HB1.out _).trans (HBA.out.mono (by have := hB.out.size; simp; omega))
            have HOU : Hid (OR U w.heap.size 26 3 (.slice (some ⟨g, 0, none⟩) M jc) (js.map ruL)) := (HOJ.out.1.alloc _).below HBA.out (Nat.le_refl _)
            have r0 : U.cell? ⟨wr.heap.size, 0, none⟩ = some (.int .u32 x0) := by rw [HBA.out.cell (p := ⟨wr.heap.size, 0, none⟩) (by simp)]; simp
            have r1 : U.cell? ⟨wr.heap.size, 1, none⟩ = some (.int .i64 x1) := by rw [HBA.out.cell (p := ⟨wr.heap.size, 1, none⟩) (by simp)]; simp
            have r2 : U.cell? ⟨wr.heap.size, 2, none⟩ = some (.int .i64 x2) := by rw [HBA.out.cell (p := ⟨wr.heap.size, 2, none⟩) (by simp)]; simp
            have y0 : U.cell? ⟨g, m * 3, none⟩ = some (.int .u32 l0) := by rw [HBA.out.cell (p := ⟨g, m * 3, none⟩) (by have := HG2.out; simp; omega)]; exact s0 _
            have y2 : U.cell? ⟨g, m * 3 + 2, none⟩ = some (.int .i64 l2) := by rw [HBA.out.cell (p := ⟨g, m * 3 + 2, none⟩) (by have := HG2.out; simp; omega)]; exact s2 _
            have hfu : ∀ j, U.frozen? ⟨g, j, none⟩ = false := fun j => HOU.out.frozen j
            clear hU
            have HJM : Hid (jn (ys.take (k + 1)) = js.set m ⟨l0, l1', orI l2 x2⟩) := by
              show _ = _
              rw [HJS.out, if_pos (by trivial)]; exact HDL.out
            go_wp2
            go_region
            all_goals
              go_wp2
              have h9 := HOU.out.cellSet0 (i := m) (by rw [List.length_map]; exact HOJ.out.2.2.1) 2 (by decide) (.int .i64 (orI l2 x2))
              have e9 : (js.map ruL).set m (((js.map ruL).getD m []).set 2 (.int .i64 (orI l2 x2))) = (jn (ys.take (k + 1))).map ruL := by
                rw [HJM.out, List.map_set, List.getD_eq_getElem?_getD, List.getElem?_map, HLm.out]; rfl
              rw [e9] at h9
              have hMl : M = (jn (ys.take (k + 1))).length := by rw [HJM.out, List.length_set]; exact HOJ.out.2.1
              have hbl : Below w.heap.size w (U.setCell ⟨g, m * 3 + 2, none⟩ (.int .i64 (orI l2 x2))) := HBU.out.setCell HG2.out.1 _
              first
              | exact ⟨⟨k + 1, M, some ⟨g, 0, none⟩, jc, by go_num, rfl, by omega, by omega, ⟨h9.1, hMl⟩, hbl⟩, by simp [intOf]; omega⟩
              | exact ⟨⟨k + 1, M, some ⟨g, 0, none⟩, jc, by go_num, rfl, by omega, by omega, ⟨h9.1.drew, hMl⟩, hbl.drew⟩, by simp [intOf]; omega⟩
        · have hC0' : (C == 0) = false := by simpa using hC0
          have HJ0 : Hid (jn (ys.take (k + 1)) = js ++ [⟨x0, x1, x2⟩]) := by
            show _ = _
            rw [HJS.out, if_neg hC0]
          clear HJS
          go_wp2_with (refine step_ldat 26 _ (by rfl) (by rfl) A (by rfl) [.int .u32 x0, .int .i64 x1, .int .i64 x2] _ Try.underlying26 (by rfl) ru_info ?_ ?_; exact HC.out)
          go_region_with (go_at_call 29; refine (HCR.out _).mono ?_; rintro e w1 ⟨rfl, q1, os1, rfl⟩)
          all_goals
            generalize hU : grow _ _ = U
            have HBA : Hid (Below (wr.alloc (Obj.cells #[.int .u32 x0, .int .i64 x1, .int .i64 x2] 26)).heap.size (wr.alloc (Obj.cells #[.int .u32 x0, .int .i64 x1, .int .i64 x2] 26)) U) := by
              rw [← hU]
              first
              | exact ((Below.refl _ _).drew).trans (below_grow _ _ _)
              | exact below_grow _ _ _
            have HBU : Hid (Below w.heap.size w U) := (HB1.out _).trans (HBA.out.mono (by have := hB.out.size; simp; omega))
            have HOU : Hid (OR U w.heap.size 26 3 (.slice (some ⟨g, 0, none⟩) M jc) (js.map ruL)) := (HOJ.out.1.alloc _).below HBA.out (Nat.le_refl _)
            have r0 : U.cell? ⟨wr.heap.size, 0, none⟩ = some (.int .u32 x0) := by rw [HBA.out.cell (p := ⟨wr.heap.size, 0, none⟩) (by simp)]; simp
            have r1 : U.cell? ⟨wr.heap.size, 1, none⟩ = some (.int .i64 x1) := by rw [HBA.out.cell (p := ⟨wr.heap.size, 1, none⟩) (by simp)]; simp
            have r2 : U.cell? ⟨wr.heap.size, 2, none⟩ = some (.int .i64 x2) := by rw [HBA.out.cell (p := ⟨wr.heap.size, 2, none⟩) (by simp)]; simp
            have y0 : U.cell? ⟨g, m * 3, none⟩ = some (.int .u32 l0) := by rw [HBA.out.cell (p := ⟨g, m * 3, none⟩) (by have := HG2.out; simp; omega)]; exact s0 _
            have y2 : U.cell? ⟨g, m * 3 + 2, none⟩ = some (.int .i64 l2) := by rw [HBA.out.cell (p := ⟨g, m * 3 + 2, none⟩) (by have := HG2.out; simp; omega)]; exact s2 _
            have hfu : ∀ j, U.frozen? ⟨g, j, none⟩ = false := fun j => HOU.out.frozen j
            clear hU
            have HLN : Hid ((js.map ruL).length + [[Value.int .u32 x0, .int .i64 x1, .int .i64 x2]].length ≤ maxLen ∧ ((js.map ruL).length + [[Value.int .u32 x0, .int .i64 x1, .int .i64 x2]].length) * 24 ≤ 140737488355328 ∧ w.heap.size ≤ U.heap.size + 1) := by
              refine ⟨?_, ?_, Nat.le_succ_of_le HBU.out.size⟩
              · rw [List.length_map]; simp; have := HOJ.out.2.2.2; unfold maxLen; omega
              · rw [List.length_map]; simp; have := HOJ.out.2.2.2; omega
            go_wp2_with (refine wpList_appk tiRu (by rfl) _ _ (by rfl) w.heap.size (U.heap.size + 1) (.slice (some ⟨g, 0, none⟩) M jc) (.slice (some ⟨U.heap.size, 0, none⟩) 1 1) (js.map ruL) [[.int .u32 x0, .int .i64 x1, .int .i64 x2]] (by rfl) (by rfl) (HOU.out.alloc _) (rk_one3 _ _ _ _ _) (ra_one _) (by intro r hr; rw [List.mem_singleton] at hr; rw [hr]; rfl) (by intro r hr u hu; rw [List.mem_singleton] at hr; rw [hr] at hu; exact one_ru _ _ _ u hu) HLN.out.1 HLN.out.2.1 (by simpa using HLN.out.2.2) ?_)
            intro v2 w2 ho2 hg2 hv2
            have HB2 : Hid (Below w.heap.size w w2) := (HBU.out.alloc HBU.out.size _).grown hg2 (by have := HBU.out.size; simp; omega) (fun q hq => (HOU.out.row.lt q hq).1)
            have ho3 : OR w2 w.heap.size 26 3 v2 ((jn (ys.take (k + 1))).map ruL) := by
              rw [HJ0.out, List.map_append]
              simpa [ruL] using ho2
            obtain ⟨jo2, jc2, hv3, -, -⟩ := ho3.rk
            rw [List.length_map] at hv3
            obtain ⟨M2, hM2⟩ : ∃ M2, M2 = (jn (ys.take (k + 1))).length := ⟨_, rfl⟩
            rw [← hM2] at hv3
            subst hv3
            have HO2 : Hid (OR w2 w.heap.size 26 3 (.slice jo2 M2 jc2) ((jn (ys.take (k + 1))).map ruL) ∧ M2 = (jn (ys.take (k + 1))).length) := ⟨ho3, hM2⟩
            have hMk : (M2 : Int) ≤ k + 1 := by
              have := jn_len (ys.take (k + 1))
              rw [← hM2, List.length_take] at this
              omega
            clear ho2 ho3 hg2 hv2 hM2
            go_wp2
            exact ⟨⟨k + 1, M2, jo2, jc2, by go_num, rfl, by omega, by omega, HO2, HB2⟩, by simp [intOf]; omega⟩
    · go_wp2
      go_ret
      have e : k = ys.length := by have := HL.out.1; omega
      have h1 := hO.out.1
      rw [e, List.take_length] at h1
      exact ⟨_, rfl, h1, hB.out⟩
end Go.Proofs.Ytmgphfdieekpdaa
