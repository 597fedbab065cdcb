/- The law FixedRoots returns true, whatever number and slice it is given, and writes nothing that was there. -/
import Derived.Test.YtofpiagiadgklaaRRms
import Derived.WalkKit
import Derived.WalkSpells
import Derived.WalkLawsBesides
import Derived.Handy
import Derived.Laws.AppendOwnNone
import Derived.Deep.RegionHeld3
import Derived.Deep.QuietTactic
import Derived.BigQuiet
namespace Go.Proofs.Ytofpiagiadgklaa
open Go.RowKit
theorem info_span : (Try.prog.info? 22).map (fun i => (i.zero, i.size, i.bytes)) = some (some (.int .i64 0), 1, 8) := by kernel_rfl
def nvals (zs : List Int) : List Value := zs.map fun z => .int .i64 z
theorem nvals_len (zs : List Int) : (nvals zs).length = zs.length := by simp [nvals]
theorem nvals_snoc (zs : List Int) (z : Int) : nvals zs ++ [.int .i64 z] = nvals (zs ++ [z]) := by simp [nvals]
theorem wf_bd {z : Int} (h : (Lit.int .i64 z).wf = true) : -9223372036854775808 ≤ z ∧ z ≤ 9223372036854775807 := by
  simp [Lit.wf, IntKind.min, IntKind.max, IntKind.signed, IntKind.bits] at h
  exact h
theorem row_open {w : World} {a : Option Addr} {len cap : Nat} {z : List Int} (h : (a = none ∧ len = 0 ∧ cap = 0 ∧ z = []) ∨ ∃ x, a = some x ∧ len ≤ cap ∧ cap ≤ maxLen ∧ z.length = cap ∧ (∀ i, i < z.length → w.cell? (x.add i) = some (.int .i64 (z.getD i 0))) ∧ ∀ n ∈ z, (Lit.int .i64 n).wf = true) :
    ∃ zs : List Int, zs.length = len ∧ Rs w a zs ∧ okz zs ∧ (a = none → cap = 0) ∧ len ≤ cap ∧ cap ≤ maxLen := by
  obtain ⟨rfl, rfl, rfl, rfl⟩ | ⟨x, rfl, h1, h2, h3, h4, h5⟩ := h
  · exact ⟨[], rfl, fun k hk => absurd hk (by simp), fun z hz => absurd hz (by simp), fun _ => rfl, Nat.le_refl _, by unfold maxLen; omega⟩
  · have hR : Rs w (some x) z := fun k hk => ⟨x, rfl, by have := World.block_lt_of_cell? w _ (h4 k hk); rwa [add_block] at this, h4 k hk⟩
    exact ⟨z.take len, by rw [List.length_take]; omega, hR.take len, okz_take (fun n hn => wf_bd (h5 n hn)) len, fun e => by simp at e, h1, h2⟩
theorem append_rs {P : Program} {w : World} {ops : Array Oper} {rest : List Oper} {o : Oper} {a : Act} {Q : Exit → Act → World → Prop} (hgd : o.guard = none) (s x : Operand) (t : TypeId)
    (ho : o.op = .call { callee := .builtin .append, args := #[s, x], argTypes := #[t, t] })
    (base : Nat) (e : TypeId) (i : TypeInfo) (ht : P.underlying t = some (.slice e)) (hi : P.info? e = some i) (hz : i.zero = some (.int .i64 0))
    (hsize : i.size = 1) (hby : i.bytes = 8)
    (v : Value) (n : Nat) (xs : List Value) (hs : a.eval s = v) (hown : w.ownsRow base e 1 v n xs)
    (ro : Option Addr) (R : List Int) (c : Nat) (hx : a.eval x = .slice ro R.length c) (hR : Rs w ro R) (hN : ro = none → c = 0) (hc : R.length ≤ c)
    (h63 : n + R.length ≤ 1000000) (hbase : base ≤ w.heap.size)
    (h : ∀ v' w', w'.ownsRow base e 1 v' (n + R.length) (xs ++ nvals R) → w.grownBy w' v.ownBlock → wpList P ops Q rest (a.put o.dst v') w') : wpList P ops Q (o :: rest) a w := by
  rcases ro with _ | ad
  · have hc0 := hN rfl
    have hl : R = [] := List.length_eq_zero_iff.1 (by omega)
    subst hl hc0
    refine wpList_append_own_none hgd s x t ho base e i 1 ht hi v n xs hs hown hx ?_
    refine h v w ?_ ⟨rfl, rfl, rfl, Nat.le_refl _, fun _ _ _ => rfl⟩
    simpa [nvals] using hown
  · refine wpList_append_own w hgd s x t ho base e i (.int .i64 0) 1 8 ht hi hz hsize hby rfl (by decide) v n xs hs hown ad R.length c (nvals R) hx (by rw [nvals_len]; omega) ?_ ?_ (by unfold maxLen; omega) (by omega) hbase fun v' w' h1 h2 _ => h v' w' h1 h2
    · intro j u hj
      unfold nvals at hj
      rw [List.getElem?_map] at hj
      by_cases hjl : j < R.length
      · rw [List.getElem?_eq_getElem hjl] at hj
        obtain ⟨b, h1, h2, h3⟩ := hR j hjl
        simp at h1
        subst h1
        rw [h3, List.getD_eq_getElem?_getD, List.getElem?_eq_getElem hjl]
        exact hj
      · rw [List.getElem?_eq_none (by omega)] at hj
        simp at hj
    · intro u hu
      unfold nvals at hu
      obtain ⟨z, _, rfl⟩ := List.mem_map.1 hu
      rfl
theorem add_at (g k : Nat) : (⟨g, 0, none⟩ : Addr).add k = ⟨g, k, none⟩ := by
  unfold Addr.add
  split
  · simp_all
  · simp
theorem own_rs {w : World} {base : Nat} {o : Option Addr} {n c : Nat} {O : List Int} (h : w.ownsRow base 22 1 (.slice o n c) n (nvals O)) : n = O.length ∧ O.length ≤ c ∧ c ≤ maxLen ∧ Rs w o O ∧ New base o c := by
  have h0 := h
  obtain ⟨hl, ⟨h1, h2⟩ | ⟨g, cap, cur, h1, hb, hg, hc, hm, hs, ht⟩⟩ := h
  · rw [nvals_len, Nat.mul_one] at hl
    simp at h1
    obtain ⟨rfl, _, rfl⟩ := h1
    exact ⟨hl.symm, by omega, by unfold maxLen; omega, fun k hk => absurd hk (by omega), fun _ => rfl, fun ad x => by simp at x⟩
  · rw [nvals_len, Nat.mul_one] at hl
    simp at h1
    obtain ⟨rfl, rfl⟩ := h1
    refine ⟨hl.symm, by omega, hm, fun k hk => ⟨_, rfl, (Array.getElem?_eq_some_iff.1 hg).1, ?_⟩, fun x => by simp at x, fun ad x => by simp at x; subst x; exact hb⟩
    have hk' : k < n := by omega
    have e := h0.cellAt k (by omega)
    unfold nvals at e
    rw [List.getElem?_map, List.getElem?_eq_getElem hk] at e
    rw [List.getD_eq_getElem?_getD, List.getElem?_eq_getElem hk]
    rw [add_at]
    simpa using e
theorem cell_new2 (w : World) (d : Int) : ∀ j u, [Value.int .i64 d][j]? = some u → (w.alloc (.cells #[.int .i64 d] 22)).cell? ((⟨w.heap.size, 0, none⟩ : Addr).add j) = some u := by
  intro j u hj
  match j, hj with
  | 0, hj => simp at hj; subst hj; simp [Addr.add]
theorem okz_snoc {zs : List Int} (h : okz zs) (z : Int) (h0 : -9223372036854775808 ≤ z) (h1 : z ≤ 9223372036854775807) : okz (zs ++ [z]) := fun x hx => by
  rcases List.mem_append.1 hx with h2 | h2
  · exact h x h2
  · simp at h2; subst h2; exact ⟨h0, h1⟩
theorem Rs.left {w : World} {o : Option Addr} {zs ys : List Int} (h : Rs w o (zs ++ ys)) : Rs w o zs := by
  have := h.take zs.length
  rwa [List.take_left'] at this
  rfl
theorem Rs.drew {w : World} {o : Option Addr} {zs : List Int} (h : Rs w o zs) (n : Nat) : Rs (w.drewN n) o zs := h
theorem getD_left (zs : List Int) (z : Int) (k : Nat) (h : k < zs.length) : (zs ++ [z]).getD k 0 = zs.getD k 0 := by
  rw [List.getD_eq_getElem?_getD, List.getD_eq_getElem?_getD, List.getElem?_append_left h]
theorem getD_last (zs : List Int) (z : Int) : (zs ++ [z]).getD zs.length 0 = z := by
  rw [List.getD_eq_getElem?_getD, List.getElem?_append_right (Nat.le_refl _)]
  simp
set_option maxHeartbeats 4000000 in
theorem FixedRoots_walk (a0 : Int) (a1 : Option Addr) (len1 cap1 : Nat) (z1 : List Int) (w : World) (w0 : (Lit.int .i64 a0).wf = true) (w1 : (a1 = none ∧ len1 = 0 ∧ cap1 = 0 ∧ z1 = []) ∨ ∃ x, a1 = some x ∧ len1 ≤ cap1 ∧ cap1 ≤ maxLen ∧ z1.length = cap1 ∧ (∀ i, i < z1.length → w.cell? (x.add i) = some (.int .i64 (z1.getD i 0))) ∧ ∀ n ∈ z1, (Lit.int .i64 n).wf = true) :
    Calls Try.prog 7 #[.int .i64 a0, .slice a1 len1 cap1] w fun e w' => e = .returned (.bool true) ∧ Below w.heap.size w w' := by
  obtain ⟨x0, x1⟩ := wf_bd w0
  obtain ⟨zs, rfl, rs, dz, hN, hc, hm⟩ := row_open w1
  have RS : Hid (Rs w a1 zs ∧ okz zs ∧ (a1 = none → cap1 = 0) ∧ zs.length ≤ cap1 ∧ cap1 ≤ maxLen) := ⟨rs, dz, hN, hc, hm⟩
  clear w0 w1 rs dz hN hc hm
  obtain ⟨i0, hi, hz0, hz1, hz2⟩ := info_parts info_span
  by_cases hbig : 65536 < (zs.length : Int)
  · go_enter Try.func7, Try.ntmps7
    go_wp2
    go_ret
    exact ⟨rfl, Below.refl _ _⟩
  · go_enter Try.func7, Try.ntmps7
    go_wp2_with (at_builtin; refine append_rs rfl _ _ 34 rfl w.heap.size 22 i0 Try.underlying34 hi hz0 hz1 hz2 _ _ _ rfl (World.ownsRow_lit w #[] 0 (Nat.le_refl _) (by decide) rfl) a1 zs cap1 rfl (RS.out.1.below ((Below.refl _ _).alloc (Nat.le_refl _) _) (Nat.le_refl _)) RS.out.2.2.1 RS.out.2.2.2.1 (by omega) (by simp) ?_)
    intro v2 w2 hown hgrow
    obtain ⟨so, sc, rfl⟩ := own_shape hown
    have B2 : Below w.heap.size w w2 := ((Below.refl _ _).alloc (Nat.le_refl _) _).grown hgrow (by simp) (fun j hj => by simp [Value.ownBlock] at hj; omega)
    have OW : Hid (w2.ownsRow w.heap.size 22 1 (.slice so zs.length sc) zs.length (nvals zs)) := hown
    have OB : Hid (Below w.heap.size w w2) := B2
    have hsz : w.heap.size ≤ w2.heap.size := B2.size
    clear hown hgrow B2
    go_wp2_with (at_builtin; refine wpList_append_own _ rfl _ _ 34 rfl w.heap.size 22 i0 (.int .i64 0) 1 8 Try.underlying34 hi hz0 hz1 hz2 rfl (by decide) _ _ _ rfl (OW.out.alloc _) ⟨w2.heap.size, 0, none⟩ 1 1 [.int .i64 77] rfl rfl (cell_new2 w2 77) (one_new 77) (by unfold maxLen; omega) (by omega) (by simp; omega) ?_)
    intro v3 w3 hown hgrow hne0
    clear hne0
    obtain ⟨xo, xc, rfl⟩ := own_shape hown
    rw [nvals_snoc] at hown
    have B3 : Below w.heap.size w w3 := (OB.out.alloc hsz _).grown hgrow (by simp; omega) (fun j hj => (OW.out.lt j hj).1)
    obtain ⟨q0, q1, q2, q3, q4⟩ := own_rs hown
    have XS : Hid (Rs w3 xo (zs ++ [77]) ∧ New w.heap.size xo xc ∧ Below w.heap.size w w3 ∧ Rs w3 a1 zs ∧ (zs ++ [77]).length = zs.length + 1) := ⟨q3, q4, B3, RS.out.1.below B3 (Nat.le_refl _), by simp⟩
    rw [List.length_append, List.length_singleton] at q1
    have xc0 : (zs.length : Int) + 1 ≤ xc := by omega
    have xc1 : (xc : Int) ≤ 9223372036854775807 := by unfold maxLen at q2; omega
    clear hown hgrow B3 q0 q1 q2 q3 q4
    go_wp2_with fail
    refine (Root_any a0 _ x1).mono ?_
    rintro e w4 ⟨rfl, k4⟩
    obtain ⟨F, hF⟩ : ∃ F : Int, F = ((Sq.srt (a0.toNat * 4294967296) : Nat) : Int) := ⟨_, rfl⟩
    rw [← hF]
    have X4 : Hid (Rs w4 xo (zs ++ [77]) ∧ Below w.heap.size w w4 ∧ Rs w4 a1 zs ∧ F = ((Sq.srt (a0.toNat * 4294967296) : Nat) : Int)) := ⟨XS.out.1.below k4 (Nat.le_refl _), XS.out.2.2.1.trans (k4.mono XS.out.2.2.1.size), XS.out.2.2.2.1.below k4 (Nat.le_refl _), hF⟩
    clear k4 hF
    go_wp2_with fail
    refine (rRoot_any a0 _ x0 x1).mono ?_
    rintro e w5 ⟨rfl, k5⟩
    rw [← X4.out.2.2.2]
    have X5 : Hid (Rs w5 xo (zs ++ [77]) ∧ Below w.heap.size w w5 ∧ Rs w5 a1 zs) := ⟨X4.out.1.below k5 (Nat.le_refl _), X4.out.2.1.trans (k5.mono X4.out.2.1.size), X4.out.2.2.1.below k5 (Nat.le_refl _)⟩
    clear k5 X4
    go_wp2_with fail
    refine (RMS_any xo zs xc _ (by omega) (by unfold maxLen; omega) X5.out.1.left RS.out.2.1).mono ?_
    rintro e w6 ⟨rfl, k6⟩
    obtain ⟨G, hG⟩ : ∃ G : Int, G = ((Sq.rms zs : Nat) : Int) := ⟨_, rfl⟩
    rw [← hG]
    have X6 : Hid (Rs w6 xo (zs ++ [77]) ∧ Below w.heap.size w w6 ∧ Rs w6 a1 zs ∧ G = ((Sq.rms zs : Nat) : Int)) := ⟨X5.out.1.below k6 (Nat.le_refl _), X5.out.2.1.trans (k6.mono X5.out.2.1.size), X5.out.2.2.below k6 (Nat.le_refl _), hG⟩
    clear k6 X5 hG
    go_wp2_with fail
    refine (rRMS_any a1 zs cap1 _ (by omega) X6.out.2.2.1 RS.out.2.1).mono ?_
    rintro e w7 ⟨rfl, k7⟩
    rw [← X6.out.2.2.2]
    have X7 : Hid (Rs w7 xo (zs ++ [77]) ∧ Rs w7 a1 zs ∧ Below w.heap.size w w7 ∧ okz (zs ++ [77])) := ⟨X6.out.1.below k7 (Nat.le_refl _), X6.out.2.2.1.below k7 (Nat.le_refl _), X6.out.2.1.trans (k7.mono X6.out.2.1.size), okz_snoc RS.out.2.1 77 (by decide) (by decide)⟩
    clear k7 X6
    obtain ⟨ad, y, g1, g2, hy, _, _⟩ := X7.out.1.at X7.out.2.2.2 zs.length (by simp)
    have hy7 : y = 77 := by rw [hy.out, getD_last]
    subst hy7
    have hix : ∀ w, Sem.run Try.prog (Instr.indexAt 34 (.slice xo (zs.length + 1) xc) (.int .i64 (zs.length : Int))) w = .ok (.pointer (some (ad.add zs.length))) w := idx_run2 (zs.length + 1) xc zs.length zs.length g1.out rfl (by omega)
    go_wp2
    clear g2 hix
    go_loopw [6] (fun i wr => ∃ k : Nat, i = .int .i64 (k : Int) ∧ (k : Int) ≤ zs.length ∧ Hid (Rs wr xo (zs ++ [77]) ∧ Rs wr a1 zs ∧ Below w.heap.size w wr)) (fun i _ => zs.length - (intOf i).toNat)
    case atStart => exact ⟨0, rfl, by omega, X7.out.1, X7.out.2.1, X7.out.2.2.1⟩
    case round =>
      obtain ⟨k, rfl, hk, hH⟩ := hrel
      by_cases hlt : (k : Int) < zs.length
      · obtain ⟨pd, p, p1, p2, hp, _, _⟩ := hH.out.1.at X7.out.2.2.2 k (by simp; omega)
        obtain ⟨qd, q, q1, q2, hq, _, _⟩ := hH.out.2.1.at RS.out.2.1 k (by omega)
        have hpq : p = q := by rw [hp.out, hq.out, getD_left zs 77 k (by omega)]
        subst hpq
        have hpx : ∀ w, Sem.run Try.prog (Instr.indexAt 34 (.slice xo (zs.length + 1) xc) (.int .i64 (k : Int))) w = .ok (.pointer (some (pd.add k))) w := idx_run2 (zs.length + 1) xc k k p1.out rfl (by omega)
        have hqx : ∀ w, Sem.run Try.prog (Instr.indexAt 34 (.slice a1 zs.length cap1) (.int .i64 (k : Int))) w = .ok (.pointer (some (qd.add k))) w := idx_run2 zs.length cap1 k k q1.out rfl (by omega)
        go_wp2
        go_quiet (fail)
        go_wp2
        go_roundw
        case rel => exact ⟨k + 1, by go_num, by omega, hH.out.1.drew _, hH.out.2.1.drew _, below_drewN hH.out.2.2 _⟩
        case measure => simp [intOf]; omega
      · go_wp2
        go_ret
        exact ⟨rfl, hH.out.2.2⟩
end Go.Proofs.Ytofpiagiadgklaa
