/- assoc: the reference's has, drop. -/
import Derived.Test.YtnjdmkgkpdebdaaOB
import Derived.Test.YtnjdmkgkpdebdaaKVa
namespace Go.Proofs.Ytnjdmkgkpdebdaa
open Go Go.RowKit Go.Sort
set_option linter.unusedVariables false
theorem OR.ownlt {w : World} {B : Nat} {e : TypeId} {k : Nat} {v : Value} {rows : List (List Value)} (h : OR w B e k v rows) : ∀ b, v.ownBlock = some b → B ≤ b ∧ b < w.heap.size := by
  intro b hb
  rcases h.row.2 with ⟨h1, _⟩ | ⟨g, cap, cur, h1, h2, h3, _⟩
  · rw [h1] at hb; cases hb
  · rw [h1] at hb
    simp only [Value.ownBlock] at hb
    injection hb with hb
    subst hb
    refine ⟨h2, ?_⟩
    rcases Nat.lt_or_ge g w.heap.size with h | h
    · exact h
    · rw [Array.getElem?_eq_none h] at h3; cases h3
/-- two rows apart -/
def Dj (v u : Value) : Prop := u.ownBlock = none ∨ u.ownBlock ≠ v.ownBlock
theorem Dj.symm {v u : Value} (h : Dj v u) : Dj u v := by
  unfold Dj at *
  rcases h with h | h
  · cases hv : v.ownBlock with
    | none => exact .inl rfl
    | some b => exact .inr (by rw [h]; simp)
  · exact .inr (Ne.symm h)
/-- appended to one, beside another -/
theorem step_ap2 {t e e2 : TypeId} {k k2 by' : Nat} (T : TI t e k by') {w : World} {ops : Array Oper} {rest : List Oper} {o : Oper} {a : Act} {Q : Exit → Act → World → Prop} (hgd : o.guard = none) (s x : Operand)
    (ho : o.op = .call { callee := .builtin .append, args := #[s, x], argTypes := #[t, t] })
    (B g : Nat) (v v2 : Value) (r : List Value) (hs : a.eval s = v) (hx : a.eval x = .slice (some ⟨g, 0, none⟩) 1 1) (hlen : r.length = k) (h1 : ∀ u ∈ r, u.oneCell' = true) (w0 : World) (rows rows2 : List (List Value)) (hl : rows.length + 1 ≤ maxLen) (hby : (rows.length + 1) * by' ≤ 140737488355328) (hown : OR w0 B e k v rows) (hown2 : OR w0 B e2 k2 v2 rows2) (hd : Dj v v2) (hn : Nw w0 w g r.toArray e) (hbase : B ≤ w0.heap.size)
    (h : ∀ v' W, Hid (OR W B e k v' (rows ++ [r]) ∧ OR W B e2 k2 v2 rows2 ∧ Dj v' v2 ∧ Below B w0 W) → wpList Try.prog ops Q rest (a.put o.dst v') W) : wpList Try.prog ops Q (o :: rest) a w := by
  have hs1 := hn.be.size
  refine wpList_appk T hgd s x ho B w.heap.size v _ rows [r] hs hx (hown.below hn.be (Nat.le_refl _)) (hn.rk hlen) (fun n c hh => by injection hh with hh; cases hh) (fun y hy => by simp at hy; rw [hy]; exact hlen) (fun y hy u hu => by simp at hy; subst hy; exact h1 u hu) hl hby (by omega) fun v' W h2 h3 h4 => ?_
  have o2 := hown2.below hn.be (Nat.le_refl _)
  refine h v' W ⟨h2, ⟨o2.row.kept h3 hd, o2.len⟩, ?_, (hn.be.mono hbase).trans (below_own h3 (by omega) hown.own)⟩
  rcases h4 with h4 | h4
  · unfold Dj; rw [h4]; exact hd
  · cases hv : v2.ownBlock with
    | none => exact .inl hv
    | some b =>
      refine .inr ?_
      rw [hv, h4]
      have := (o2.ownlt b hv).2
      intro e
      injection e with e
      omega
theorem ix_in {ao : Option Addr} {ad : Addr} (n cap k : Nat) (h : ao = some ad) (hk : (k : Int) < n) (w : World) : Sem.run Try.prog (Instr.indexAt 24 (.slice ao n cap) (.int .i64 (k : Int))) w = .ok (.pointer (some (ad.add k))) w := by
  have u' := Try.underlying24
  have c3 : Try.prog.cellsOf 3 = 1 := by kernel_rfl
  have h0 : (0 : Int) ≤ k := Int.natCast_nonneg k
  subst h
  go_simp
/-- numbers that a slice holds -/
theorem ints_read {N : Nat} {w : World} {v : Value} {xs : List Int} (h : Rk N w 1 v (intL xs)) : ∃ ao cap, v = .slice ao xs.length cap ∧ ∀ i n, xs[i]? = some n → ∃ ad, ao = some ad ∧ ad.block < N ∧ w.cell? (ad.add i) = some (.int .i64 n) := by
  obtain ⟨ao, cap, hv, _, hr⟩ := h
  unfold intL at hv hr
  rw [List.length_map] at hv hr
  refine ⟨ao, cap, hv, fun i n hn => ?_⟩
  have hi : i < xs.length := by
    rcases Nat.lt_or_ge i xs.length with h | h
    · exact h
    · rw [List.getElem?_eq_none h] at hn; cases hn
  obtain ⟨ad, k1, k2, k3⟩ := hr i hi
  refine ⟨ad, k1, k2, ?_⟩
  have := k3 0 (.int .i64 n) (by rw [List.getD_eq_getElem?_getD, List.getElem?_map, hn]; rfl)
  simpa using this
set_option maxRecDepth 20000 in
set_option maxHeartbeats 1000000 in
theorem has_any (v : Value) (xs : List Int) (n : Int) (w : World) (N : Nat) (h : Rk N w 1 v (intL xs)) (hl : xs.length ≤ 1000000) : Calls Try.prog 57 #[v, .int .i64 n] w fun e w' => e = .returned (.bool (decide (n ∈ xs))) ∧ w' = w := by
  obtain ⟨ao, cap, hv, hr⟩ := ints_read h
  have HR : Hid (∀ i n, xs[i]? = some n → ∃ ad, ao = some ad ∧ ad.block < N ∧ w.cell? (ad.add i) = some (.int .i64 n)) := hr
  obtain ⟨L, hL⟩ : ∃ L, xs.length = L := ⟨_, rfl⟩
  rw [hL] at hv hl
  subst hv
  have HN : Hid (xs.length = L) := hL
  have hl2 : (L : Int) ≤ 1000000 := by omega
  clear h hr hL hl
  go_enter Try.func57, Try.ntmps57
  refine post_hid fun Q hQ => ?_
  go_wp2_with fail
  go_loopw [9] (fun i wr => ∃ (k : Nat), i = .int .i64 k ∧ (k : Int) ≤ L ∧ wr = w ∧ Hid (n ∉ xs.take k)) (fun i _ => L - (intOf i).toNat)
  case atStart => exact ⟨0, rfl, by omega, rfl, (List.not_mem_nil : n ∉ ([] : List Int))⟩
  case round =>
    obtain ⟨k, rfl, hk, hwr, HB⟩ := hrel
    by_cases hlt : (k : Int) < L
    · have hkl : k < xs.length := by rw [HN.out]; omega
      obtain ⟨y, hy⟩ : ∃ y, xs[k]? = some y := ⟨_, List.getElem?_eq_getElem hkl⟩
      obtain ⟨ad, g1, _, g3⟩ := HR.out k y hy
      have hix := ix_in L cap k g1 hlt
      have HY : Hid (xs[k]? = some y ∧ xs.take (k + 1) = xs.take k ++ [y]) := ⟨hy, by rw [List.take_succ_eq_append_getElem hkl]; rw [List.getElem?_eq_getElem hkl] at hy; rw [Option.some.inj hy]⟩
      clear g1 hy hkl
      by_cases he : y = n
      · rw [he] at g3
        go_wp2_with fail
        rw [hQ.out]
        go_ret
        exact ⟨ret_bool' (by rw [decide_eq_true]; rw [← he]; exact List.mem_of_getElem? HY.out.1), by first | rfl | trivial⟩
      · have he2 : (y == n) = false := by simpa using he
        go_wp2_with fail
        go_roundw
        case rel =>
          refine ⟨k + 1, by go_num, by omega, by first | rfl | trivial, ?_⟩
          show _ ∉ _
          rw [HY.out.2]
          intro hm
          rcases List.mem_append.1 hm with hm | hm
          · exact HB.out hm
          · simp at hm; exact he hm.symm
        case measure => simp [intOf]; omega
    · have HE : Hid (xs.take k = xs) := List.take_of_length_le (by rw [HN.out]; omega)
      go_wp2_with fail
      rw [hQ.out]
      go_ret
      refine ⟨ret_bool' ?_, by first | rfl | trivial⟩
      have h1 := HB.out
      rw [HE.out] at h1
      rw [decide_eq_false h1]
def drRest (xs : List Int) (l : List Mb) : List Mb := l.filter (fun m => !decide (m.id ∈ xs))
def drGone (xs : List Int) (l : List Mb) : List Int := (l.filter (fun m => decide (m.id ∈ xs))).map (·.id)
theorem filt_len {α : Type} (p : α → Bool) (l : List α) : (l.filter p).length ≤ l.length := List.length_filter_le _ _
set_option maxRecDepth 20000 in
set_option maxHeartbeats 2000000 in
theorem rdrop_any (d B : Nat) (l : List Mb) (v : Value) (xs : List Int) (w : World) (h : Rt w d B l) (hx : Rk w.heap.size w 1 v (intL xs)) (hl : xs.length ≤ 1000000) (hB : B ≤ w.heap.size) : Calls Try.prog 52 #[.pointer (some ⟨d, 0, none⟩), v] w fun e w' => ∃ u, e = .returned u ∧ Hid (OR w' w.heap.size 3 1 u (intL (drGone xs l))) ∧ Hid (Rt w' d B (drRest xs l)) ∧ Hid (w.grownBy w' (some d)) := by
  obtain ⟨ao, cap, hb, hr⟩ := h.read
  have HR : Hid (∀ w', Below w.heap.size w w' → ∀ i m, l[i]? = some m → ∃ ad, ao = some ad ∧ ∀ j u, (mbL m)[j]? = some u → w'.cell? ((ad.add (i * 16)).add j) = some u) := hr
  have HX : Hid (Rk w.heap.size w 1 v (intL xs) ∧ xs.length ≤ 1000000 ∧ B ≤ w.heap.size ∧ l.length ≤ 16 ∧ d < w.heap.size) := ⟨hx, hl, hB, h.len, hb.lt⟩
  obtain ⟨n, hn⟩ : ∃ n, l.length = n := ⟨_, rfl⟩
  have HN : Hid (l.length = n) := hn
  have hn16 : (n : Int) ≤ 16 := by have := h.len; omega
  rw [hn] at hb
  have HD0 : Hid (Bk d w #[.slice ao n cap] 80) := hb
  have c0 : w.cell? ⟨d, 0, none⟩ = some (.slice ao n cap) := hb.cell 0
  clear h hr hn hb hx hl hB
  go_enter Try.func52, Try.ntmps52
  refine post_hid fun Q hQ => ?_
  go_wp2_with fail
  go_loopw [5, 6, 14] (fun v5 v6 i wr => ∃ (k : Nat), i = .int .i64 k ∧ (k : Int) ≤ n ∧ Hid (OR wr w.heap.size 83 16 v5 ((drRest xs (l.take k)).map mbL) ∧ OR wr w.heap.size 3 1 v6 (intL (drGone xs (l.take k))) ∧ Dj v5 v6 ∧ Below w.heap.size w wr)) (fun _ _ i _ => n - (intOf i).toNat)
  case atStart => exact ⟨0, rfl, by omega, ⟨OR.nil _ _ _ _, OR.nil _ _ _ _, .inl rfl, Below.refl _ _⟩⟩
  case round =>
    obtain ⟨k, rfl, hk, HB⟩ := hrel
    obtain ⟨v5, hv5⟩ : ∃ v, v = u5 := ⟨_, rfl⟩
    obtain ⟨v6, hv6⟩ : ∃ v, v = u6 := ⟨_, rfl⟩
    subst hv5 hv6
    by_cases hlt : (k : Int) < n
    · have hkl : k < l.length := by rw [HN.out]; omega
      obtain ⟨m, hm⟩ : ∃ m, l[k]? = some m := ⟨_, List.getElem?_eq_getElem hkl⟩
      obtain ⟨ad, g1, g3⟩ := HR.out wr HB.out.2.2.2 k m hm
      have hix := ix_rw n cap k g1 hlt
      have HS : Hid (∀ j u, (mbL m)[j]? = some u → wr.cell? ((ad.add (k * 16)).add j) = some u) := g3
      have HK : Hid (l.take (k + 1) = l.take k ++ [m]) := by
        show _ = _
        rw [List.take_succ_eq_append_getElem hkl]
        rw [List.getElem?_eq_getElem hkl] at hm
        rw [Option.some.inj hm]
      have HL5 : Hid (((drRest xs (l.take k)).map mbL).length ≤ 16 ∧ (intL (drGone xs (l.take k))).length ≤ 16) := by
        unfold drRest drGone intL
        have h1 := filt_len (fun m : Mb => !decide (m.id ∈ xs)) (l.take k)
        have h2 := filt_len (fun m : Mb => decide (m.id ∈ xs)) (l.take k)
        rw [List.length_take] at h1 h2
        refine ⟨?_, ?_⟩
        · rw [List.length_map]; omega
        · rw [List.length_map, List.length_map]; omega
      clear g1 g3 hm hkl
      go_upto_region 6 with (first
        | (refine step_ldat 83 _ rfl rfl (ad.add (k * 16)) (by rfl) (mbL m) _ Try.underlying83 rfl (by kernel_rfl) HS.out ?_)
        | (refine step_alL (by rfl) 83 rfl (mbL zMb).toArray (fun u => by kernel_rfl) ?_; intro w3 g H3)
        | (refine step_stL (by rfl) _ _ rfl g (mbL m).toArray (by rfl) (by rfl) (mbL zMb).toArray (by kernel_rfl) (by kernel_rfl) (by kernel_rfl) H3.out.bk ?_; intro w4 H4))
      have H5 : Hid (OR w4 w.heap.size 83 16 v5 ((drRest xs (l.take k)).map mbL) ∧ OR w4 w.heap.size 3 1 v6 (intL (drGone xs (l.take k))) ∧ Dj v5 v6 ∧ Below w.heap.size w w4 ∧ Bk g w4 (mbL m).toArray 83) := by
        have hb := H4.out.below H3.out.be H3.out.be.size (Nat.le_of_eq H3.out.at'.symm)
        exact ⟨HB.out.1.below hb (Nat.le_refl _), HB.out.2.1.below hb (Nat.le_refl _), HB.out.2.2.1, below_thru HB.out.2.2.2 hb, H4.out.bk⟩
      clear H3 H4 HS HB
      have d0 : w4.cell? ⟨g, 0, none⟩ = some (.int .i64 m.id) := H5.out.2.2.2.2.cell 0
      obtain ⟨X, hX⟩ : ∃ X, decide (m.id ∈ xs) = X := ⟨_, rfl⟩
      have CH : Hid (Calls Try.prog 57 #[v, .int .i64 m.id] w4 fun e w' => e = .returned (.bool X) ∧ w' = w4) := by
        rw [← hX]
        exact has_any v xs m.id w4 w.heap.size (HX.out.1.below H5.out.2.2.2.1 (Nat.le_refl _)) HX.out.2.1
      have HXX : Hid (decide (m.id ∈ xs) = X) := hX
      have HSm : Hid (∀ j u, (mbL m)[j]? = some u → w4.cell? ((⟨g, 0, none⟩ : Addr).add j) = some u) := cells_of (l := mbL m) H5.out.2.2.2.2
      clear hX
      cases X
      · have HF : Hid (drRest xs (l.take (k + 1)) = drRest xs (l.take k) ++ [m] ∧ drGone xs (l.take (k + 1)) = drGone xs (l.take k)) := by
          show _ ∧ _
          rw [HK.out]
          unfold drRest drGone
          rw [List.filter_append, List.filter_append, List.filter_cons, List.filter_cons, HXX.out]
          simp
        go_wp2_with (first
          | (go_at_call 57; refine CH.out.mono ?_; rintro e w5 ⟨rfl, hw5⟩; rw [hw5]; clear hw5)
          | (refine step_ldat 83 _ rfl rfl ⟨g, 0, none⟩ (by rfl) (mbL m) _ Try.underlying83 rfl (by kernel_rfl) HSm.out ?_)
          | (refine step_bsL (by rfl) 78 83 _ rfl (.agg (mbL m).toArray) (mbL m) (by rfl) (run_bsRw m) ?_; intro w6 g6 H6)
          | (at_builtin; refine step_ap2 tiRw rfl _ _ rfl w.heap.size g6 v5 v6 (mbL m) (by rfl) (by rfl) rfl (mbL_one m) w4 _ _ ?_ ?_ H5.out.1 H5.out.2.1 H5.out.2.2.1 H6.out H5.out.2.2.2.1.size ?_; (have := HL5.out.1; simp only [maxLen]; omega); (have := HL5.out.1; omega); intro v7 w7 H7))
        go_roundw
        case rel =>
          refine ⟨k + 1, by go_num, by omega, ⟨?_, ?_, H7.out.2.2.1, H5.out.2.2.2.1.trans H7.out.2.2.2⟩⟩
          · rw [HF.out.1, List.map_append]; exact H7.out.1
          · rw [HF.out.2]; exact H7.out.2.1
        case measure => simp [intOf]; omega
      · have HF : Hid (drRest xs (l.take (k + 1)) = drRest xs (l.take k) ∧ drGone xs (l.take (k + 1)) = drGone xs (l.take k) ++ [m.id]) := by
          show _ ∧ _
          rw [HK.out]
          unfold drRest drGone
          rw [List.filter_append, List.filter_append, List.filter_cons, List.filter_cons, HXX.out]
          simp
        go_wp2_with (first
          | (go_at_call 57; refine CH.out.mono ?_; rintro e w5 ⟨rfl, hw5⟩; rw [hw5]; clear hw5)
          | (refine step_bsL (by rfl) 24 3 _ rfl (.int .i64 m.id) [.int .i64 m.id] (by rfl) (run_bsI m.id) ?_; intro w6 g6 H6)
          | (at_builtin; refine step_ap2 tiI rfl _ _ rfl w.heap.size g6 v6 v5 [.int .i64 m.id] (by rfl) (by rfl) rfl (by intro u hu; simp at hu; rw [hu]; rfl) w4 _ _ ?_ ?_ H5.out.2.1 H5.out.1 H5.out.2.2.1.symm H6.out H5.out.2.2.2.1.size ?_; (have := HL5.out.2; simp only [maxLen]; omega); (have := HL5.out.2; omega); intro v7 w7 H7))
        go_roundw
        case rel =>
          refine ⟨k + 1, by go_num, by omega, ⟨?_, ?_, H7.out.2.2.1.symm, H5.out.2.2.2.1.trans H7.out.2.2.2⟩⟩
          · rw [HF.out.1]; exact H7.out.2.1
          · rw [HF.out.2]; unfold intL at H7 ⊢; rw [List.map_append]; exact H7.out.1
        case measure => simp [intOf]; omega
    · have HE : Hid (l.take k = l) := List.take_of_length_le (by rw [HN.out]; omega)
      obtain ⟨w5, hw5⟩ : ∃ w5, w5 = wr := ⟨_, rfl⟩
      subst hw5
      have HB2 : Hid (OR w5 w.heap.size 83 16 v5 ((drRest xs l).map mbL) ∧ OR w5 w.heap.size 3 1 v6 (intL (drGone xs l)) ∧ Below w.heap.size w w5) := by
        have h1 := HB.out
        rw [HE.out] at h1
        exact ⟨h1.1, h1.2.1, h1.2.2.2⟩
      have HD1 : Hid (Bk d w5 #[.slice ao n cap] 80) := HD0.out.kept (HB2.out.2.2.block _ HD0.out.lt)
      obtain ⟨o5, n5, p5, hv5⟩ : ∃ o n p, v5 = .slice o n p := by
        obtain ⟨o, p, h⟩ := or_len HB2.out.1
        exact ⟨o, _, p, h⟩
      subst hv5
      clear c0 HB HD0
      go_wp2_with (refine step_st1 (by rfl) _ _ rfl d 0 (.slice o5 n5 p5) (by rfl) (by rfl) rfl (by kernel_rfl) rfl [.slice ao n cap] (by simp) HD1.out ?_; intro w6 H6)
      rw [hQ.out]
      go_ret
      have dlt := HX.out.2.2.2.2
      have ne : ∀ (e : TypeId) (k : Nat) (u : Value) (rows : List (List Value)), OR w5 w.heap.size e k u rows → u.ownBlock ≠ some d := fun e k u rows ho he => by
        have := (ho.ownlt d he).1
        omega
      refine ⟨v6, rfl, HB2.out.2.1.mod H6.out.gr (ne _ _ _ _ HB2.out.2.1), ⟨⟨_, H6.out.bk, (HB2.out.1.mod H6.out.gr (ne _ _ _ _ HB2.out.1)).mono HX.out.2.2.1, fun b hb => ?_⟩, ?_⟩, grownBy_trans (grownBy_below HB2.out.2.2 _) H6.out.gr⟩
      · have := (HB2.out.1.ownlt b hb).1
        omega
      · have h1 := filt_len (fun m : Mb => !decide (m.id ∈ xs)) l
        have h2 := HX.out.2.2.2.1
        unfold drRest
        omega
end Go.Proofs.Ytnjdmkgkpdebdaa
