/- assoc: the reference's table; at, Find, clash, later. -/
import Derived.Test.YtnjdmkgkpdebdaaKW
namespace Go.Proofs.Ytnjdmkgkpdebdaa
open Go Go.RowKit Go.Sort
set_option linter.unusedVariables false
/-- the reference's table in block d: its rows, in blocks from B on -/
structure Rt (w : World) (d B : Nat) (l : List Mb) : Prop where
  ex : ∃ v, Bk d w #[v] 80 ∧ OR w B 83 16 v (l.map mbL) ∧ (∀ b, v.ownBlock = some b → b ≠ d)
  len : l.length ≤ 16
theorem Rt.below {w w' : World} {d B : Nat} {l : List Mb} (h : Rt w d B l) (hb : Below w.heap.size w w') : Rt w' d B l := by
  obtain ⟨v, h1, h2, h3⟩ := h.ex
  exact ⟨⟨v, h1.kept (hb.block _ h1.lt), h2.below hb (Nat.le_refl _), h3⟩, h.len⟩
/-- what is read of it -/
theorem Rt.read {w : World} {d B : Nat} {l : List Mb} (h : Rt w d B l) : ∃ ao cap, Bk d w #[.slice ao l.length cap] 80 ∧ ∀ w', Below w.heap.size w w' → ∀ i m, l[i]? = some m → ∃ ad, ao = some ad ∧ ∀ j u, (mbL m)[j]? = some u → w'.cell? ((ad.add (i * 16)).add j) = some u := by
  obtain ⟨v, h1, h2, _⟩ := h.ex
  obtain ⟨ao, cap, hv, _, hr⟩ := h2.rk
  rw [List.length_map] at hv hr
  subst hv
  refine ⟨ao, cap, h1, fun w' hb i m hm => ?_⟩
  have hi : i < l.length := by
    rcases Nat.lt_or_ge i l.length with h | h
    · exact h
    · rw [List.getElem?_eq_none h] at hm; cases hm
  obtain ⟨ad, k1, k2, k3⟩ := hr i hi
  refine ⟨ad, k1, fun j u hu => ?_⟩
  rw [add_add, hb.cell (p := ad.add (i * 16 + j)) (by rw [add_block]; exact k2)]
  refine k3 j u ?_
  rw [List.getD_eq_getElem?_getD, List.getElem?_map, hm]
  exact hu
theorem ix_rw {ao : Option Addr} {ad : Addr} (n cap k : Nat) (h : ao = some ad) (hk : (k : Int) < n) (w : World) : Sem.run Try.prog (Instr.indexAt 78 (.slice ao n cap) (.int .i64 (k : Int))) w = .ok (.pointer (some (ad.add (k * 16)))) w := by
  have u' := Try.underlying78
  have c3 : Try.prog.cellsOf 83 = 16 := by kernel_rfl
  have h0 : (0 : Int) ≤ k := Int.natCast_nonneg k
  subst h
  go_simp
/-- where a number stands -/
def idF (id : Int) : List Mb → Nat → Int
  | [], _ => -1
  | m :: t, k => if m.id = id then (k : Int) else idF id t (k + 1)
/-- the number of the first one that is so -/
def fdF (p : Mb → Bool) : List Mb → Int
  | [] => 0
  | m :: t => if p m = true then m.id else fdF p t
theorem ldrop {α : Type} {l : List α} {k : Nat} {m : α} (h : l[k]? = some m) : l.drop k = m :: l.drop (k + 1) := by
  have hk : k < l.length := by
    rcases Nat.lt_or_ge k l.length with h' | h'
    · exact h'
    · rw [List.getElem?_eq_none h'] at h; cases h
  rw [List.drop_eq_getElem_cons hk]
  rw [List.getElem?_eq_getElem hk] at h
  rw [Option.some.inj h]
set_option maxRecDepth 20000 in
set_option maxHeartbeats 1000000 in
theorem rat_any (d B : Nat) (l : List Mb) (id : Int) (w : World) (h : Rt w d B l) : Calls Try.prog 50 #[.pointer (some ⟨d, 0, none⟩), .int .i64 id] w fun e w' => e = .returned (.int .i64 (idF id l 0)) ∧ Below w.heap.size w w' := by
  obtain ⟨ao, cap, hb, hr⟩ := h.read
  have HR : Hid (∀ w', Below w.heap.size w w' → ∀ i m, l[i]? = some m → ∃ ad, ao = some ad ∧ ∀ j u, (mbL m)[j]? = some u → w'.cell? ((ad.add (i * 16)).add j) = some u) := hr
  obtain ⟨n, hn⟩ : ∃ n, l.length = n := ⟨_, rfl⟩
  have HN : Hid (l.length = n) := hn
  have hn16 : (n : Int) ≤ 16 := by have := h.len; omega
  rw [hn] at hb
  have c0 : w.cell? ⟨d, 0, none⟩ = some (.slice ao n cap) := hb.cell 0
  clear h hr hn hb
  go_enter Try.func50, Try.ntmps50
  refine post_hid fun Q hQ => ?_
  go_wp2_with fail
  go_loopw [12] (fun i wr => ∃ (k : Nat), i = .int .i64 k ∧ (k : Int) ≤ n ∧ Hid (Below w.heap.size w wr ∧ idF id l 0 = idF id (l.drop k) k)) (fun i _ => n - (intOf i).toNat)
  case atStart => exact ⟨0, rfl, by omega, ⟨Below.refl _ _, rfl⟩⟩
  case round =>
    obtain ⟨k, rfl, hk, HB⟩ := hrel
    by_cases hlt : (k : Int) < n
    · have hkl : k < l.length := by rw [HN.out]; omega
      obtain ⟨m, hm⟩ : ∃ m, l[k]? = some m := ⟨_, List.getElem?_eq_getElem hkl⟩
      obtain ⟨ad, g1, g3⟩ := HR.out wr HB.out.1 k m hm
      have hix := ix_rw n cap k g1 hlt
      have HS : Hid (∀ j u, (mbL m)[j]? = some u → wr.cell? ((ad.add (k * 16)).add j) = some u) := g3
      have HD : Hid (l.drop k = m :: l.drop (k + 1)) := ldrop hm
      clear g1 g3 hm hkl
      go_upto_region 4 with (first
        | (refine step_ldat 83 _ rfl rfl (ad.add (k * 16)) (by rfl) (mbL m) _ Try.underlying83 rfl (by kernel_rfl) HS.out ?_)
        | (refine step_alL (by rfl) 83 rfl (mbL zMb).toArray (fun u => by kernel_rfl) ?_; intro w3 g H3)
        | (refine step_stL (by rfl) _ _ rfl g (mbL m).toArray (by rfl) (by rfl) (mbL zMb).toArray (by kernel_rfl) (by kernel_rfl) (by kernel_rfl) H3.out.bk ?_; intro w4 H4))
      have H5 : Hid (Below w.heap.size w w4 ∧ Bk g w4 (mbL m).toArray 83) := ⟨below_thru HB.out.1 (H4.out.below H3.out.be H3.out.be.size (Nat.le_of_eq H3.out.at'.symm)), H4.out.bk⟩
      clear H3 H4 HS
      have d0 : w4.cell? ⟨g, 0, none⟩ = some (.int .i64 m.id) := H5.out.2.cell 0
      by_cases he : m.id = id
      · rw [he] at d0
        go_wp2_with fail
        rw [hQ.out]
        go_ret
        exact ⟨ret_int' (by rw [HB.out.2, HD.out, idF, if_pos he]), H5.out.1⟩
      · have he2 : (m.id == id) = false := by simpa using he
        go_wp2_with fail
        go_roundw
        case rel => exact ⟨k + 1, by go_num, by omega, ⟨H5.out.1, by rw [HB.out.2, HD.out, idF, if_neg he]⟩⟩
        case measure => simp [intOf]; omega
    · have HE : Hid (l.drop k = []) := List.drop_eq_nil_of_le (by rw [HN.out]; omega)
      go_wp2_with fail
      rw [hQ.out]
      go_ret
      exact ⟨ret_int' (by rw [HB.out.2, HE.out]; rfl), HB.out.1⟩
def fnP (a : Int) (m : Mb) : Bool := decide (m.ac.kind ≠ 6) && decide (m.ac.addr = a)
set_option maxRecDepth 20000 in
set_option maxHeartbeats 1000000 in
theorem rfind_any (d B : Nat) (l : List Mb) (a : Int) (w : World) (h : Rt w d B l) : Calls Try.prog 35 #[.pointer (some ⟨d, 0, none⟩), .int .u32 a] w fun e w' => e = .returned (.int .i64 (fdF (fnP a) l)) ∧ Below w.heap.size w w' := by
  obtain ⟨ao, cap, hb, hr⟩ := h.read
  have HR : Hid (∀ w', Below w.heap.size w w' → ∀ i m, l[i]? = some m → ∃ ad, ao = some ad ∧ ∀ j u, (mbL m)[j]? = some u → w'.cell? ((ad.add (i * 16)).add j) = some u) := hr
  obtain ⟨n, hn⟩ : ∃ n, l.length = n := ⟨_, rfl⟩
  have HN : Hid (l.length = n) := hn
  have hn16 : (n : Int) ≤ 16 := by have := h.len; omega
  rw [hn] at hb
  have c0 : w.cell? ⟨d, 0, none⟩ = some (.slice ao n cap) := hb.cell 0
  clear h hr hn hb
  go_enter Try.func35, Try.ntmps35
  refine post_hid fun Q hQ => ?_
  go_wp2_with fail
  go_loopw [12] (fun i wr => ∃ (k : Nat), i = .int .i64 k ∧ (k : Int) ≤ n ∧ Hid (Below w.heap.size w wr ∧ fdF (fnP a) l = fdF (fnP a) (l.drop k))) (fun i _ => n - (intOf i).toNat)
  case atStart => exact ⟨0, rfl, by omega, ⟨Below.refl _ _, rfl⟩⟩
  case round =>
    obtain ⟨k, rfl, hk, HB⟩ := hrel
    by_cases hlt : (k : Int) < n
    · have hkl : k < l.length := by rw [HN.out]; omega
      obtain ⟨m, hm⟩ : ∃ m, l[k]? = some m := ⟨_, List.getElem?_eq_getElem hkl⟩
      obtain ⟨ad, g1, g3⟩ := HR.out wr HB.out.1 k m hm
      have hix := ix_rw n cap k g1 hlt
      have HS : Hid (∀ j u, (mbL m)[j]? = some u → wr.cell? ((ad.add (k * 16)).add j) = some u) := g3
      have HD : Hid (l.drop k = m :: l.drop (k + 1)) := ldrop hm
      clear g1 g3 hm hkl
      go_upto_region 4 with (first
        | (refine step_ldat 83 _ rfl rfl (ad.add (k * 16)) (by rfl) (mbL m) _ Try.underlying83 rfl (by kernel_rfl) HS.out ?_)
        | (refine step_alL (by rfl) 83 rfl (mbL zMb).toArray (fun u => by kernel_rfl) ?_; intro w3 g H3)
        | (refine step_stL (by rfl) _ _ rfl g (mbL m).toArray (by rfl) (by rfl) (mbL zMb).toArray (by kernel_rfl) (by kernel_rfl) (by kernel_rfl) H3.out.bk ?_; intro w4 H4))
      have H5 : Hid (Below w.heap.size w w4 ∧ Bk g w4 (mbL m).toArray 83) := ⟨below_thru HB.out.1 (H4.out.below H3.out.be H3.out.be.size (Nat.le_of_eq H3.out.at'.symm)), H4.out.bk⟩
      clear H3 H4 HS
      have d0 : w4.cell? ⟨g, 0, none⟩ = some (.int .i64 m.id) := H5.out.2.cell 0
      have d1 : w4.cell? ⟨g, 1, none⟩ = some (.int .i64 m.ac.kind) := H5.out.2.cell 1
      have d2 : w4.cell? ⟨g, 2, none⟩ = some (.int .u32 m.ac.addr) := H5.out.2.cell 2
      by_cases h6 : m.ac.kind = 6
      · have HF : Hid (¬ fnP a m = true) := by show ¬ _; unfold fnP; simp [h6]
        rw [h6] at d1
        go_wp2_with fail
        go_roundw
        case rel => exact ⟨k + 1, by go_num, by omega, ⟨H5.out.1, by rw [HB.out.2, HD.out, fdF, if_neg HF.out]⟩⟩
        case measure => simp [intOf]; omega
      have h62 : (m.ac.kind == 6) = false := by simpa using h6
      have h63 : (m.ac.kind != 6) = true := by simpa using h6
      by_cases he : m.ac.addr = a
      · have HF : Hid (fnP a m = true) := by show _ = _; unfold fnP; simp [h6, he]
        rw [he] at d2
        go_wp2_with fail
        rw [hQ.out]
        go_ret
        exact ⟨ret_int' (by rw [HB.out.2, HD.out, fdF, if_pos HF.out]), H5.out.1⟩
      · have HF : Hid (¬ fnP a m = true) := by show ¬ _; unfold fnP; simp [he]
        have he2 : (m.ac.addr == a) = false := by simpa using he
        go_wp2_with fail
        go_roundw
        case rel => exact ⟨k + 1, by go_num, by omega, ⟨H5.out.1, by rw [HB.out.2, HD.out, fdF, if_neg HF.out]⟩⟩
        case measure => simp [intOf]; omega
    · have HE : Hid (l.drop k = []) := List.drop_eq_nil_of_le (by rw [HN.out]; omega)
      go_wp2_with fail
      rw [hQ.out]
      go_ret
      exact ⟨ret_int' (by rw [HB.out.2, HE.out]; rfl), HB.out.1⟩
theorem rlater_any (n : Int) (w : World) (h0 : -9223372036854775808 ≤ n) : Calls Try.prog 51 #[.int .i64 n] w fun e w' => e = .returned (.int .i64 (ltI n)) ∧ w' = w := by
  unfold ltI
  go_enter Try.func51, Try.ntmps51
  go_wp2_with fail
  all_goals
    go_ret
    refine ⟨ret_int' ?_, rfl⟩
    first
      | (rw [if_pos (by omega)]; done)
      | (rw [if_neg (by omega), if_pos (by omega)]; done)
      | (rw [if_neg (by omega), if_neg (by omega)]; first | rfl | (unfold wrap64; omega))
      | (simp_all; done)
set_option maxRecDepth 20000 in
set_option maxHeartbeats 1000000 in
theorem clash_any (a b : As) (w : World) : Calls Try.prog 23 #[.agg (asL a).toArray, .agg (asL b).toArray] w fun e w' => e = .returned (.bool (clB a b)) ∧ Below w.heap.size w w' := by
  obtain ⟨X, hX⟩ : ∃ X, clB a b = X := ⟨_, rfl⟩
  have HX : Hid (clB a b = X) := hX
  rw [hX]
  clear hX
  go_enter Try.func23, Try.ntmps23
  refine post_hid fun Q hQ => ?_
  refine seq_hid fun R hR => ?_
  go_wp2_with (first
    | (refine step_boxL (by rfl) 41 (.tmp 0) rfl (asL a).toArray (by rfl) (fun u => by rfl) ?_; intro W1 g1 H1)
    | (refine step_boxL (by rfl) 41 (.tmp 1) rfl (asL b).toArray (by rfl) (fun u => by rfl) ?_; intro W2 g2 H2))
  rw [hR.out]
  clear hR
  have H3 : Hid (Bk g1 W2 (asL a).toArray 41 ∧ Bk g2 W2 (asL b).toArray 41 ∧ Below w.heap.size w W2) := ⟨H2.out.other H1.out.bk, H2.out.bk, below_thru H1.out.be H2.out.be⟩
  clear H1 H2
  have a0 : W2.cell? ⟨g1, 0, none⟩ = some (.int .i64 a.kind) := H3.out.1.cell 0
  have a1 : W2.cell? ⟨g1, 1, none⟩ = some (.int .u32 a.addr) := H3.out.1.cell 1
  have b0 : W2.cell? ⟨g2, 0, none⟩ = some (.int .i64 b.kind) := H3.out.2.1.cell 0
  have b1 : W2.cell? ⟨g2, 1, none⟩ = some (.int .u32 b.addr) := H3.out.2.1.cell 1
  by_cases h1 : a.addr = b.addr
  · rw [h1] at a1
    have HY : Hid (X = (decide (a.kind = 6) == decide (b.kind = 6))) := by show _ = _; rw [← HX.out]; unfold clB; simp [h1]
    go_wp2_with fail
    rw [hQ.out]
    go_ret
    refine ⟨ret_bool' ?_, H3.out.2.2⟩
    rw [HY.out, Bool.eq_iff_iff]
    first | rfl | simp
  · have h2 : (a.addr == b.addr) = false := by simpa using h1
    have HY : Hid (X = false) := by show _ = _; rw [← HX.out]; unfold clB; simp [h1]
    go_wp2_with fail
    rw [hQ.out]
    go_ret
    exact ⟨ret_bool' (by rw [HY.out]), H3.out.2.2⟩
end Go.Proofs.Ytnjdmkgkpdebdaa
