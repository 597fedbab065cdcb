/- What Edge of the reference's line does where the edge is taken. -/
import Derived.Test.YtenlkadmniobdaaPW
namespace Go.Proofs.Ytenlkadmniobdaa
open Go.RowKit
/-- the block of the reference's line -/
def Qb (w : World) (q : Nat) (ev : Value) (m la : Int) : Prop := w.heap[q]? = some (.cells #[ev, .int .i64 m, .int .u64 la] 66 (0, 0))
theorem Qb.put {w : World} {q : Nat} {ev : Value} {m la : Int} (h : Qb w q ev m la) (k : Nat) (v : Value) : (w.setCell ⟨q, k, none⟩ v).heap[q]? = some (.cells (#[ev, .int .i64 m, .int .u64 la].setIfInBounds k v) 66 (0, 0)) := by
  rw [setCell_eq_setRow w q k _ _ (0, 0) _ h, setRow_heap w q _ _ _ _ h]
theorem Qb.set0 {w : World} {q : Nat} {ev : Value} {m la : Int} (h : Qb w q ev m la) (v : Value) : Qb (w.setCell ⟨q, 0, none⟩ v) q v m la := h.put 0 v
theorem Qb.set1 {w : World} {q : Nat} {ev : Value} {m la : Int} (h : Qb w q ev m la) (x : Int) : Qb (w.setCell ⟨q, 1, none⟩ (.int .i64 x)) q ev x la := h.put 1 _
theorem Qb.set2 {w : World} {q : Nat} {ev : Value} {m la : Int} (h : Qb w q ev m la) (x : Int) : Qb (w.setCell ⟨q, 2, none⟩ (.int .u64 x)) q ev m x := h.put 2 _
theorem Eg.aside {w : World} {B q k : Nat} {bo : Option Nat} {ev v : Value} {es : List Int} (h : Eg w B bo ev es) (hq : q < B) : Eg (w.setCell ⟨q, k, none⟩ v) B bo ev es :=
  h.kept (fun j hj => Below.heap_setCell w _ _ j (by have := (h.lt j hj).1; show j ≠ q; omega))
theorem Fq.set {q : Nat} {bo : Option Nat} {w w' : World} (h : Fq q bo w w') (k : Nat) (v : Value) : Fq q bo w (w'.setCell ⟨q, k, none⟩ v) :=
  ⟨h.os, h.tape, h.output, by simp; exact h.size, fun j hj hq hb => (Below.heap_setCell w' _ _ j hq).trans (h.block j hj hq hb)⟩
theorem Fq.drew {q : Nat} {bo : Option Nat} {w w' : World} (h : Fq q bo w w') : Fq q bo w w'.drew := ⟨h.os, h.tape, h.output, h.size, h.block⟩
/-- what append makes ready for the walk -/
theorem edge_ready {w u : World} {q B : Nat} {bo : Option Nat} {ev : Value} {es : List Int} {m la o : Int} (hqB : q < B) (hB : B ≤ w.heap.size) (hl : es.length ≤ 16) (h4 : Qb w q ev m la) (h5 : Eg w B bo ev es) (hb : Below w.heap.size w u) (ho : -9223372036854775808 ≤ o ∧ o ≤ 9223372036854775807) :
    ∃ bo' b' off' cap' u2, (Builtin.append_ #[28, 28] 28 #[ev, .slice (some ⟨u.heap.size, 0, none⟩) 1 1]).run Try.prog (u.alloc (.cells #[.int .i64 o] 25)) = .ok (.slice (some ⟨b', off', none⟩) (es.length + 1) cap') u2 ∧
      Eg u2 B bo' (.slice (some ⟨b', off', none⟩) (es.length + 1) cap') (es ++ [o]) ∧ Qb u2 q ev m la ∧ Fq q bo w u2 ∧ (bo' = bo ∨ ∃ g, bo' = some g ∧ w.heap.size ≤ g) ∧ es.length + 1 ≤ cap' ∧ w.heap.size ≤ u2.heap.size := by
  have hbx : Below w.heap.size w (u.alloc (.cells #[.int .i64 o] 25)) := hb.alloc hb.size _
  have hE : Eg (u.alloc (.cells #[.int .i64 o] 25)) B bo ev es := h5.kept (fun k hk => hbx.block k (h5.lt k hk).2)
  obtain ⟨bo', ev', u2, hr, hE2, hg, hbo⟩ := run_appE _ B bo ev es u.heap.size o hE (Nat.le_trans hB hbx.size) hl (by rw [cell_of_row _ u.heap.size 0 _ _ (0, 0) (alloc_new u _)]; rfl) ho
  have hq : some q ≠ bo := fun e => by have := (h5.lt q e.symm).1; omega
  have hQ : Qb u2 q ev m la := (hg.block q (by have := hbx.size; omega) hq).trans ((hbx.block q (by omega)).trans h4)
  have hFq : Fq q bo w u2 := ⟨hg.os.trans hbx.os, hg.tape.trans hbx.tape, hg.output.trans hbx.output, Nat.le_trans hbx.size hg.size, fun k hk _ hne => (hg.block k (by have := hbx.size; omega) (fun e => hne e.symm)).trans (hbx.block k hk)⟩
  have hE3 := hE2
  obtain ⟨_, ⟨_, _, h0⟩ | ⟨b, off, cap, cur, rfl, rfl, k1, k2, k3, k4, k5, k6⟩⟩ := hE2
  · simp at h0
  · have e : (es ++ [o]).length = es.length + 1 := by simp
    rw [e] at hr hE3 k4
    refine ⟨some b, b, off, cap, u2, hr, hE3, hQ, hFq, ?_, k4, hFq.size⟩
    rcases hbo with hbo | ⟨g, hg1, hg2⟩
    · exact .inl hbo
    · exact .inr ⟨g, hg1, Nat.le_trans hbx.size hg2⟩
theorem Qb.cells {w : World} {q : Nat} {ev : Value} {m la : Int} (h : Qb w q ev m la) : w.cell? ⟨q, 0, none⟩ = some ev ∧ w.cell? ⟨q, 1, none⟩ = some (.int .i64 m) ∧ w.cell? ⟨q, 2, none⟩ = some (.int .u64 la) ∧ ∀ k, w.frozen? ⟨q, k, none⟩ = false := Rl.cells h
theorem Eg.cut1 {w : World} {B b off cap : Nat} {bo : Option Nat} {es : List Int} (h : Eg w B bo (.slice (some ⟨b, off, none⟩) 17 cap) es) : Eg w B bo (.slice (some ⟨b, off + 1, none⟩) 16 (cap - 1)) (es.drop 1) := by
  obtain ⟨hok, ⟨_, h0, _⟩ | ⟨b', off', cap', cur, rfl, hv, h1, h2, h3, h4, h5, h6⟩⟩ := h
  · cases h0
  · injection hv with hv1 hv2 hv3
    injection hv1 with hv1
    injection hv1 with hb hoff _
    subst hb; subst hoff; subst hv3
    refine ⟨hok.drop 1, .inr ⟨b, off + 1, cap - 1, cur, rfl, by rw [List.length_drop, ← hv2], h1, h2, by rw [List.length_drop]; omega, by rw [List.length_drop]; omega, by omega, fun k hk => ?_⟩⟩
    rw [List.length_drop] at hk
    rw [Nat.add_assoc, h6 (1 + k) (by omega), List.getD_eq_getElem?_getD, List.getD_eq_getElem?_getD, List.getElem?_drop]
set_option maxRecDepth 20000 in
set_option maxHeartbeats 4000000 in
theorem redge_takes_few {w : World} {q B : Nat} {bo : Option Nat} {es : List Int} {m la : Int} (t : Int) (h : Rl w q B bo es m la) (hla : m ≤ 0 ∨ pl t (ofs t) ≠ la) (hm0 : 0 ≤ m) (hm1 : m ≤ 9000000000000000000) (hn : es.length < 3) :
    Calls Try.prog 20 #[.pointer (some ⟨q, 0, none⟩), .int .u64 t] w fun e w' => e = .returned (.bool true) ∧ ∃ bo', Rl w' q B bo' (kp es (ofs t)) (m + 1) (pl t (ofs t)) ∧ Fq q bo w w' ∧ (bo' = bo ∨ ∃ g, bo' = some g ∧ w.heap.size ≤ g) := by
  obtain ⟨hqB, hB, h3, ev, h4, h5⟩ := h
  obtain ⟨c0, c1, c2, cf⟩ := Rl.cells h4
  have hlen := h5.len
  have hob := ofs_bd t
  obtain ⟨o, ho⟩ : ∃ o, o = ofs t := ⟨_, rfl⟩
  have hof : ∀ u, Calls Try.prog 11 #[.int .u64 t] u fun e w' => e = .returned (.int .i64 o) ∧ w' = u := fun u => by rw [ho]; exact roffset_any t u
  obtain ⟨l, hl⟩ : ∃ l, l = pl t o := ⟨_, rfl⟩
  have hpl : ∀ u, Calls Try.prog 33 #[.int .u64 t, .int .i64 o] u fun e w' => e = .returned (.int .u64 l) ∧ w' = u := fun u => by rw [hl]; exact rplusS_any t o u
  rw [← ho, ← hl] at hla ⊢
  rw [← ho] at hob
  have hkp : kp es o = (es ++ [o]) := by exact kp_few es o (by omega)
  rw [hkp]
  have H0 : Hid (q < B ∧ B ≤ w.heap.size ∧ es.length ≤ 16 ∧ Qb w q ev m la ∧ Eg w B bo ev es) := ⟨hqB, hB, h3, h4, h5⟩
  obtain ⟨n, hnn⟩ : ∃ n, n = es.length := ⟨_, rfl⟩
  have HN : Hid (n = es.length) := hnn
  rw [← hnn] at hlen
  have n3 : (n : Int) < 3 := by omega
  have HO : Hid _ := hof
  have HP : Hid _ := hpl
  clear hof hpl ho hl h4 h5 hkp h3 hn hB hnn 
  by_cases hmp : 0 < m
  · have hne : ¬ l = la := by rcases hla with h | h; (omega); exact h
    clear hla
    obtain ⟨bo', b', off', cap', u2, hr, hE, hQ, hF, hbo, hcap, hsz⟩ := edge_ready H0.out.1 H0.out.2.1 H0.out.2.2.1 H0.out.2.2.2.1 H0.out.2.2.2.2 (Below.refl _ w) (o := o) (by omega)
    rw [← HN.out] at hr hE hcap
    have hr : (Builtin.append_ #[28, 28] 28 #[ev, .slice (some ⟨w.heap.size, 0, none⟩) 1 1]).run Try.prog (w.alloc (.cells #[.int .i64 o] 25)) = .ok (.slice (some ⟨b', off', none⟩) (n + 1) cap') u2 := hr
    obtain ⟨d0, d1, d2, df⟩ := hQ.cells
    have H2 : Hid (Eg u2 B bo' (.slice (some ⟨b', off', none⟩) (n + 1) cap') (es ++ [o]) ∧ Qb u2 q ev m la ∧ Fq q bo w u2 ∧ (bo' = bo ∨ ∃ g, bo' = some g ∧ w.heap.size ≤ g) ∧ B ≤ u2.heap.size) := ⟨hE, hQ, hF, hbo, by have := H0.out.2.1; omega⟩
    have hcap0 : ¬ (cap' = 0) := by omega
    have hmx : max 0 ((n : Int) + 1 - 16) = 0 := by omega
    clear hE hQ hF hbo hsz hcap
    go_enter Try.func20, Try.ntmps20
    go_wp2_with (first | (go_at_call 11; refine (HO.out _).mono ?_; rintro e w' ⟨rfl, hw⟩; rw [hw]; clear hw) | (go_at_call 33; refine (HP.out _).mono ?_; rintro e w' ⟨rfl, hw⟩; rw [hw]; clear hw) | (at_builtin; refine wpList_appR rfl _ _ rfl rfl _ _ _ (by rfl) (by rfl) hr ?_))
    have hQ3 := H2.out.2.1.set0 (.slice (some ⟨b', off', none⟩) (n + 1) cap')
    have hE3 := H2.out.1.aside (k := 0) (v := .slice (some ⟨b', off', none⟩) (n + 1) cap') hqB
    have hF3 := H2.out.2.2.1.set 0 (.slice (some ⟨b', off', none⟩) (n + 1) cap')
    have hz3 : B ≤ (u2.setCell ⟨q, 0, none⟩ (.slice (some ⟨b', off', none⟩) (n + 1) cap')).heap.size := by simp; exact H2.out.2.2.2.2
    generalize u2.setCell ⟨q, 0, none⟩ (.slice (some ⟨b', off', none⟩) (n + 1) cap') = u3 at *
    obtain ⟨e0, e1, e2, ef⟩ := hQ3.cells
    have H3 : Hid (Eg u3 B bo' (.slice (some ⟨b', off', none⟩) (n + 1) cap') (es ++ [o]) ∧ Qb u3 q (.slice (some ⟨b', off', none⟩) (n + 1) cap') m la ∧ Fq q bo w u3 ∧ B ≤ u3.heap.size) := ⟨hE3, hQ3, hF3, hz3⟩
    clear d0 d1 d2 df hr hQ3 hE3 hF3 hz3
    go_region
    have hQ4 : Qb (u3.setCell ⟨q, 0, none⟩ (.slice (some ⟨b', off', none⟩) (n + 1) cap')).drew q (.slice (some ⟨b', off', none⟩) (n + 1) cap') m la := H3.out.2.1.set0 (.slice (some ⟨b', off', none⟩) (n + 1) cap')
    have hE4 : Eg (u3.setCell ⟨q, 0, none⟩ (.slice (some ⟨b', off', none⟩) (n + 1) cap')).drew B bo' (.slice (some ⟨b', off', none⟩) (n + 1) cap') (es ++ [o]) := H3.out.1.aside hqB
    have hF4 := (H3.out.2.2.1.set 0 (.slice (some ⟨b', off', none⟩) (n + 1) cap')).drew
    have hz4 : B ≤ (u3.setCell ⟨q, 0, none⟩ (.slice (some ⟨b', off', none⟩) (n + 1) cap')).drew.heap.size := by show B ≤ (u3.setCell ⟨q, 0, none⟩ (.slice (some ⟨b', off', none⟩) (n + 1) cap')).heap.size; simp; exact H3.out.2.2.2
    generalize (u3.setCell ⟨q, 0, none⟩ (.slice (some ⟨b', off', none⟩) (n + 1) cap')).drew = u4 at *
    obtain ⟨f0, f1, f2, ff⟩ := hQ4.cells
    have H4 : Hid (Eg u4 B bo' (.slice (some ⟨b', off', none⟩) (n + 1) cap') (es ++ [o]) ∧ Qb u4 q (.slice (some ⟨b', off', none⟩) (n + 1) cap') m la ∧ Fq q bo w u4 ∧ B ≤ u4.heap.size) := ⟨hE4, hQ4, hF4, hz4⟩
    clear e0 e1 e2 ef hQ4 hE4 hF4 hz4
    go_wp2_with fail
    go_ret
    exact ⟨rfl, bo', ⟨hqB, by simp; exact H4.out.2.2.2, by have := H0.out.2.2.1; have := HN.out; simp; omega, _, (H4.out.2.1.set1 (m + 1)).set2 l, (H4.out.1.aside hqB).aside hqB⟩, (H4.out.2.2.1.set 1 _).set 2 _, H2.out.2.2.2.1⟩
  · clear hla
    obtain ⟨bo', b', off', cap', u2, hr, hE, hQ, hF, hbo, hcap, hsz⟩ := edge_ready H0.out.1 H0.out.2.1 H0.out.2.2.1 H0.out.2.2.2.1 H0.out.2.2.2.2 (Below.refl _ w) (o := o) (by omega)
    rw [← HN.out] at hr hE hcap
    have hr : (Builtin.append_ #[28, 28] 28 #[ev, .slice (some ⟨w.heap.size, 0, none⟩) 1 1]).run Try.prog (w.alloc (.cells #[.int .i64 o] 25)) = .ok (.slice (some ⟨b', off', none⟩) (n + 1) cap') u2 := hr
    obtain ⟨d0, d1, d2, df⟩ := hQ.cells
    have H2 : Hid (Eg u2 B bo' (.slice (some ⟨b', off', none⟩) (n + 1) cap') (es ++ [o]) ∧ Qb u2 q ev m la ∧ Fq q bo w u2 ∧ (bo' = bo ∨ ∃ g, bo' = some g ∧ w.heap.size ≤ g) ∧ B ≤ u2.heap.size) := ⟨hE, hQ, hF, hbo, by have := H0.out.2.1; omega⟩
    have hcap0 : ¬ (cap' = 0) := by omega
    have hmx : max 0 ((n : Int) + 1 - 16) = 0 := by omega
    clear hE hQ hF hbo hsz hcap
    go_enter Try.func20, Try.ntmps20
    go_wp2_with (first | (go_at_call 11; refine (HO.out _).mono ?_; rintro e w' ⟨rfl, hw⟩; rw [hw]; clear hw) | (go_at_call 33; refine (HP.out _).mono ?_; rintro e w' ⟨rfl, hw⟩; rw [hw]; clear hw) | (at_builtin; refine wpList_appR rfl _ _ rfl rfl _ _ _ (by rfl) (by rfl) hr ?_))
    have hQ3 := H2.out.2.1.set0 (.slice (some ⟨b', off', none⟩) (n + 1) cap')
    have hE3 := H2.out.1.aside (k := 0) (v := .slice (some ⟨b', off', none⟩) (n + 1) cap') hqB
    have hF3 := H2.out.2.2.1.set 0 (.slice (some ⟨b', off', none⟩) (n + 1) cap')
    have hz3 : B ≤ (u2.setCell ⟨q, 0, none⟩ (.slice (some ⟨b', off', none⟩) (n + 1) cap')).heap.size := by simp; exact H2.out.2.2.2.2
    generalize u2.setCell ⟨q, 0, none⟩ (.slice (some ⟨b', off', none⟩) (n + 1) cap') = u3 at *
    obtain ⟨e0, e1, e2, ef⟩ := hQ3.cells
    have H3 : Hid (Eg u3 B bo' (.slice (some ⟨b', off', none⟩) (n + 1) cap') (es ++ [o]) ∧ Qb u3 q (.slice (some ⟨b', off', none⟩) (n + 1) cap') m la ∧ Fq q bo w u3 ∧ B ≤ u3.heap.size) := ⟨hE3, hQ3, hF3, hz3⟩
    clear d0 d1 d2 df hr hQ3 hE3 hF3 hz3
    go_region
    have hQ4 : Qb (u3.setCell ⟨q, 0, none⟩ (.slice (some ⟨b', off', none⟩) (n + 1) cap')).drew q (.slice (some ⟨b', off', none⟩) (n + 1) cap') m la := H3.out.2.1.set0 (.slice (some ⟨b', off', none⟩) (n + 1) cap')
    have hE4 : Eg (u3.setCell ⟨q, 0, none⟩ (.slice (some ⟨b', off', none⟩) (n + 1) cap')).drew B bo' (.slice (some ⟨b', off', none⟩) (n + 1) cap') (es ++ [o]) := H3.out.1.aside hqB
    have hF4 := (H3.out.2.2.1.set 0 (.slice (some ⟨b', off', none⟩) (n + 1) cap')).drew
    have hz4 : B ≤ (u3.setCell ⟨q, 0, none⟩ (.slice (some ⟨b', off', none⟩) (n + 1) cap')).drew.heap.size := by show B ≤ (u3.setCell ⟨q, 0, none⟩ (.slice (some ⟨b', off', none⟩) (n + 1) cap')).heap.size; simp; exact H3.out.2.2.2
    generalize (u3.setCell ⟨q, 0, none⟩ (.slice (some ⟨b', off', none⟩) (n + 1) cap')).drew = u4 at *
    obtain ⟨f0, f1, f2, ff⟩ := hQ4.cells
    have H4 : Hid (Eg u4 B bo' (.slice (some ⟨b', off', none⟩) (n + 1) cap') (es ++ [o]) ∧ Qb u4 q (.slice (some ⟨b', off', none⟩) (n + 1) cap') m la ∧ Fq q bo w u4 ∧ B ≤ u4.heap.size) := ⟨hE4, hQ4, hF4, hz4⟩
    clear e0 e1 e2 ef hQ4 hE4 hF4 hz4
    go_wp2_with fail
    go_ret
    exact ⟨rfl, bo', ⟨hqB, by simp; exact H4.out.2.2.2, by have := H0.out.2.2.1; have := HN.out; simp; omega, _, (H4.out.2.1.set1 (m + 1)).set2 l, (H4.out.1.aside hqB).aside hqB⟩, (H4.out.2.2.1.set 1 _).set 2 _, H2.out.2.2.2.1⟩
set_option maxRecDepth 20000 in
set_option maxHeartbeats 4000000 in
theorem redge_takes_mid {w : World} {q B : Nat} {bo : Option Nat} {es : List Int} {m la : Int} (t : Int) (h : Rl w q B bo es m la) (hla : m ≤ 0 ∨ pl t (ofs t) ≠ la) (hm0 : 0 ≤ m) (hm1 : m ≤ 9000000000000000000) (hn : 3 ≤ es.length) (hn2 : es.length < 16) (hf : farB es (ofs t) = false) :
    Calls Try.prog 20 #[.pointer (some ⟨q, 0, none⟩), .int .u64 t] w fun e w' => e = .returned (.bool true) ∧ ∃ bo', Rl w' q B bo' (kp es (ofs t)) (m + 1) (pl t (ofs t)) ∧ Fq q bo w w' ∧ (bo' = bo ∨ ∃ g, bo' = some g ∧ w.heap.size ≤ g) := by
  obtain ⟨hqB, hB, h3, ev, h4, h5⟩ := h
  obtain ⟨c0, c1, c2, cf⟩ := Rl.cells h4
  have hlen := h5.len
  have hob := ofs_bd t
  have hM := Pu.mdM_bd es
  obtain ⟨M, hMe⟩ : ∃ M, M = Pu.mdM es := ⟨_, rfl⟩
  have hmed : Calls Try.prog 13 #[ev] w fun e w' => e = .returned (.tuple #[.int .i64 M, .int .i64 (Pu.mdW es)]) ∧ Below w.heap.size w w' := by rw [hMe]; exact rmedian_any ev es _ w h5.sl (Nat.le_refl _) (by omega)
  unfold farB at hf
  have hf := of_decide_eq_false hf
  rw [← hMe] at hM hf
  obtain ⟨o, ho⟩ : ∃ o, o = ofs t := ⟨_, rfl⟩
  have hof : ∀ u, Calls Try.prog 11 #[.int .u64 t] u fun e w' => e = .returned (.int .i64 o) ∧ w' = u := fun u => by rw [ho]; exact roffset_any t u
  obtain ⟨l, hl⟩ : ∃ l, l = pl t o := ⟨_, rfl⟩
  have hpl : ∀ u, Calls Try.prog 33 #[.int .u64 t, .int .i64 o] u fun e w' => e = .returned (.int .u64 l) ∧ w' = u := fun u => by rw [hl]; exact rplusS_any t o u
  rw [← ho, ← hl] at hla ⊢
  rw [← ho] at hob
  rw [← ho] at hf
  have hd1 : ¬ 8388608 < o - M := by omega
  have hd2 : ¬ 8388608 < M - o := by omega
  have hkp : kp es o = (es ++ [o]) := by exact kp_few es o (by omega)
  rw [hkp]
  have H0 : Hid (q < B ∧ B ≤ w.heap.size ∧ es.length ≤ 16 ∧ Qb w q ev m la ∧ Eg w B bo ev es) := ⟨hqB, hB, h3, h4, h5⟩
  obtain ⟨n, hnn⟩ : ∃ n, n = es.length := ⟨_, rfl⟩
  have HN : Hid (n = es.length) := hnn
  rw [← hnn] at hlen
  have n3 : 3 ≤ (n : Int) := by omega
  have n16 : (n : Int) < 16 := by omega
  have HO : Hid _ := hof
  have HP : Hid _ := hpl
  have HMd : Hid _ := hmed
  clear hof hpl ho hl h4 h5 hkp h3 hn hB hnn hmed hMe hf hn2
  by_cases hmp : 0 < m
  · have hne : ¬ l = la := by rcases hla with h | h; (omega); exact h
    clear hla
    go_enter Try.func20, Try.ntmps20
    go_wp2_with fail
    refine (HO.out _).mono ?_
    rintro e w' ⟨rfl, hw⟩
    rw [hw]
    clear hw
    go_wp2_with fail
    refine (HP.out _).mono ?_
    rintro e w' ⟨rfl, hw⟩
    rw [hw]
    clear hw
    go_wp2_with fail
    refine Calls.mono HMd.out ?_
    rintro e w1 ⟨rfl, hbm⟩
    obtain ⟨g0, g1, g2, gf⟩ := (show Qb w1 q ev m la from (hbm.block q (by have := H0.out; omega)).trans H0.out.2.2.2.1).cells
    clear c0 c1 c2 cf
    obtain ⟨bo', b', off', cap', u2, hr, hE, hQ, hF, hbo, hcap, hsz⟩ := edge_ready H0.out.1 H0.out.2.1 H0.out.2.2.1 H0.out.2.2.2.1 H0.out.2.2.2.2 hbm (o := o) (by omega)
    rw [← HN.out] at hr hE hcap
    have hr : (Builtin.append_ #[28, 28] 28 #[ev, .slice (some ⟨w1.heap.size, 0, none⟩) 1 1]).run Try.prog (w1.alloc (.cells #[.int .i64 o] 25)) = .ok (.slice (some ⟨b', off', none⟩) (n + 1) cap') u2 := hr
    obtain ⟨d0, d1, d2, df⟩ := hQ.cells
    have H2 : Hid (Eg u2 B bo' (.slice (some ⟨b', off', none⟩) (n + 1) cap') (es ++ [o]) ∧ Qb u2 q ev m la ∧ Fq q bo w u2 ∧ (bo' = bo ∨ ∃ g, bo' = some g ∧ w.heap.size ≤ g) ∧ B ≤ u2.heap.size) := ⟨hE, hQ, hF, hbo, by have := H0.out.2.1; omega⟩
    have hcap0 : ¬ (cap' = 0) := by omega
    have hmx : max 0 ((n : Int) + 1 - 16) = 0 := by omega
    clear hbm
    clear hE hQ hF hbo hsz hcap
    go_wp2_with ((at_builtin; refine wpList_appR rfl _ _ rfl rfl _ _ _ (by rfl) (by rfl) hr ?_))
    have hQ3 := H2.out.2.1.set0 (.slice (some ⟨b', off', none⟩) (n + 1) cap')
    have hE3 := H2.out.1.aside (k := 0) (v := .slice (some ⟨b', off', none⟩) (n + 1) cap') hqB
    have hF3 := H2.out.2.2.1.set 0 (.slice (some ⟨b', off', none⟩) (n + 1) cap')
    have hz3 : B ≤ (u2.setCell ⟨q, 0, none⟩ (.slice (some ⟨b', off', none⟩) (n + 1) cap')).heap.size := by simp; exact H2.out.2.2.2.2
    generalize u2.setCell ⟨q, 0, none⟩ (.slice (some ⟨b', off', none⟩) (n + 1) cap') = u3 at *
    obtain ⟨e0, e1, e2, ef⟩ := hQ3.cells
    have H3 : Hid (Eg u3 B bo' (.slice (some ⟨b', off', none⟩) (n + 1) cap') (es ++ [o]) ∧ Qb u3 q (.slice (some ⟨b', off', none⟩) (n + 1) cap') m la ∧ Fq q bo w u3 ∧ B ≤ u3.heap.size) := ⟨hE3, hQ3, hF3, hz3⟩
    clear d0 d1 d2 df hr hQ3 hE3 hF3 hz3
    go_region
    have hQ4 : Qb (u3.setCell ⟨q, 0, none⟩ (.slice (some ⟨b', off', none⟩) (n + 1) cap')).drew q (.slice (some ⟨b', off', none⟩) (n + 1) cap') m la := H3.out.2.1.set0 (.slice (some ⟨b', off', none⟩) (n + 1) cap')
    have hE4 : Eg (u3.setCell ⟨q, 0, none⟩ (.slice (some ⟨b', off', none⟩) (n + 1) cap')).drew B bo' (.slice (some ⟨b', off', none⟩) (n + 1) cap') (es ++ [o]) := H3.out.1.aside hqB
    have hF4 := (H3.out.2.2.1.set 0 (.slice (some ⟨b', off', none⟩) (n + 1) cap')).drew
    have hz4 : B ≤ (u3.setCell ⟨q, 0, none⟩ (.slice (some ⟨b', off', none⟩) (n + 1) cap')).drew.heap.size := by show B ≤ (u3.setCell ⟨q, 0, none⟩ (.slice (some ⟨b', off', none⟩) (n + 1) cap')).heap.size; simp; exact H3.out.2.2.2
    generalize (u3.setCell ⟨q, 0, none⟩ (.slice (some ⟨b', off', none⟩) (n + 1) cap')).drew = u4 at *
    obtain ⟨f0, f1, f2, ff⟩ := hQ4.cells
    have H4 : Hid (Eg u4 B bo' (.slice (some ⟨b', off', none⟩) (n + 1) cap') (es ++ [o]) ∧ Qb u4 q (.slice (some ⟨b', off', none⟩) (n + 1) cap') m la ∧ Fq q bo w u4 ∧ B ≤ u4.heap.size) := ⟨hE4, hQ4, hF4, hz4⟩
    clear e0 e1 e2 ef hQ4 hE4 hF4 hz4
    go_wp2_with fail
    go_ret
    exact ⟨rfl, bo', ⟨hqB, by simp; exact H4.out.2.2.2, by have := H0.out.2.2.1; have := HN.out; simp; omega, _, (H4.out.2.1.set1 (m + 1)).set2 l, (H4.out.1.aside hqB).aside hqB⟩, (H4.out.2.2.1.set 1 _).set 2 _, H2.out.2.2.2.1⟩
  · clear hla
    go_enter Try.func20, Try.ntmps20
    go_wp2_with fail
    refine (HO.out _).mono ?_
    rintro e w' ⟨rfl, hw⟩
    rw [hw]
    clear hw
    go_wp2_with fail
    refine (HP.out _).mono ?_
    rintro e w' ⟨rfl, hw⟩
    rw [hw]
    clear hw
    go_wp2_with fail
    refine Calls.mono HMd.out ?_
    rintro e w1 ⟨rfl, hbm⟩
    obtain ⟨g0, g1, g2, gf⟩ := (show Qb w1 q ev m la from (hbm.block q (by have := H0.out; omega)).trans H0.out.2.2.2.1).cells
    clear c0 c1 c2 cf
    obtain ⟨bo', b', off', cap', u2, hr, hE, hQ, hF, hbo, hcap, hsz⟩ := edge_ready H0.out.1 H0.out.2.1 H0.out.2.2.1 H0.out.2.2.2.1 H0.out.2.2.2.2 hbm (o := o) (by omega)
    rw [← HN.out] at hr hE hcap
    have hr : (Builtin.append_ #[28, 28] 28 #[ev, .slice (some ⟨w1.heap.size, 0, none⟩) 1 1]).run Try.prog (w1.alloc (.cells #[.int .i64 o] 25)) = .ok (.slice (some ⟨b', off', none⟩) (n + 1) cap') u2 := hr
    obtain ⟨d0, d1, d2, df⟩ := hQ.cells
    have H2 : Hid (Eg u2 B bo' (.slice (some ⟨b', off', none⟩) (n + 1) cap') (es ++ [o]) ∧ Qb u2 q ev m la ∧ Fq q bo w u2 ∧ (bo' = bo ∨ ∃ g, bo' = some g ∧ w.heap.size ≤ g) ∧ B ≤ u2.heap.size) := ⟨hE, hQ, hF, hbo, by have := H0.out.2.1; omega⟩
    have hcap0 : ¬ (cap' = 0) := by omega
    have hmx : max 0 ((n : Int) + 1 - 16) = 0 := by omega
    clear hbm
    clear hE hQ hF hbo hsz hcap
    go_wp2_with ((at_builtin; refine wpList_appR rfl _ _ rfl rfl _ _ _ (by rfl) (by rfl) hr ?_))
    have hQ3 := H2.out.2.1.set0 (.slice (some ⟨b', off', none⟩) (n + 1) cap')
    have hE3 := H2.out.1.aside (k := 0) (v := .slice (some ⟨b', off', none⟩) (n + 1) cap') hqB
    have hF3 := H2.out.2.2.1.set 0 (.slice (some ⟨b', off', none⟩) (n + 1) cap')
    have hz3 : B ≤ (u2.setCell ⟨q, 0, none⟩ (.slice (some ⟨b', off', none⟩) (n + 1) cap')).heap.size := by simp; exact H2.out.2.2.2.2
    generalize u2.setCell ⟨q, 0, none⟩ (.slice (some ⟨b', off', none⟩) (n + 1) cap') = u3 at *
    obtain ⟨e0, e1, e2, ef⟩ := hQ3.cells
    have H3 : Hid (Eg u3 B bo' (.slice (some ⟨b', off', none⟩) (n + 1) cap') (es ++ [o]) ∧ Qb u3 q (.slice (some ⟨b', off', none⟩) (n + 1) cap') m la ∧ Fq q bo w u3 ∧ B ≤ u3.heap.size) := ⟨hE3, hQ3, hF3, hz3⟩
    clear d0 d1 d2 df hr hQ3 hE3 hF3 hz3
    go_region
    have hQ4 : Qb (u3.setCell ⟨q, 0, none⟩ (.slice (some ⟨b', off', none⟩) (n + 1) cap')).drew q (.slice (some ⟨b', off', none⟩) (n + 1) cap') m la := H3.out.2.1.set0 (.slice (some ⟨b', off', none⟩) (n + 1) cap')
    have hE4 : Eg (u3.setCell ⟨q, 0, none⟩ (.slice (some ⟨b', off', none⟩) (n + 1) cap')).drew B bo' (.slice (some ⟨b', off', none⟩) (n + 1) cap') (es ++ [o]) := H3.out.1.aside hqB
    have hF4 := (H3.out.2.2.1.set 0 (.slice (some ⟨b', off', none⟩) (n + 1) cap')).drew
    have hz4 : B ≤ (u3.setCell ⟨q, 0, none⟩ (.slice (some ⟨b', off', none⟩) (n + 1) cap')).drew.heap.size := by show B ≤ (u3.setCell ⟨q, 0, none⟩ (.slice (some ⟨b', off', none⟩) (n + 1) cap')).heap.size; simp; exact H3.out.2.2.2
    generalize (u3.setCell ⟨q, 0, none⟩ (.slice (some ⟨b', off', none⟩) (n + 1) cap')).drew = u4 at *
    obtain ⟨f0, f1, f2, ff⟩ := hQ4.cells
    have H4 : Hid (Eg u4 B bo' (.slice (some ⟨b', off', none⟩) (n + 1) cap') (es ++ [o]) ∧ Qb u4 q (.slice (some ⟨b', off', none⟩) (n + 1) cap') m la ∧ Fq q bo w u4 ∧ B ≤ u4.heap.size) := ⟨hE4, hQ4, hF4, hz4⟩
    clear e0 e1 e2 ef hQ4 hE4 hF4 hz4
    go_wp2_with fail
    go_ret
    exact ⟨rfl, bo', ⟨hqB, by simp; exact H4.out.2.2.2, by have := H0.out.2.2.1; have := HN.out; simp; omega, _, (H4.out.2.1.set1 (m + 1)).set2 l, (H4.out.1.aside hqB).aside hqB⟩, (H4.out.2.2.1.set 1 _).set 2 _, H2.out.2.2.2.1⟩
set_option maxRecDepth 20000 in
set_option maxHeartbeats 4000000 in
theorem redge_takes_full {w : World} {q B : Nat} {bo : Option Nat} {es : List Int} {m la : Int} (t : Int) (h : Rl w q B bo es m la) (hla : m ≤ 0 ∨ pl t (ofs t) ≠ la) (hm0 : 0 ≤ m) (hm1 : m ≤ 9000000000000000000) (hn : es.length = 16) (hf : farB es (ofs t) = false) :
    Calls Try.prog 20 #[.pointer (some ⟨q, 0, none⟩), .int .u64 t] w fun e w' => e = .returned (.bool true) ∧ ∃ bo', Rl w' q B bo' (kp es (ofs t)) (m + 1) (pl t (ofs t)) ∧ Fq q bo w w' ∧ (bo' = bo ∨ ∃ g, bo' = some g ∧ w.heap.size ≤ g) := by
  obtain ⟨hqB, hB, h3, ev, h4, h5⟩ := h
  obtain ⟨c0, c1, c2, cf⟩ := Rl.cells h4
  have hlen := h5.len
  have hob := ofs_bd t
  have hM := Pu.mdM_bd es
  obtain ⟨M, hMe⟩ : ∃ M, M = Pu.mdM es := ⟨_, rfl⟩
  have hmed : Calls Try.prog 13 #[ev] w fun e w' => e = .returned (.tuple #[.int .i64 M, .int .i64 (Pu.mdW es)]) ∧ Below w.heap.size w w' := by rw [hMe]; exact rmedian_any ev es _ w h5.sl (Nat.le_refl _) (by omega)
  unfold farB at hf
  have hf := of_decide_eq_false hf
  rw [← hMe] at hM hf
  obtain ⟨o, ho⟩ : ∃ o, o = ofs t := ⟨_, rfl⟩
  have hof : ∀ u, Calls Try.prog 11 #[.int .u64 t] u fun e w' => e = .returned (.int .i64 o) ∧ w' = u := fun u => by rw [ho]; exact roffset_any t u
  obtain ⟨l, hl⟩ : ∃ l, l = pl t o := ⟨_, rfl⟩
  have hpl : ∀ u, Calls Try.prog 33 #[.int .u64 t, .int .i64 o] u fun e w' => e = .returned (.int .u64 l) ∧ w' = u := fun u => by rw [hl]; exact rplusS_any t o u
  rw [← ho, ← hl] at hla ⊢
  rw [← ho] at hob
  rw [← ho] at hf
  have hd1 : ¬ 8388608 < o - M := by omega
  have hd2 : ¬ 8388608 < M - o := by omega
  have hkp : kp es o = ((es ++ [o]).drop 1) := by unfold kp; rw [show (es ++ [o]).length - 16 = 1 by simp; omega]
  rw [hkp]
  have H0 : Hid (q < B ∧ B ≤ w.heap.size ∧ es.length ≤ 16 ∧ Qb w q ev m la ∧ Eg w B bo ev es) := ⟨hqB, hB, h3, h4, h5⟩
  have HN : Hid (16 = es.length) := hn.symm
  rw [hn] at hlen
  have HO : Hid _ := hof
  have HP : Hid _ := hpl
  have HMd : Hid _ := hmed
  clear hof hpl ho hl h4 h5 hkp h3 hn hB hmed hMe hf
  by_cases hmp : 0 < m
  · have hne : ¬ l = la := by rcases hla with h | h; (omega); exact h
    clear hla
    go_enter Try.func20, Try.ntmps20
    go_wp2_with fail
    refine (HO.out _).mono ?_
    rintro e w' ⟨rfl, hw⟩
    rw [hw]
    clear hw
    go_wp2_with fail
    refine (HP.out _).mono ?_
    rintro e w' ⟨rfl, hw⟩
    rw [hw]
    clear hw
    go_wp2_with fail
    refine Calls.mono HMd.out ?_
    rintro e w1 ⟨rfl, hbm⟩
    obtain ⟨g0, g1, g2, gf⟩ := (show Qb w1 q ev m la from (hbm.block q (by have := H0.out; omega)).trans H0.out.2.2.2.1).cells
    clear c0 c1 c2 cf
    obtain ⟨bo', b', off', cap', u2, hr, hE, hQ, hF, hbo, hcap, hsz⟩ := edge_ready H0.out.1 H0.out.2.1 H0.out.2.2.1 H0.out.2.2.2.1 H0.out.2.2.2.2 hbm (o := o) (by omega)
    rw [← HN.out] at hr hE hcap
    have hr : (Builtin.append_ #[28, 28] 28 #[ev, .slice (some ⟨w1.heap.size, 0, none⟩) 1 1]).run Try.prog (w1.alloc (.cells #[.int .i64 o] 25)) = .ok (.slice (some ⟨b', off', none⟩) 17 cap') u2 := hr
    obtain ⟨d0, d1, d2, df⟩ := hQ.cells
    have H2 : Hid (Eg u2 B bo' (.slice (some ⟨b', off', none⟩) 17 cap') (es ++ [o]) ∧ Qb u2 q ev m la ∧ Fq q bo w u2 ∧ (bo' = bo ∨ ∃ g, bo' = some g ∧ w.heap.size ≤ g) ∧ B ≤ u2.heap.size) := ⟨hE, hQ, hF, hbo, by have := H0.out.2.1; omega⟩
    have hcap0 : ¬ (cap' = 1) := by omega
    have hcap1 : 17 ≤ cap' := hcap
    have hmx : max (0 : Int) 1 = 1 := by decide
    clear hbm
    clear hE hQ hF hbo hsz hcap
    go_wp2_with ((at_builtin; refine wpList_appR rfl _ _ rfl rfl _ _ _ (by rfl) (by rfl) hr ?_))
    have hQ3 := H2.out.2.1.set0 (.slice (some ⟨b', off', none⟩) 17 cap')
    have hE3 := H2.out.1.aside (k := 0) (v := .slice (some ⟨b', off', none⟩) 17 cap') hqB
    have hF3 := H2.out.2.2.1.set 0 (.slice (some ⟨b', off', none⟩) 17 cap')
    have hz3 : B ≤ (u2.setCell ⟨q, 0, none⟩ (.slice (some ⟨b', off', none⟩) 17 cap')).heap.size := by simp; exact H2.out.2.2.2.2
    generalize u2.setCell ⟨q, 0, none⟩ (.slice (some ⟨b', off', none⟩) 17 cap') = u3 at *
    obtain ⟨e0, e1, e2, ef⟩ := hQ3.cells
    have H3 : Hid (Eg u3 B bo' (.slice (some ⟨b', off', none⟩) 17 cap') (es ++ [o]) ∧ Qb u3 q (.slice (some ⟨b', off', none⟩) 17 cap') m la ∧ Fq q bo w u3 ∧ B ≤ u3.heap.size) := ⟨hE3, hQ3, hF3, hz3⟩
    clear d0 d1 d2 df hr hQ3 hE3 hF3 hz3
    go_region
    have hQ4 : Qb (u3.setCell ⟨q, 0, none⟩ (.slice (some ⟨b', off' + 1, none⟩) 16 (cap' - 1))).drew q (.slice (some ⟨b', off' + 1, none⟩) 16 (cap' - 1)) m la := H3.out.2.1.set0 (.slice (some ⟨b', off' + 1, none⟩) 16 (cap' - 1))
    have hE4 : Eg (u3.setCell ⟨q, 0, none⟩ (.slice (some ⟨b', off' + 1, none⟩) 16 (cap' - 1))).drew B bo' (.slice (some ⟨b', off' + 1, none⟩) 16 (cap' - 1)) ((es ++ [o]).drop 1) := H3.out.1.cut1.aside hqB
    have hF4 := (H3.out.2.2.1.set 0 (.slice (some ⟨b', off' + 1, none⟩) 16 (cap' - 1))).drew
    have hz4 : B ≤ (u3.setCell ⟨q, 0, none⟩ (.slice (some ⟨b', off' + 1, none⟩) 16 (cap' - 1))).drew.heap.size := by show B ≤ (u3.setCell ⟨q, 0, none⟩ (.slice (some ⟨b', off' + 1, none⟩) 16 (cap' - 1))).heap.size; simp; exact H3.out.2.2.2
    generalize (u3.setCell ⟨q, 0, none⟩ (.slice (some ⟨b', off' + 1, none⟩) 16 (cap' - 1))).drew = u4 at *
    obtain ⟨f0, f1, f2, ff⟩ := hQ4.cells
    have H4 : Hid (Eg u4 B bo' (.slice (some ⟨b', off' + 1, none⟩) 16 (cap' - 1)) ((es ++ [o]).drop 1) ∧ Qb u4 q (.slice (some ⟨b', off' + 1, none⟩) 16 (cap' - 1)) m la ∧ Fq q bo w u4 ∧ B ≤ u4.heap.size) := ⟨hE4, hQ4, hF4, hz4⟩
    clear e0 e1 e2 ef hQ4 hE4 hF4 hz4
    go_wp2_with fail
    go_ret
    exact ⟨rfl, bo', ⟨hqB, by simp; exact H4.out.2.2.2, by have := H0.out.2.2.1; have := HN.out; simp; omega, _, (H4.out.2.1.set1 (m + 1)).set2 l, (H4.out.1.aside hqB).aside hqB⟩, (H4.out.2.2.1.set 1 _).set 2 _, H2.out.2.2.2.1⟩
  · clear hla
    go_enter Try.func20, Try.ntmps20
    go_wp2_with fail
    refine (HO.out _).mono ?_
    rintro e w' ⟨rfl, hw⟩
    rw [hw]
    clear hw
    go_wp2_with fail
    refine (HP.out _).mono ?_
    rintro e w' ⟨rfl, hw⟩
    rw [hw]
    clear hw
    go_wp2_with fail
    refine Calls.mono HMd.out ?_
    rintro e w1 ⟨rfl, hbm⟩
    obtain ⟨g0, g1, g2, gf⟩ := (show Qb w1 q ev m la from (hbm.block q (by have := H0.out; omega)).trans H0.out.2.2.2.1).cells
    clear c0 c1 c2 cf
    obtain ⟨bo', b', off', cap', u2, hr, hE, hQ, hF, hbo, hcap, hsz⟩ := edge_ready H0.out.1 H0.out.2.1 H0.out.2.2.1 H0.out.2.2.2.1 H0.out.2.2.2.2 hbm (o := o) (by omega)
    rw [← HN.out] at hr hE hcap
    have hr : (Builtin.append_ #[28, 28] 28 #[ev, .slice (some ⟨w1.heap.size, 0, none⟩) 1 1]).run Try.prog (w1.alloc (.cells #[.int .i64 o] 25)) = .ok (.slice (some ⟨b', off', none⟩) 17 cap') u2 := hr
    obtain ⟨d0, d1, d2, df⟩ := hQ.cells
    have H2 : Hid (Eg u2 B bo' (.slice (some ⟨b', off', none⟩) 17 cap') (es ++ [o]) ∧ Qb u2 q ev m la ∧ Fq q bo w u2 ∧ (bo' = bo ∨ ∃ g, bo' = some g ∧ w.heap.size ≤ g) ∧ B ≤ u2.heap.size) := ⟨hE, hQ, hF, hbo, by have := H0.out.2.1; omega⟩
    have hcap0 : ¬ (cap' = 1) := by omega
    have hcap1 : 17 ≤ cap' := hcap
    have hmx : max (0 : Int) 1 = 1 := by decide
    clear hbm
    clear hE hQ hF hbo hsz hcap
    go_wp2_with ((at_builtin; refine wpList_appR rfl _ _ rfl rfl _ _ _ (by rfl) (by rfl) hr ?_))
    have hQ3 := H2.out.2.1.set0 (.slice (some ⟨b', off', none⟩) 17 cap')
    have hE3 := H2.out.1.aside (k := 0) (v := .slice (some ⟨b', off', none⟩) 17 cap') hqB
    have hF3 := H2.out.2.2.1.set 0 (.slice (some ⟨b', off', none⟩) 17 cap')
    have hz3 : B ≤ (u2.setCell ⟨q, 0, none⟩ (.slice (some ⟨b', off', none⟩) 17 cap')).heap.size := by simp; exact H2.out.2.2.2.2
    generalize u2.setCell ⟨q, 0, none⟩ (.slice (some ⟨b', off', none⟩) 17 cap') = u3 at *
    obtain ⟨e0, e1, e2, ef⟩ := hQ3.cells
    have H3 : Hid (Eg u3 B bo' (.slice (some ⟨b', off', none⟩) 17 cap') (es ++ [o]) ∧ Qb u3 q (.slice (some ⟨b', off', none⟩) 17 cap') m la ∧ Fq q bo w u3 ∧ B ≤ u3.heap.size) := ⟨hE3, hQ3, hF3, hz3⟩
    clear d0 d1 d2 df hr hQ3 hE3 hF3 hz3
    go_region
    have hQ4 : Qb (u3.setCell ⟨q, 0, none⟩ (.slice (some ⟨b', off' + 1, none⟩) 16 (cap' - 1))).drew q (.slice (some ⟨b', off' + 1, none⟩) 16 (cap' - 1)) m la := H3.out.2.1.set0 (.slice (some ⟨b', off' + 1, none⟩) 16 (cap' - 1))
    have hE4 : Eg (u3.setCell ⟨q, 0, none⟩ (.slice (some ⟨b', off' + 1, none⟩) 16 (cap' - 1))).drew B bo' (.slice (some ⟨b', off' + 1, none⟩) 16 (cap' - 1)) ((es ++ [o]).drop 1) := H3.out.1.cut1.aside hqB
    have hF4 := (H3.out.2.2.1.set 0 (.slice (some ⟨b', off' + 1, none⟩) 16 (cap' - 1))).drew
    have hz4 : B ≤ (u3.setCell ⟨q, 0, none⟩ (.slice (some ⟨b', off' + 1, none⟩) 16 (cap' - 1))).drew.heap.size := by show B ≤ (u3.setCell ⟨q, 0, none⟩ (.slice (some ⟨b', off' + 1, none⟩) 16 (cap' - 1))).heap.size; simp; exact H3.out.2.2.2
    generalize (u3.setCell ⟨q, 0, none⟩ (.slice (some ⟨b', off' + 1, none⟩) 16 (cap' - 1))).drew = u4 at *
    obtain ⟨f0, f1, f2, ff⟩ := hQ4.cells
    have H4 : Hid (Eg u4 B bo' (.slice (some ⟨b', off' + 1, none⟩) 16 (cap' - 1)) ((es ++ [o]).drop 1) ∧ Qb u4 q (.slice (some ⟨b', off' + 1, none⟩) 16 (cap' - 1)) m la ∧ Fq q bo w u4 ∧ B ≤ u4.heap.size) := ⟨hE4, hQ4, hF4, hz4⟩
    clear e0 e1 e2 ef hQ4 hE4 hF4 hz4
    go_wp2_with fail
    go_ret
    exact ⟨rfl, bo', ⟨hqB, by simp; exact H4.out.2.2.2, by have := H0.out.2.2.1; have := HN.out; simp; omega, _, (H4.out.2.1.set1 (m + 1)).set2 l, (H4.out.1.aside hqB).aside hqB⟩, (H4.out.2.2.1.set 1 _).set 2 _, H2.out.2.2.2.1⟩
end Go.Proofs.Ytenlkadmniobdaa
