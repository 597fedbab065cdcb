/- What Edge and Sample of the reference's line do. -/
import Derived.Test.YtenlkadmniobdaaPX
import Derived.Test.YtenlkadmniobdaaPH
namespace Go.Proofs.Ytenlkadmniobdaa
open Go.RowKit
theorem redge_any {w : World} {q B : Nat} {bo : Option Nat} {es : List Int} {m la : Int} (t : Int) (h : Rl w q B bo es m la) (hm0 : 0 ≤ m) (hm1 : m ≤ 9000000000000000000) :
    Calls Try.prog 20 #[.pointer (some ⟨q, 0, none⟩), .int .u64 t] w fun e w' => e = .returned (.bool (tkB es (decide (0 < m)) la t)) ∧ ∃ bo', Rl w' q B bo' (egE es (decide (0 < m)) la t) (if tkB es (decide (0 < m)) la t then m + 1 else m) (egL es (decide (0 < m)) la t) ∧ Fq q bo w w' ∧ (bo' = bo ∨ ∃ g, bo' = some g ∧ w.heap.size ≤ g) := by
  by_cases h1 : 0 < m ∧ pl t (ofs t) = la
  · have e : tkB es (decide (0 < m)) la t = false := by unfold tkB; rw [decide_eq_true h1.1, decide_eq_true h1.2]; rfl
    unfold egE egL
    rw [e]
    refine (redge_same t h h1.1 h1.2).mono ?_
    rintro e w' ⟨rfl, rfl⟩
    exact ⟨rfl, bo, h, ⟨rfl, rfl, rfl, Nat.le_refl _, fun _ _ _ _ => rfl⟩, .inl rfl⟩
  · have h2 : m ≤ 0 ∨ pl t (ofs t) ≠ la := by
      rcases Int.lt_or_le 0 m with hm | hm
      · exact .inr (fun e => h1 ⟨hm, e⟩)
      · exact .inl hm
    have e0 : (decide (0 < m) && decide (pl t (ofs t) = la)) = false := by
      rcases h2 with h2 | h2
      · rw [decide_eq_false (by omega)]; rfl
      · rw [decide_eq_false h2, Bool.and_false]
    unfold egE egL
    rcases hf : farB es (ofs t) with _ | _
    · have e : tkB es (decide (0 < m)) la t = true := by unfold tkB; rw [e0, hf]; rfl
      rw [e]
      have hl := h.2.2.1
      rcases Nat.lt_or_ge es.length 3 with k | k
      · exact redge_takes_few t h h2 hm0 hm1 k
      · rcases Nat.lt_or_ge es.length 16 with k' | k'
        · exact redge_takes_mid t h h2 hm0 hm1 k k' hf
        · exact redge_takes_full t h h2 hm0 hm1 (by omega) hf
    · have e : tkB es (decide (0 < m)) la t = false := by unfold tkB; rw [e0, hf]; rfl
      rw [e]
      refine (redge_far t h h2 hf).mono ?_
      rintro e w' ⟨rfl, hb⟩
      exact ⟨rfl, bo, h.kept hb.size (fun k hk _ => hb.block k hk), Fq.of_below hb, .inl rfl⟩
theorem Fq.far {q : Nat} {bo : Option Nat} {w w' : World} (h : Fq q bo w w') (a : Addr) (v : Value) (ha : w.heap.size ≤ a.block) : Fq q bo w (w'.setCell a v) :=
  ⟨h.os, h.tape, h.output, by simp; exact h.size, fun j hj hq hb => (Below.heap_setCell w' a v j (by omega)).trans (h.block j hj hq hb)⟩
set_option maxHeartbeats 1000000 in
theorem rsample_few {w : World} {q B : Nat} {bo : Option Nat} {es : List Int} {m la : Int} (t f : Int) (h : Rl w q B bo es m la) (hn : es.length < 3) :
    Calls Try.prog 22 #[.pointer (some ⟨q, 0, none⟩), .int .u64 t, .int .i64 f] w fun e w' => e = .returned (.tuple #[smV 0 0 0, .bool false]) ∧ Below w.heap.size w w' := by
  obtain ⟨hqB, hB, h3, ev, h4, h5⟩ := h
  obtain ⟨c0, c1, c2, cf⟩ := Rl.cells h4
  have hlen := h5.len
  have hlt : q < w.heap.size := by omega
  obtain ⟨n, hn2⟩ : ∃ n : Int, n = (es.length : Int) := ⟨_, rfl⟩
  rw [← hn2] at hlen
  have hni : n < 3 := by omega
  clear h3 h4 h5 hn hn2
  go_enter Try.func22, Try.ntmps22
  go_simp
  repeat (first | go_values | go_skip | go_guarded | go_step | go_upon)
  exact bodyPost_ret (v := .tuple #[smV 0 0 0, .bool false]) (by simp [results, Try.results22, go_sem, smV]) rfl ⟨rfl, (Below.refl _ _).alloc (Nat.le_refl _) _⟩
set_option maxHeartbeats 2000000 in
theorem rsample_many {w : World} {q B : Nat} {bo : Option Nat} {es : List Int} {m la : Int} (t f : Int) (h : Rl w q B bo es m la) (hn : 3 ≤ es.length) (hf0 : -9223372036854775808 ≤ f) (hf1 : f ≤ 9223372036854775807) :
    Calls Try.prog 22 #[.pointer (some ⟨q, 0, none⟩), .int .u64 t, .int .i64 f] w fun e w' => e = .returned (.tuple #[smV (Fx.cl 4611686018427387904 (Pu.mdM es + f)) (Pu.mdW es / 2 + 4096) t, .bool true]) ∧ Rl w' q B none [] m la ∧ Fq q bo w w' := by
  obtain ⟨hqB, hB, h3, ev, h4, h5⟩ := h
  obtain ⟨c0, c1, c2, cf⟩ := Rl.cells h4
  have hlen := h5.len
  have hlt : q < w.heap.size := by omega
  have hM := Pu.mdM_bd es
  have hW := mdW_bd es
  have hW0 := Pu.mdW_nonneg es
  obtain ⟨M, hMe⟩ : ∃ M, M = Pu.mdM es := ⟨_, rfl⟩
  obtain ⟨D, hDe⟩ : ∃ D, D = Pu.mdW es := ⟨_, rfl⟩
  have hmed : ∀ u, Below w.heap.size w u → Calls Try.prog 13 #[ev] u fun e w' => e = .returned (.tuple #[.int .i64 M, .int .i64 D]) ∧ Below u.heap.size u w' := fun u hu => by
    rw [hMe, hDe]
    exact rmedian_any ev es _ u (h5.sl.below hu (Nat.le_refl _)) hu.size (by omega)
  rw [← hMe] at hM ⊢
  rw [← hDe] at hW hW0 ⊢
  obtain ⟨n, hn2⟩ : ∃ n : Int, n = (es.length : Int) := ⟨_, rfl⟩
  rw [← hn2] at hlen
  have hni : ¬ n < 3 := by omega
  have HM : Hid _ := hmed
  have HQ : Hid (Qb w q ev m la ∧ q < B ∧ B ≤ w.heap.size) := ⟨h4, hqB, hB⟩
  have hpw : ¬ (q = w.heap.size) := by omega
  have hpw2 : ¬ (w.heap.size = q) := by omega
  clear h3 h4 h5 hn hn2 hmed hMe hDe
  go_enter Try.func22, Try.ntmps22
  go_simp
  repeat (first | go_values | go_skip | go_guarded | go_step | go_upon)
  refine (HM.out _ ((Below.refl _ w).alloc (Nat.le_refl _) _)).mono ?_
  rintro e w1 ⟨rfl, hb1⟩
  have hz : w.heap.size + 1 ≤ w1.heap.size := by have := hb1.size; simp at this; omega
  have hB1 : Below w.heap.size w w1 := ((Below.refl _ w).alloc (Nat.le_refl _) _).trans (hb1.mono (by simp))
  have hS1 : w1.heap[w.heap.size]? = some (.cells #[.int .i64 0, .int .i64 0, .int .i64 0, .int .u64 0] 49 (0, 0)) := (hb1.block w.heap.size (by simp)).trans (alloc_new w _)
  have hQ1 : Qb w1 q ev m la := (hB1.block q hlt).trans HQ.out.1
  obtain ⟨d0, d1, d2, df⟩ := hQ1.cells
  have H1 : Hid (Qb w1 q ev m la ∧ Below w.heap.size w w1 ∧ w1.heap[w.heap.size]? = some (.cells #[.int .i64 0, .int .i64 0, .int .i64 0, .int .u64 0] 49 (0, 0))) := ⟨hQ1, hB1, hS1⟩
  clear hb1 hB1 hS1 hQ1 c0 c1 c2 cf HM hlen
  go_wp2_with fail
  refine (radd_any _ _ _ (by omega) (by omega) (by omega) (by omega)).mono ?_
  rintro e w2 ⟨rfl, hb2⟩
  have hF2 : Fq q bo w w2 := by
    have hs : w1.heap.size ≤ w2.heap.size := by have := hb2.size; simpa using this
    have h1 := H1.out.2.1
    exact ⟨hb2.os.trans h1.os, hb2.tape.trans h1.tape, hb2.output.trans h1.output, Nat.le_trans h1.size hs, fun k hk hq _ => (hb2.block k (by simp; have := h1.size; omega)).trans ((Below.heap_setCell w1 _ _ k hq).trans (h1.block k hk))⟩
  have hQ2 : Qb w2 q (.slice none 0 0) m la := (hb2.block q (by simp; omega)).trans (H1.out.1.set0 _)
  have hS2 : w2.heap[w.heap.size]? = some (.cells #[.int .i64 0, .int .i64 0, .int .i64 0, .int .u64 0] 49 (0, 0)) := (hb2.block w.heap.size (by simp; omega)).trans ((Below.heap_setCell w1 _ _ _ hpw2).trans H1.out.2.2)
  have r0 : w2.cell? ⟨w.heap.size, 0, none⟩ = some (.int .i64 0) := by rw [cell_of_row w2 _ 0 _ _ (0, 0) hS2]; rfl
  have r1 : w2.cell? ⟨w.heap.size, 1, none⟩ = some (.int .i64 0) := by rw [cell_of_row w2 _ 1 _ _ (0, 0) hS2]; rfl
  have r2 : w2.cell? ⟨w.heap.size, 2, none⟩ = some (.int .i64 0) := by rw [cell_of_row w2 _ 2 _ _ (0, 0) hS2]; rfl
  have r3 : w2.cell? ⟨w.heap.size, 3, none⟩ = some (.int .u64 0) := by rw [cell_of_row w2 _ 3 _ _ (0, 0) hS2]; rfl
  have rf : ∀ o, w2.frozen? ⟨w.heap.size, o, none⟩ = false := fun o => by simp [World.frozen?, hS2]
  have hz2 : B ≤ w2.heap.size := by have := hF2.size; have := HQ.out.2.2; omega
  have H2 : Hid (Qb w2 q (.slice none 0 0) m la ∧ Fq q bo w w2 ∧ B ≤ w2.heap.size) := ⟨hQ2, hF2, hz2⟩
  clear hb2 hF2 hQ2 hS2 H1 d0 d1 d2 df hz2
  simp only []
  repeat (first | go_values | go_skip | go_guarded | go_step | go_upon)
  refine bodyPost_ret (v := .tuple #[smV (Fx.cl 4611686018427387904 (M + f)) (D / 2 + 4096) t, .bool true]) (by simp [results, Try.results22, go_sem, smV, r0, r1, r2, r3]) rfl ⟨rfl, ⟨HQ.out.2.1, by simp; exact H2.out.2.2, by simp, .slice none 0 0, ?_, Eg.nil _ _⟩, ?_⟩
  · exact (Below.heap_setCell _ _ _ q hpw).trans ((Below.heap_setCell _ _ _ q hpw).trans ((Below.heap_setCell _ _ _ q hpw).trans ((Below.heap_setCell _ _ _ q hpw).trans H2.out.1)))
  · exact (((H2.out.2.1.far _ _ (Nat.le_refl _)).far _ _ (Nat.le_refl _)).far _ _ (Nat.le_refl _)).far _ _ (Nat.le_refl _)
end Go.Proofs.Ytenlkadmniobdaa
