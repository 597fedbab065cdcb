/- Sort, as the reference has it. -/
import Derived.Test.YtmgphfdieekpdaaSJ
namespace Go.Proofs.Ytmgphfdieekpdaa
open Go Go.RowKit Go.Sort
theorem insF_take (ys : List Ru) (k : Nat) (h : k < ys.length) : insF (ys.take (k + 1)) = insR (insF (ys.take k)) ys[k] := by
  unfold insF
  rw [List.take_succ_eq_append_getElem h, List.foldl_append]
  rfl
theorem insR_len (o : List Ru) (r : Ru) : (insR o r).length ≤ o.length + 1 := by
  induction o with
  | nil => simp [insR_nil]
  | cons a t ih =>
    rw [insR]
    split
    · simp only [List.length_cons]; omega
    · split <;> simp only [List.length_cons] <;> omega
theorem insF_len (ys : List Ru) : (insF ys).length ≤ ys.length := by
  have aux : ∀ (zs js : List Ru), (zs.foldl insR js).length ≤ js.length + zs.length := by
    intro zs
    induction zs with
    | nil => intro js; simp
    | cons z t ih =>
      intro js
      rw [List.foldl_cons]
      have h1 := ih (insR js z)
      have h2 := insR_len js z
      rw [List.length_cons]; omega
  have := aux ys []
  unfold insF
  simpa using this
theorem insR_from : ∀ (o : List Ru) (r : Ru) (i : Nat), (∀ a ∈ o.take i, ltK a r) → insR o r = o.take i ++ insR (o.drop i) r := by
  intro o r i
  induction i generalizing o with
  | zero => intro _; simp
  | succ i ih =>
    intro h
    cases o with
    | nil => simp
    | cons a t =>
      rw [List.take_succ_cons] at h
      rw [insR_lt t (h a (List.mem_cons_self ..)), ih t (fun x hx => h x (List.mem_cons_of_mem _ hx)), List.take_succ_cons, List.drop_succ_cons]
      rfl
theorem insR_mid (o : List Ru) (r : Ru) (i : Nat) (hi : i < o.length) (h : ∀ a ∈ o.take i, ltK a r) (h1 : ¬ ltK o[i] r) (h2 : ¬ ltK r o[i]) : insR o r = o.set i (mgR o[i] r) := by
  rw [insR_from o r i h, List.drop_eq_getElem_cons hi, insR_eq _ h1 h2, List.set_eq_take_append_cons_drop, if_pos hi]
theorem insR_new (o : List Ru) (r : Ru) (i : Nat) (h : ∀ a ∈ o.take i, ltK a r) (h1 : ∀ hi : i < o.length, ltK r o[i]) : insR o r = o.take i ++ [r] ++ o.drop i := by
  rw [insR_from o r i h]
  rcases Nat.lt_or_ge i o.length with hlt | hge
  · rw [List.drop_eq_getElem_cons hlt, insR_gt _ (h1 hlt)]; simp
  · rw [List.drop_of_length_le hge, insR_nil]; simp
theorem take_grow (o : List Ru) (r : Ru) (i : Nat) (hi : i < o.length) (h : ∀ a ∈ o.take i, ltK a r) (h1 : ltK o[i] r) : ∀ a ∈ o.take (i + 1), ltK a r := by
  intro a ha
  rw [List.take_succ_eq_append_getElem hi] at ha
  rcases List.mem_append.1 ha with h2 | h2
  · exact h a h2
  · rw [List.mem_singleton] at h2; rw [h2]; exact h1
theorem ra_some3 (a : Addr) (n c : Nat) : Ra (.slice (some a) n c) := by intro n' c' h; injection h with h; cases h
theorem ru_len3 (xs : List Ru) : ∀ r ∈ xs.map ruL, r.length = 3 := by
  intro r hr
  obtain ⟨a, _, rfl⟩ := List.mem_map.1 hr
  rfl
theorem ru_one3 (xs : List Ru) : ∀ r ∈ xs.map ruL, ∀ u ∈ r, u.oneCell' = true := by
  intro r hr u hu
  obtain ⟨a, _, rfl⟩ := List.mem_map.1 hr
  exact one_ru _ _ _ u hu
theorem len_a {O : List Ru} (h : O.length ≤ 32) (i : Nat) : ([] : List (List Value)).length + ((O.take i).map ruL).length ≤ maxLen := by
  rw [List.length_map, List.length_take]; unfold maxLen; simp only [List.length_nil]; omega
theorem len_b {O : List Ru} (h : O.length ≤ 32) (i : Nat) : (([] : List (List Value)).length + ((O.take i).map ruL).length) * 24 ≤ 140737488355328 := by
  rw [List.length_map, List.length_take]; simp only [List.length_nil]; omega
theorem len_c {O : List Ru} (h : O.length ≤ 32) (i : Nat) (x : List Value) : ((O.take i).map ruL).length + [x].length ≤ maxLen := by
  rw [List.length_map, List.length_take]; unfold maxLen; simp only [List.length_cons, List.length_nil]; omega
theorem len_d {O : List Ru} (h : O.length ≤ 32) (i : Nat) (x : List Value) : (((O.take i).map ruL).length + [x].length) * 24 ≤ 140737488355328 := by
  rw [List.length_map, List.length_take]; simp only [List.length_cons, List.length_nil]; omega
theorem len_e {O : List Ru} (h : O.length ≤ 32) (i : Nat) (x : Ru) : ((O.take i ++ [x]).map ruL).length + ((O.drop i).map ruL).length ≤ maxLen := by
  rw [List.length_map, List.length_map, List.length_append, List.length_take, List.length_drop]; unfold maxLen; simp only [List.length_cons, List.length_nil]; omega
theorem len_f {O : List Ru} (h : O.length ≤ 32) (i : Nat) (x : Ru) : (((O.take i ++ [x]).map ruL).length + ((O.drop i).map ruL).length) * 24 ≤ 140737488355328 := by
  rw [List.length_map, List.length_map, List.length_append, List.length_take, List.length_drop]; simp only [List.length_cons, List.length_nil]; omega
theorem Rk.dropR {N : Nat} {w : World} {g n cap : Nat} {xs : List Ru} (h : Rk N w 3 (.slice (some ⟨g, 0, none⟩) n cap) (xs.map ruL)) (i : Nat) (hi : i ≤ xs.length) (hn : n = xs.length) : Rk N w 3 (.slice (some ⟨g, i * 3, none⟩) (n - i) (cap - i)) ((xs.drop i).map ruL) := by
  obtain ⟨ao, c, h1, h2, h3⟩ := h
  injection h1 with e1 e2 e3
  rw [List.length_map] at h2 h3
  subst e3
  have el : ((xs.drop i).map ruL).length = n - i := by rw [List.length_map, List.length_drop, hn]
  refine ⟨some ⟨g, i * 3, none⟩, cap - i, by rw [el], by rw [el]; omega, fun j hj => ?_⟩
  rw [el] at hj
  obtain ⟨ad, g1, g2, g3⟩ := h3 (i + j) (by omega)
  rw [← e1] at g1
  obtain rfl : (⟨g, 0, none⟩ : Addr) = ad := Option.some.inj g1
  refine ⟨_, rfl, g2, fun t u hu => ?_⟩
  have h5 := g3 t u (by
    rw [List.getD_eq_getElem?_getD, List.getElem?_map] at hu ⊢
    rw [List.getElem?_drop] at hu
    exact hu)
  rw [add_own] at h5
  have e9 : (⟨g, i * 3, none⟩ : Addr).add (j * 3 + t) = ⟨g, (i + j) * 3 + t, none⟩ := by
    unfold Addr.add
    have : i * 3 + (j * 3 + t) = (i + j) * 3 + t := by omega
    split
    · rename_i h0; have h1 : j * 3 + t = 0 := by simpa using h0
      have h2 : i * 3 = (i + j) * 3 + t := by omega
      rw [h2]
    · simp [this]
  rw [e9]
  exact h5
theorem rk_nil (N : Nat) (w : World) (k : Nat) (X : Option Addr) (c : Nat) : Rk N w k (.slice X 0 c) [] := ⟨X, c, rfl, Nat.zero_le _, fun i hi => absurd hi (by simp)⟩
theorem ra_if {jo : Option Addr} {i jc n m : Nat} (h : Ra (.slice jo i jc)) : Ra (.slice (if jc = m then jo else Option.map (fun x => x.add (m * 3)) jo) n (jc - m)) := by
  intro n' c' e
  injection e with e1 _ e3
  split at e1
  · omega
  · cases jo with
    | none => have := h _ _ rfl; omega
    | some a => cases e1
theorem len_g {O : List Ru} (h : O.length ≤ 32) (i : Nat) (x : Ru) : ((O.take i ++ [x]).map ruL).length + (([] : List Ru).map ruL).length ≤ maxLen := by
  rw [List.length_map, List.length_map, List.length_append, List.length_take]; unfold maxLen; simp only [List.length_cons, List.length_nil]; omega
theorem len_h {O : List Ru} (h : O.length ≤ 32) (i : Nat) (x : Ru) : (((O.take i ++ [x]).map ruL).length + (([] : List Ru).map ruL).length) * 24 ≤ 140737488355328 := by
  rw [List.length_map, List.length_map, List.length_append, List.length_take]; simp only [List.length_cons, List.length_nil]; omega
theorem ok_next {xs : List Ru} {k : Nat} {hk : k < xs.length} (h : ∀ j (hj : j < xs.length), j < k → okB xs[j] = true) (h1 : okB xs[k] = true) : ∀ j (hj : j < xs.length), j < k + 1 → okB xs[j] = true := by
  intro j hj hjk
  by_cases hj2 : j < k
  · exact h j hj hj2
  · have : j = k := by omega
    subst this
    exact h1
/-- what the reference's Sort tells -/
def rsR (xs : List Ru) (w' : World) (B : Nat) (v : Value) (er : Int) : Prop :=
  (er = 54 ∧ 32 < xs.length ∧ v = .slice none 0 0) ∨ (er = 60 ∧ xs.length ≤ 32 ∧ ¬ allOk xs ∧ v = .slice none 0 0) ∨ (er = 0 ∧ xs.length ≤ 32 ∧ allOk xs ∧ OR w' B 26 3 v ((insF xs).map ruL))
set_option maxHeartbeats 2000000 in
theorem rsort_any (N : Nat) (v : Value) (xs : List Ru) (w : World) (hN : N ≤ w.heap.size) (ha : Rk N w 3 v (xs.map ruL)) (hw : ∀ a ∈ xs, 0 ≤ a.addr ∧ a.addr < 4294967296) (hl : xs.length ≤ 140737488355328) :
    Calls Try.prog 15 #[v] w fun e w' => ∃ v' er, e = .returned (.tuple #[v', .int .i64 er]) ∧ rsR xs w' w.heap.size v' er ∧ Below w.heap.size w w' := by
  obtain ⟨ao, cap, hav, hc, -⟩ := ha.ru
  subst hav
  obtain ⟨L, hL⟩ : ∃ L, L = xs.length := ⟨_, rfl⟩
  rw [← hL] at ha ⊢
  have HL : Hid (L = xs.length) := hL
  by_cases h32 : (32 : Int) < L
  · have l0 : (L : Int) ≤ 140737488355328 := by omega
    clear ha hc
    go_enter Try.func15, Try.ntmps15
    go_wp2
    go_ret2
    exact ⟨_, _, rfl, .inl ⟨rfl, by have := HL.out; omega, rfl⟩, Below.refl _ _⟩
  · have l1 : (L : Int) ≤ 32 := by omega
    have HA : Hid (Rk N w 3 (.slice ao L cap) (xs.map ruL) ∧ N ≤ w.heap.size ∧ (∀ a ∈ xs, 0 ≤ a.addr ∧ a.addr < 4294967296)) := ⟨ha, hN, hw⟩
    clear ha hc hN hw hL hl h32
    go_enter Try.func15, Try.ntmps15
    go_wp2
    go_loopw [4, 15] (fun jv i wr => ∃ (k M : Nat) (jo : Option Addr) (jc : Nat), i = .int .i64 (k : Int) ∧ jv = .slice jo M jc ∧ (k : Int) ≤ L ∧ (M : Int) ≤ k ∧ Hid (OR wr w.heap.size 26 3 (.slice jo M jc) ((insF (xs.take k)).map ruL) ∧ M = (insF (xs.take k)).length) ∧ Hid (∀ j (hj : j < xs.length), j < k → okB xs[j] = true) ∧ Hid (Below w.heap.size w wr)) (fun _ i _ => (L - intOf i).toNat)
    case atStart => exact ⟨0, 0, none, 0, rfl, rfl, by omega, by omega, ⟨OR.nil _ _ _ _, rfl⟩, fun j _ hj => absurd hj (by omega), Below.refl _ _⟩
    case round =>
      obtain ⟨k, M, jo, jc, rfl, rfl, hk, hM, hR, hO, hB⟩ := hrel
      by_cases hlt : (k : Int) < L
      · have hkx : k < xs.length := by have := HL.out; omega
        obtain ⟨ad, g1, g2, g3⟩ := HA.out.1.at3 k hkx
        have hix : ∀ w, Sem.run Try.prog (Instr.indexAt 22 (.slice ao L cap) (.int .i64 (k : Int))) w = .ok (.pointer (some (ad.add (k * 3)))) w := ix_ru L cap k g1 hlt
        have HC : Hid (∀ j u, (ruL xs[k])[j]? = some u → wr.cell? ((ad.add (k * 3)).add j) = some u) := fun j u hu => by
          rw [hB.out.cell (p := (ad.add (k * 3)).add j) (by rw [add_block, add_block]; have := HA.out.2.1; omega)]
          exact g3 j u hu
        obtain ⟨E, hE⟩ : ∃ E, E = xs[k] := ⟨_, rfl⟩
        obtain ⟨A, hA0⟩ : ∃ A, A = ad.add (k * 3) := ⟨_, rfl⟩
        rw [← hA0] at hix HC
        rw [← hE] at HC
        have hab := HA.out.2.2 xs[k] (List.getElem_mem hkx)
        rw [← hE] at hab
        have HK0 : Hid (∀ b, okB E = b → okB xs[k] = b) := fun b hb => by rw [← hE]; exact hb
        have HI : Hid (insF (xs.take (k + 1)) = insR (insF (xs.take k)) E) := by rw [hE]; exact insF_take xs k hkx
        clear hA0 g1 g3 hE
        obtain ⟨x0, x1, x2⟩ := E
        unfold ruL at HC
        simp only at HC hab
        have HB1 : Hid (∀ o, Below w.heap.size w (wr.alloc o)) := fun o => hB.out.alloc hB.out.size o
        obtain ⟨C, hC⟩ : ∃ C, C = ckR ⟨x0, x1, x2⟩ := ⟨_, rfl⟩
        have HK : Hid (∀ u, Calls Try.prog 13 #[.agg #[.int .u32 x0, .int .i64 x1, .int .i64 x2]] u fun e w' => e = .returned (.int .i64 C) ∧ Below u.heap.size u w') := fun u => by rw [hC]; exact rcheck_any x0 x1 x2 u hab.1 hab.2
        cases hok : okB ⟨x0, x1, x2⟩
        · have hC0 : C = 60 := by rw [hC]; exact ckR_neg hok
          subst hC0
          have HNO : Hid (¬ allOk xs) := fun h => by
            have h1 := HK0.out _ hok
            rw [h xs[k] (List.getElem_mem hkx)] at h1
            cases h1
          clear hC hok
          go_wp2_with (first
            | (refine step_ldat 26 _ (by rfl) (by rfl) A (by rfl) [.int .u32 x0, .int .i64 x1, .int .i64 x2] _ Try.underlying26 (by rfl) ru_info ?_ ?_; exact HC.out)
            | (go_at_call 13; refine (HK.out _).mono ?_; rintro e w3 ⟨rfl, hb3⟩
               have HB3 : Hid (Below w.heap.size w w3) := (HB1.out _).trans (hb3.mono (HB1.out _).size)
               clear hb3))
          go_ret2
          exact ⟨_, _, rfl, .inr (.inl ⟨rfl, by have := HL.out; omega, HNO.out, rfl⟩), HB3.out⟩
        · have hC0 : C = 0 := by rw [hC]; exact ckR_pos hok
          subst hC0
          have HOK : Hid (okB xs[k] = true) := HK0.out _ hok
          clear hC hok
          go_wp2_with (first
            | (refine step_ldat 26 _ (by rfl) (by rfl) A (by rfl) [.int .u32 x0, .int .i64 x1, .int .i64 x2] _ Try.underlying26 (by rfl) ru_info ?_ ?_; exact HC.out)
            | (go_at_call 13; refine (HK.out _).mono ?_; rintro e w3 ⟨rfl, hb3⟩
               have HB3 : Hid (Below (wr.alloc (Obj.cells #[.int .u32 x0, .int .i64 x1, .int .i64 x2] 26)).heap.size (wr.alloc (Obj.cells #[.int .u32 x0, .int .i64 x1, .int .i64 x2] 26)) w3) := hb3
               clear hb3))
          obtain ⟨wa, rfl⟩ : ∃ wa, wa = wr := ⟨_, rfl⟩
          obtain ⟨O, hOe⟩ : ∃ O, O = insF (xs.take k) := ⟨_, rfl⟩
          have HR0 := hR.out
          rw [← hOe] at HR0 HI
          have HO3 : Hid (OR w3 w.heap.size 26 3 (.slice jo M jc) (O.map ruL) ∧ M = O.length ∧ O.length ≤ 32) := ⟨(HR0.1.alloc _).below HB3.out (Nat.le_refl _), HR0.2, by have := HR0.2; omega⟩
          have HW3 : Hid (Below w.heap.size w w3) := (HB1.out _).trans (HB3.out.mono (HB1.out _).size)
          have HS3 : Hid (wa.heap.size < w3.heap.size ∧ w.heap.size ≤ wa.heap.size) := ⟨by have := HB3.out.size; simp at this; omega, hB.out.size⟩
          have HRC : Hid (∀ j u, [Value.int .u32 x0, .int .i64 x1, .int .i64 x2][j]? = some u → w3.cell? ⟨wa.heap.size, j, none⟩ = some u) := fun j u hu => by
            rw [HB3.out.cell (p := ⟨wa.heap.size, j, none⟩) (by simp), (Bk.new wa _ _).cell j]
            simpa using hu
          clear HR0 hOe hR HB3 HK HC hix HB1 hB HK0
          go_loopw [8] (fun iv wr => ∃ i : Nat, iv = .int .i64 (i : Int) ∧ (i : Int) ≤ M ∧ Hid (∀ a ∈ O.take i, ltK a ⟨x0, x1, x2⟩) ∧ Hid (Below w3.heap.size w3 wr)) (fun iv _ => (M - intOf iv).toNat)
          case atStart => exact ⟨0, rfl, by omega, fun a ha => by simp at ha, Below.refl _ _⟩
          case round =>
            obtain ⟨i, rfl, hi, hT, hB6⟩ := hrel
            have r0 : wr.cell? ⟨wa.heap.size, 0, none⟩ = some (.int .u32 x0) := by rw [hB6.out.cell (p := ⟨wa.heap.size, 0, none⟩) HS3.out.1]; exact HRC.out 0 _ rfl
            have r1 : wr.cell? ⟨wa.heap.size, 1, none⟩ = some (.int .i64 x1) := by rw [hB6.out.cell (p := ⟨wa.heap.size, 1, none⟩) HS3.out.1]; exact HRC.out 1 _ rfl
            have r2 : wr.cell? ⟨wa.heap.size, 2, none⟩ = some (.int .i64 x2) := by rw [hB6.out.cell (p := ⟨wa.heap.size, 2, none⟩) HS3.out.1]; exact HRC.out 2 _ rfl
            have HOW : Hid (OR wr w.heap.size 26 3 (.slice jo M jc) (O.map ruL)) := HO3.out.1.below hB6.out (Nat.le_refl _)
            by_cases hil : (i : Int) < M
            · have hio : i < O.length := by have := HO3.out.2.1; omega
              obtain ⟨g, jc', hf, -, hg1, hg2⟩ := HOW.out.form (by rw [List.length_map]; omega)
              rw [List.length_map, ← HO3.out.2.1] at hf
              injection hf with hf _ hf2
              subst hf hf2
              have hixm : ∀ w, Sem.run Try.prog (Instr.indexAt 22 (.slice (some ⟨g, 0, none⟩) M jc) (.int .i64 (i : Int))) w = .ok (.pointer (some ⟨g, i * 3, none⟩)) w := fun u => by
                have := ix_ru (ad := ⟨g, 0, none⟩) M jc i rfl hil u
                rwa [add_own] at this
              have hrow := HOW.out.at i (by rw [List.length_map]; exact hio)
              rw [getD_map ruL O i hio] at hrow
              obtain ⟨l, hl⟩ : ∃ l, l = O[i] := ⟨_, rfl⟩
              rw [← hl] at hrow
              have HLm : Hid (∃ h : i < O.length, O[i] = l) := ⟨hio, hl.symm⟩
              obtain ⟨l0, l1', l2⟩ := l
              have t0 := hrow 0 _ rfl
              have t1 := hrow 1 _ rfl
              have t2 := hrow 2 _ rfl
              simp [Addr.add] at t0 t1 t2
              have HG2 : Hid (w.heap.size ≤ g ∧ g < wr.heap.size) := ⟨hg1, hg2⟩
              have HQ : Hid (wa.heap.size < wr.heap.size ∧ g < wr.heap.size) := ⟨Nat.lt_of_lt_of_le HS3.out.1 hB6.out.size, hg2⟩
              clear hrow hl hio hg1 hg2
              by_cases hl1 : ltK ⟨l0, l1', l2⟩ ⟨x0, x1, x2⟩
              · have HCR : Hid (∀ u, Calls Try.prog 31 #[.agg #[.int .u32 l0, .int .i64 l1', .int .i64 l2], .agg #[.int .u32 x0, .int .i64 x1, .int .i64 x2]] u fun e w' => e = .returned (.bool true) ∧ Below u.heap.size u w') := fun u => by
                  have h := less_any ⟨l0, l1', l2⟩ ⟨x0, x1, x2⟩ u
                  rw [(ltK_iff _ _).2 hl1] at h; exact h
                have HTG : Hid (∀ a ∈ O.take (i + 1), ltK a ⟨x0, x1, x2⟩) := by
                  obtain ⟨h1, h2⟩ := HLm.out
                  exact take_grow O _ i h1 hT.out (by rw [h2]; exact hl1)
                clear hl1
                go_wp2_with fail
                go_region_held3 (fun w' => w'.cell? ⟨wa.heap.size, 0, none⟩ = some (.int .u32 x0) ∧ w'.cell? ⟨wa.heap.size, 1, none⟩ = some (.int .i64 x1) ∧ w'.cell? ⟨wa.heap.size, 2, none⟩ = some (.int .i64 x2) ∧ w'.cell? ⟨g, i * 3, none⟩ = some (.int .u32 l0) ∧ w'.cell? ⟨g, i * 3 + 1, none⟩ = some (.int .i64 l1') ∧ w'.cell? ⟨g, i * 3 + 2, none⟩ = some (.int .i64 l2)) (first | exact ⟨pa0, pa1, pa2, ya0, ya1, ya2⟩ | exact ⟨r0, r1, r2, t0, t1, t2⟩ | go_keep) ((go_at_call 31; refine (HCR.out _).mono ?_; rintro e w5 ⟨rfl, hb5⟩; have HB5 : Hid (Below wr.heap.size wr w5) := (by first | exact hb5 | exact ((Below.refl _ _).drew).trans hb5); have pa0 : w5.cell? ⟨wa.heap.size, 0, none⟩ = some (.int .u32 x0) := (by rw [HB5.out.cell (p := ⟨wa.heap.size, 0, none⟩) HQ.out.1]; exact r0); have pa1 : w5.cell? ⟨wa.heap.size, 1, none⟩ = some (.int .i64 x1) := (by rw [HB5.out.cell (p := ⟨wa.heap.size, 1, none⟩) HQ.out.1]; exact r1); have pa2 : w5.cell? ⟨wa.heap.size, 2, none⟩ = some (.int .i64 x2) := (by rw [HB5.out.cell (p := ⟨wa.heap.size, 2, none⟩) HQ.out.1]; exact r2); have ya0 : w5.cell? ⟨g, i * 3, none⟩ = some (.int .u32 l0) := (by rw [HB5.out.cell (p := ⟨g, i * 3, none⟩) HQ.out.2]; exact t0); have ya1 : w5.cell? ⟨g, i * 3 + 1, none⟩ = some (.int .i64 l1') := (by rw [HB5.out.cell (p := ⟨g, i * 3 + 1, none⟩) HQ.out.2]; exact t1); have ya2 : w5.cell? ⟨g, i * 3 + 2, none⟩ = some (.int .i64 l2) := (by rw [HB5.out.cell (p := ⟨g, i * 3 + 2, none⟩) HQ.out.2]; exact t2); clear hb5))
                all_goals
                  go_wp2
                  exact ⟨⟨i + 1, by go_num, by omega, HTG, hB6.out.trans (HB5.out.mono hB6.out.size)⟩, by simp [intOf]; omega⟩
              · have HCR : Hid (∀ u, Calls Try.prog 31 #[.agg #[.int .u32 l0, .int .i64 l1', .int .i64 l2], .agg #[.int .u32 x0, .int .i64 x1, .int .i64 x2]] u fun e w' => e = .returned (.bool false) ∧ Below u.heap.size u w') := fun u => by
                  have h := less_any ⟨l0, l1', l2⟩ ⟨x0, x1, x2⟩ u
                  rw [lt_no hl1] at h; exact h
                have HN1 : Hid (¬ ltK ⟨l0, l1', l2⟩ ⟨x0, x1, x2⟩) := hl1
                clear hl1
                go_wp2_with fail
                go_region_held3 (fun w' => w'.cell? ⟨wa.heap.size, 0, none⟩ = some (.int .u32 x0) ∧ w'.cell? ⟨wa.heap.size, 1, none⟩ = some (.int .i64 x1) ∧ w'.cell? ⟨wa.heap.size, 2, none⟩ = some (.int .i64 x2) ∧ w'.cell? ⟨g, i * 3, none⟩ = some (.int .u32 l0) ∧ w'.cell? ⟨g, i * 3 + 1, none⟩ = some (.int .i64 l1') ∧ w'.cell? ⟨g, i * 3 + 2, none⟩ = some (.int .i64 l2)) (first | exact ⟨pa0, pa1, pa2, ya0, ya1, ya2⟩ | exact ⟨r0, r1, r2, t0, t1, t2⟩ | go_keep) ((go_at_call 31; refine (HCR.out _).mono ?_; rintro e w5 ⟨rfl, hb5⟩; have HB5 : Hid (Below wr.heap.size wr w5) := (by first | exact hb5 | exact ((Below.refl _ _).drew).trans hb5); have pa0 : w5.cell? ⟨wa.heap.size, 0, none⟩ = some (.int .u32 x0) := (by rw [HB5.out.cell (p := ⟨wa.heap.size, 0, none⟩) HQ.out.1]; exact r0); have pa1 : w5.cell? ⟨wa.heap.size, 1, none⟩ = some (.int .i64 x1) := (by rw [HB5.out.cell (p := ⟨wa.heap.size, 1, none⟩) HQ.out.1]; exact r1); have pa2 : w5.cell? ⟨wa.heap.size, 2, none⟩ = some (.int .i64 x2) := (by rw [HB5.out.cell (p := ⟨wa.heap.size, 2, none⟩) HQ.out.1]; exact r2); have ya0 : w5.cell? ⟨g, i * 3, none⟩ = some (.int .u32 l0) := (by rw [HB5.out.cell (p := ⟨g, i * 3, none⟩) HQ.out.2]; exact t0); have ya1 : w5.cell? ⟨g, i * 3 + 1, none⟩ = some (.int .i64 l1') := (by rw [HB5.out.cell (p := ⟨g, i * 3 + 1, none⟩) HQ.out.2]; exact t1); have ya2 : w5.cell? ⟨g, i * 3 + 2, none⟩ = some (.int .i64 l2) := (by rw [HB5.out.cell (p := ⟨g, i * 3 + 2, none⟩) HQ.out.2]; exact t2); clear hb5))
                have HB7 : Hid (Below w3.heap.size w3 w5) := hB6.out.trans (HB5.out.mono hB6.out.size)
                have HO7 : Hid (OR w5 w.heap.size 26 3 (.slice (some ⟨g, 0, none⟩) M jc) (O.map ruL)) := HOW.out.below HB5.out (Nat.le_refl _)
                have HQb : Hid (wa.heap.size < w5.heap.size ∧ g < w5.heap.size) := ⟨Nat.lt_of_lt_of_le HQ.out.1 HB5.out.size, Nat.lt_of_lt_of_le HQ.out.2 HB5.out.size⟩
                clear HCR r0 r1 r2 t0 t1 t2
                by_cases hl2 : ltK ⟨x0, x1, x2⟩ ⟨l0, l1', l2⟩
                · have HCR2 : Hid (∀ u, Calls Try.prog 31 #[.agg #[.int .u32 x0, .int .i64 x1, .int .i64 x2], .agg #[.int .u32 l0, .int .i64 l1', .int .i64 l2]] u fun e w' => e = .returned (.bool true) ∧ Below u.heap.size u w') := fun u => by
                    have h := less_any ⟨x0, x1, x2⟩ ⟨l0, l1', l2⟩ u
                    rw [(ltK_iff _ _).2 hl2] at h; exact h
                  have HIN : Hid (insF (xs.take (k + 1)) = O.take i ++ [⟨x0, x1, x2⟩] ++ O.drop i) := by
                    obtain ⟨h1, h2⟩ := HLm.out
                    show _ = _
                    rw [HI.out]
                    exact insR_new O _ i hT.out (fun h => by rw [h2]; exact hl2)
                  clear hl2
                  go_wp2_with fail
                  go_region_held3 (fun w' => w'.cell? ⟨wa.heap.size, 0, none⟩ = some (.int .u32 x0) ∧ w'.cell? ⟨wa.heap.size, 1, none⟩ = some (.int .i64 x1) ∧ w'.cell? ⟨wa.heap.size, 2, none⟩ = some (.int .i64 x2) ∧ w'.cell? ⟨g, i * 3, none⟩ = some (.int .u32 l0) ∧ w'.cell? ⟨g, i * 3 + 1, none⟩ = some (.int .i64 l1') ∧ w'.cell? ⟨g, i * 3 + 2, none⟩ = some (.int .i64 l2)) (first | exact ⟨pb0, pb1, pb2, yb0, yb1, yb2⟩ | exact ⟨pa0, pa1, pa2, ya0, ya1, ya2⟩ | go_keep) ((go_at_call 31; refine (HCR2.out _).mono ?_; rintro e w6 ⟨rfl, hb5⟩; have HB6 : Hid (Below w5.heap.size w5 w6) := (by first | exact hb5 | exact ((Below.refl _ _).drew).trans hb5); have pb0 : w6.cell? ⟨wa.heap.size, 0, none⟩ = some (.int .u32 x0) := (by rw [HB6.out.cell (p := ⟨wa.heap.size, 0, none⟩) HQb.out.1]; exact pa0); have pb1 : w6.cell? ⟨wa.heap.size, 1, none⟩ = some (.int .i64 x1) := (by rw [HB6.out.cell (p := ⟨wa.heap.size, 1, none⟩) HQb.out.1]; exact pa1); have pb2 : w6.cell? ⟨wa.heap.size, 2, none⟩ = some (.int .i64 x2) := (by rw [HB6.out.cell (p := ⟨wa.heap.size, 2, none⟩) HQb.out.1]; exact pa2); have yb0 : w6.cell? ⟨g, i * 3, none⟩ = some (.int .u32 l0) := (by rw [HB6.out.cell (p := ⟨g, i * 3, none⟩) HQb.out.2]; exact ya0); have yb1 : w6.cell? ⟨g, i * 3 + 1, none⟩ = some (.int .i64 l1') := (by rw [HB6.out.cell (p := ⟨g, i * 3 + 1, none⟩) HQb.out.2]; exact ya1); have yb2 : w6.cell? ⟨g, i * 3 + 2, none⟩ = some (.int .i64 l2) := (by rw [HB6.out.cell (p := ⟨g, i * 3 + 2, none⟩) HQb.out.2]; exact ya2); clear hb5))
                  have HO8 : Hid (OR w6 w.heap.size 26 3 (.slice (some ⟨g, 0, none⟩) M jc) (O.map ruL)) := HO7.out.below HB6.out (Nat.le_refl _)
                  have HB8 : Hid (Below w.heap.size w w6) := HW3.out.trans ((HB7.out.trans (HB6.out.mono HB7.out.size)).mono HW3.out.size)
                  have hij : i ≤ jc := by
                    obtain ⟨a, c, h1, h2, -⟩ := HO8.out.rk
                    injection h1 with _ h3 h4
                    omega
                  have hji : ¬ jc = i := by
                    obtain ⟨a, c, h1, h2, -⟩ := HO8.out.rk
                    injection h1 with _ h3 h4
                    omega
                  have HIO : Hid (i ≤ O.length) := by have := HO3.out.2.1; show _ ≤ _; omega
                  have HT1 : Hid (Rk w6.heap.size w6 3 (.slice (some ⟨g, 0, none⟩) i jc) ((O.take i).map ruL)) := by
                    have h := HO8.out.rk.take i (by rw [List.length_map]; exact HIO.out)
                    rw [← List.map_take] at h; exact h
                  have HT2 : Hid (Rk w6.heap.size w6 3 (.slice (some ⟨g, i * 3, none⟩) (M - i) (jc - i)) ((O.drop i).map ruL)) := HO8.out.rk.dropR i HIO.out HO3.out.2.1
                  have HN6 : Hid (O.length ≤ 32 ∧ w.heap.size ≤ w6.heap.size ∧ wa.heap.size < w6.heap.size) := ⟨HO3.out.2.2, HB8.out.size, Nat.lt_of_lt_of_le HQb.out.1 HB6.out.size⟩
                  clear pa0 pa1 pa2 ya0 ya1 ya2 yb0 yb1 yb2
                  go_wp2_with (refine wpList_appk tiRu (by rfl) _ _ (by rfl) w.heap.size w6.heap.size (.slice none 0 0) (.slice (some ⟨g, 0, none⟩) i jc) [] ((O.take i).map ruL) (by rfl) (by rfl) (OR.nil _ _ _ _) HT1.out (ra_some3 _ _ _) (ru_len3 _) (ru_one3 _) (len_a HN6.out.1 i) (len_b HN6.out.1 i) HN6.out.2.1 ?_)
                  intro v2 w2 ho2 hg2 hv2
                  have HX2 : Hid (Below w6.heap.size w6 w2) := (Below.refl _ _).grown hg2 (Nat.le_refl _) (fun q hq => by cases hq)
                  have HO2 : Hid (OR w2 w.heap.size 26 3 v2 ((O.take i).map ruL) ∧ (∀ q, v2.ownBlock = some q → w6.heap.size ≤ q)) := ⟨by simpa using ho2, fun q hq => by
                    rcases hv2 with h | h
                    · rw [h] at hq; cases hq
                    · rw [h] at hq; injection hq with hq; omega⟩
                  have q0 : w2.cell? ⟨wa.heap.size, 0, none⟩ = some (.int .u32 x0) := by rw [HX2.out.cell (p := ⟨wa.heap.size, 0, none⟩) HN6.out.2.2]; exact pb0
                  have q1 : w2.cell? ⟨wa.heap.size, 1, none⟩ = some (.int .i64 x1) := by rw [HX2.out.cell (p := ⟨wa.heap.size, 1, none⟩) HN6.out.2.2]; exact pb1
                  have q2 : w2.cell? ⟨wa.heap.size, 2, none⟩ = some (.int .i64 x2) := by rw [HX2.out.cell (p := ⟨wa.heap.size, 2, none⟩) HN6.out.2.2]; exact pb2
                  clear pb0 pb1 pb2 ho2 hg2 hv2
                  go_wp2_with (refine wpList_appk tiRu (by rfl) _ _ (by rfl) w.heap.size (w2.heap.size + 1) v2 (.slice (some ⟨w2.heap.size, 0, none⟩) 1 1) ((O.take i).map ruL) [[.int .u32 x0, .int .i64 x1, .int .i64 x2]] (by rfl) (by rfl) (HO2.out.1.alloc _) (rk_one3 _ _ _ _ _) (ra_one _) (ru_len3 [(⟨x0, x1, x2⟩ : Ru)]) (ru_one3 [(⟨x0, x1, x2⟩ : Ru)]) (len_c HN6.out.1 i _) (len_d HN6.out.1 i _) (Nat.le_trans HN6.out.2.1 (Nat.le_trans HX2.out.size (by simp))) ?_)
                  intro v7 w7 ho7 hg7 hv7
                  have HX7 : Hid (Below w6.heap.size w6 w7) := (HX2.out.alloc HX2.out.size _).grown hg7 (Nat.le_trans HX2.out.size (by simp)) HO2.out.2
                  have ho8 : OR w7 w.heap.size 26 3 v7 ((O.take i ++ [(⟨x0, x1, x2⟩ : Ru)]).map ruL) := by simpa [ruL] using ho7
                  have HO9 : Hid (OR w7 w.heap.size 26 3 v7 ((O.take i ++ [(⟨x0, x1, x2⟩ : Ru)]).map ruL)) := ho8
                  clear ho8 ho7 hg7 hv7 q0 q1 q2
                  go_wp2_with (refine wpList_appk tiRu (by rfl) _ _ (by rfl) w.heap.size w6.heap.size v7 (.slice (some ⟨g, i * 3, none⟩) (M - i) (jc - i)) ((O.take i ++ [(⟨x0, x1, x2⟩ : Ru)]).map ruL) ((O.drop i).map ruL) (by rfl) (by simp [Act.eval]) HO9.out (HT2.out.below HX7.out (Nat.le_refl _)) (ra_some3 _ _ _) (ru_len3 _) (ru_one3 _) (len_e HN6.out.1 i _) (len_f HN6.out.1 i _) (Nat.le_trans HN6.out.2.1 HX7.out.size) ?_)
                  intro v9 w9 ho9 hg9 hv9
                  have HB9 : Hid (Below w.heap.size w w9) := (HB8.out.trans (HX7.out.mono HN6.out.2.1)).grown hg9 (Nat.le_trans HN6.out.2.1 HX7.out.size) (fun q hq => (HO9.out.row.lt q hq).1)
                  have ho10 : OR w9 w.heap.size 26 3 v9 ((insF (xs.take (k + 1))).map ruL) := by
                    rw [HIN.out]; simpa using ho9
                  obtain ⟨jo2, jc2, hv3, -, -⟩ := ho10.rk
                  rw [List.length_map] at hv3
                  obtain ⟨M2, hM2⟩ : ∃ M2, M2 = (insF (xs.take (k + 1))).length := ⟨_, rfl⟩
                  rw [← hM2] at hv3
                  subst hv3
                  have HO10 : Hid (OR w9 w.heap.size 26 3 (.slice jo2 M2 jc2) ((insF (xs.take (k + 1))).map ruL) ∧ M2 = (insF (xs.take (k + 1))).length) := ⟨ho10, hM2⟩
                  have hMk : (M2 : Int) ≤ k + 1 := by
                    have := insF_len (xs.take (k + 1))
                    rw [← hM2, List.length_take] at this
                    omega
                  clear ho9 ho10 hg9 hv9 hM2
                  go_wp2
                  exact ⟨⟨k + 1, M2, jo2, jc2, by go_num, rfl, by omega, by omega, HO10, ok_next hO.out HOK.out, HB9⟩, by simp [intOf]; omega⟩
                · have HCR2 : Hid (∀ u, Calls Try.prog 31 #[.agg #[.int .u32 x0, .int .i64 x1, .int .i64 x2], .agg #[.int .u32 l0, .int .i64 l1', .int .i64 l2]] u fun e w' => e = .returned (.bool false) ∧ Below u.heap.size u w') := fun u => by
                    have h := less_any ⟨x0, x1, x2⟩ ⟨l0, l1', l2⟩ u
                    rw [lt_no hl2] at h; exact h
                  have HIN : Hid (insF (xs.take (k + 1)) = O.set i ⟨l0, l1', orI l2 x2⟩) := by
                    obtain ⟨h1, h2⟩ := HLm.out
                    show _ = _
                    rw [HI.out]
                    rw [insR_mid O _ i h1 hT.out (by rw [h2]; exact HN1.out) (by rw [h2]; exact hl2), h2]; rfl
                  clear hl2
                  go_wp2_with fail
                  go_region_held3 (fun w' => w'.cell? ⟨wa.heap.size, 0, none⟩ = some (.int .u32 x0) ∧ w'.cell? ⟨wa.heap.size, 1, none⟩ = some (.int .i64 x1) ∧ w'.cell? ⟨wa.heap.size, 2, none⟩ = some (.int .i64 x2) ∧ w'.cell? ⟨g, i * 3, none⟩ = some (.int .u32 l0) ∧ w'.cell? ⟨g, i * 3 + 1, none⟩ = some (.int .i64 l1') ∧ w'.cell? ⟨g, i * 3 + 2, none⟩ = some (.int .i64 l2)) (first | exact ⟨pb0, pb1, pb2, yb0, yb1, yb2⟩ | exact ⟨pa0, pa1, pa2, ya0, ya1, ya2⟩ | go_keep) ((go_at_call 31; refine (HCR2.out _).mono ?_; rintro e w6 ⟨rfl, hb5⟩; have HB6 : Hid (Below w5.heap.size w5 w6) := (by first | exact hb5 | exact ((Below.refl _ _).drew).trans hb5); have pb0 : w6.cell? ⟨wa.heap.size, 0, none⟩ = some (.int .u32 x0) := (by rw [HB6.out.cell (p := ⟨wa.heap.size, 0, none⟩) HQb.out.1]; exact pa0); have pb1 : w6.cell? ⟨wa.heap.size, 1, none⟩ = some (.int .i64 x1) := (by rw [HB6.out.cell (p := ⟨wa.heap.size, 1, none⟩) HQb.out.1]; exact pa1); have pb2 : w6.cell? ⟨wa.heap.size, 2, none⟩ = some (.int .i64 x2) := (by rw [HB6.out.cell (p := ⟨wa.heap.size, 2, none⟩) HQb.out.1]; exact pa2); have yb0 : w6.cell? ⟨g, i * 3, none⟩ = some (.int .u32 l0) := (by rw [HB6.out.cell (p := ⟨g, i * 3, none⟩) HQb.out.2]; exact ya0); have yb1 : w6.cell? ⟨g, i * 3 + 1, none⟩ = some (.int .i64 l1') := (by rw [HB6.out.cell (p := ⟨g, i * 3 + 1, none⟩) HQb.out.2]; exact ya1); have yb2 : w6.cell? ⟨g, i * 3 + 2, none⟩ = some (.int .i64 l2) := (by rw [HB6.out.cell (p := ⟨g, i * 3 + 2, none⟩) HQb.out.2]; exact ya2); clear hb5))
                  have HO8 : Hid (OR w6 w.heap.size 26 3 (.slice (some ⟨g, 0, none⟩) M jc) (O.map ruL)) := HO7.out.below HB6.out (Nat.le_refl _)
                  have HB8 : Hid (Below w.heap.size w w6) := HW3.out.trans ((HB7.out.trans (HB6.out.mono HB7.out.size)).mono HW3.out.size)
                  have hfu : ∀ j, w6.frozen? ⟨g, j, none⟩ = false := fun j => HO8.out.frozen j
                  clear pa0 pa1 pa2 ya0 ya1 ya2
                  go_wp2
                  go_region
                  all_goals
                    go_wp2
                    have h9 := HO8.out.cellSet0 (i := i) (by rw [List.length_map]; have := HO3.out.2.1; omega) 2 (by decide) (.int .i64 (orI l2 x2))
                    have e9 : (O.map ruL).set i (((O.map ruL).getD i []).set 2 (.int .i64 (orI l2 x2))) = (insF (xs.take (k + 1))).map ruL := by
                      obtain ⟨h1, h2⟩ := HLm.out
                      rw [HIN.out, List.map_set, getD_map ruL O i h1, h2]; rfl
                    rw [e9] at h9
                    have hMl : M = (insF (xs.take (k + 1))).length := by rw [HIN.out, List.length_set]; exact HO3.out.2.1
                    have hbl : Below w.heap.size w (w6.setCell ⟨g, i * 3 + 2, none⟩ (.int .i64 (orI l2 x2))) := HB8.out.setCell HG2.out.1 _
                    first
                    | exact ⟨⟨k + 1, M, some ⟨g, 0, none⟩, jc, by go_num, rfl, by omega, by omega, ⟨h9.1, hMl⟩, ok_next hO.out HOK.out, hbl⟩, by simp [intOf]; omega⟩
                    | exact ⟨⟨k + 1, M, some ⟨g, 0, none⟩, jc, by go_num, rfl, by omega, by omega, ⟨h9.1.drew, hMl⟩, ok_next hO.out HOK.out, hbl.drew⟩, by simp [intOf]; omega⟩
            · obtain rfl : i = M := by omega
              go_wp2_with fail
              go_region
              all_goals
                go_wp2_with fail
                go_region
                all_goals
                  generalize hU : World.drew _ = w6
                  have HO8 : Hid (OR w6 w.heap.size 26 3 (.slice jo i jc) (O.map ruL)) := by rw [← hU]; exact HOW.out.drew.drew
                  have HB8 : Hid (Below w.heap.size w w6) := by rw [← hU]; exact (HW3.out.trans (hB6.out.mono HW3.out.size)).drew.drew
                  have HS6 : Hid (wa.heap.size < w6.heap.size) := by rw [← hU]; exact Nat.lt_of_lt_of_le HS3.out.1 hB6.out.size
                  have pb0 : w6.cell? ⟨wa.heap.size, 0, none⟩ = some (.int .u32 x0) := by rw [← hU]; exact r0
                  have pb1 : w6.cell? ⟨wa.heap.size, 1, none⟩ = some (.int .i64 x1) := by rw [← hU]; exact r1
                  have pb2 : w6.cell? ⟨wa.heap.size, 2, none⟩ = some (.int .i64 x2) := by rw [← hU]; exact r2
                  clear hU r0 r1 r2
                  have HIN : Hid (insF (xs.take (k + 1)) = O.take i ++ [⟨x0, x1, x2⟩]) := by
                    show _ = _
                    rw [HI.out, insR_new O _ i hT.out (fun h => absurd h (by have := HO3.out.2.1; omega)), List.drop_of_length_le (by have := HO3.out.2.1; omega), List.append_nil]
                  have hij : i ≤ jc := by
                    obtain ⟨a, c, h1, h2, -⟩ := HO8.out.rk
                    injection h1 with _ h3 h4
                    omega
                  have HIO : Hid (i ≤ O.length) := by have := HO3.out.2.1; show _ ≤ _; omega
                  have HT1 : Hid (Rk w6.heap.size w6 3 (.slice jo i jc) ((O.take i).map ruL)) := by
                    have h := HO8.out.rk.take i (by rw [List.length_map]; exact HIO.out)
                    rw [← List.map_take] at h; exact h
                  have HT2 : Hid (Rk w6.heap.size w6 3 (.slice (if jc = i then jo else Option.map (fun x => x.add (i * 3)) jo) 0 (jc - i)) ([] : List (List Value))) := rk_nil _ _ _ _ _
                  have HRA : Hid (Ra (.slice jo i jc)) := HO8.out.ra
                  have HN6 : Hid (O.length ≤ 32 ∧ w.heap.size ≤ w6.heap.size ∧ wa.heap.size < w6.heap.size) := ⟨HO3.out.2.2, HB8.out.size, HS6.out⟩
                  go_wp2_with (refine wpList_appk tiRu (by rfl) _ _ (by rfl) w.heap.size w6.heap.size (.slice none 0 0) (.slice jo i jc) [] ((O.take i).map ruL) (by rfl) (by rfl) (OR.nil _ _ _ _) HT1.out HRA.out (ru_len3 _) (ru_one3 _) (len_a HN6.out.1 i) (len_b HN6.out.1 i) HN6.out.2.1 ?_)
                  intro v2 w2 ho2 hg2 hv2
                  have HX2 : Hid (Below w6.heap.size w6 w2) := (Below.refl _ _).grown hg2 (Nat.le_refl _) (fun q hq => by cases hq)
                  have HO2 : Hid (OR w2 w.heap.size 26 3 v2 ((O.take i).map ruL) ∧ (∀ q, v2.ownBlock = some q → w6.heap.size ≤ q)) := ⟨by simpa using ho2, fun q hq => by
                    rcases hv2 with h | h
                    · rw [h] at hq; cases hq
                    · rw [h] at hq; injection hq with hq; omega⟩
                  have q0 : w2.cell? ⟨wa.heap.size, 0, none⟩ = some (.int .u32 x0) := by rw [HX2.out.cell (p := ⟨wa.heap.size, 0, none⟩) HN6.out.2.2]; exact pb0
                  have q1 : w2.cell? ⟨wa.heap.size, 1, none⟩ = some (.int .i64 x1) := by rw [HX2.out.cell (p := ⟨wa.heap.size, 1, none⟩) HN6.out.2.2]; exact pb1
                  have q2 : w2.cell? ⟨wa.heap.size, 2, none⟩ = some (.int .i64 x2) := by rw [HX2.out.cell (p := ⟨wa.heap.size, 2, none⟩) HN6.out.2.2]; exact pb2
                  clear pb0 pb1 pb2 ho2 hg2 hv2
                  go_wp2_with (refine wpList_appk tiRu (by rfl) _ _ (by rfl) w.heap.size (w2.heap.size + 1) v2 (.slice (some ⟨w2.heap.size, 0, none⟩) 1 1) ((O.take i).map ruL) [[.int .u32 x0, .int .i64 x1, .int .i64 x2]] (by rfl) (by rfl) (HO2.out.1.alloc _) (rk_one3 _ _ _ _ _) (ra_one _) (ru_len3 [(⟨x0, x1, x2⟩ : Ru)]) (ru_one3 [(⟨x0, x1, x2⟩ : Ru)]) (len_c HN6.out.1 i _) (len_d HN6.out.1 i _) (Nat.le_trans HN6.out.2.1 (Nat.le_trans HX2.out.size (by simp))) ?_)
                  intro v7 w7 ho7 hg7 hv7
                  have HX7 : Hid (Below w6.heap.size w6 w7) := (HX2.out.alloc HX2.out.size _).grown hg7 (Nat.le_trans HX2.out.size (by simp)) HO2.out.2
                  have ho8 : OR w7 w.heap.size 26 3 v7 ((O.take i ++ [(⟨x0, x1, x2⟩ : Ru)]).map ruL) := by simpa [ruL] using ho7
                  have HO9 : Hid (OR w7 w.heap.size 26 3 v7 ((O.take i ++ [(⟨x0, x1, x2⟩ : Ru)]).map ruL)) := ho8
                  clear ho8 ho7 hg7 hv7 q0 q1 q2
                  go_wp2_with (refine wpList_appk tiRu (by rfl) _ _ (by rfl) w.heap.size w6.heap.size v7 (.slice (if jc = i then jo else Option.map (fun x => x.add (i * 3)) jo) 0 (jc - i)) ((O.take i ++ [(⟨x0, x1, x2⟩ : Ru)]).map ruL) (([] : List Ru).map ruL) (by rfl) (by simp [Act.eval]) HO9.out (HT2.out.below HX7.out (Nat.le_refl _)) (ra_if HRA.out) (ru_len3 _) (ru_one3 _) (len_g HN6.out.1 i _) (len_h HN6.out.1 i _) (Nat.le_trans HN6.out.2.1 HX7.out.size) ?_)
                  all_goals
                    intro v9 w9 ho9 hg9 hv9
                    have HB9 : Hid (Below w.heap.size w w9) := (HB8.out.trans (HX7.out.mono HN6.out.2.1)).grown hg9 (Nat.le_trans HN6.out.2.1 HX7.out.size) (fun q hq => (HO9.out.row.lt q hq).1)
                    have ho10 : OR w9 w.heap.size 26 3 v9 ((insF (xs.take (k + 1))).map ruL) := by
                      rw [HIN.out]; simpa using ho9
                    obtain ⟨jo2, jc2, hv3, -, -⟩ := ho10.rk
                    rw [List.length_map] at hv3
                    obtain ⟨M2, hM2⟩ : ∃ M2, M2 = (insF (xs.take (k + 1))).length := ⟨_, rfl⟩
                    rw [← hM2] at hv3
                    subst hv3
                    have HO10 : Hid (OR w9 w.heap.size 26 3 (.slice jo2 M2 jc2) ((insF (xs.take (k + 1))).map ruL) ∧ M2 = (insF (xs.take (k + 1))).length) := ⟨ho10, hM2⟩
                    have hMk : (M2 : Int) ≤ k + 1 := by
                      have := insF_len (xs.take (k + 1))
                      rw [← hM2, List.length_take] at this
                      omega
                    clear ho9 ho10 hg9 hv9 hM2
                    go_wp2
                    exact ⟨⟨k + 1, M2, jo2, jc2, by go_num, rfl, by omega, by omega, HO10, ok_next hO.out HOK.out, HB9⟩, by simp [intOf]; omega⟩
      · have HALL : Hid (allOk xs) := fun r hr => by
          obtain ⟨j, hj, rfl⟩ := List.getElem_of_mem hr
          exact hO.out j hj (by have := HL.out; omega)
        have HF : Hid (insF (xs.take k) = insF xs) := by
          show _ = _
          rw [List.take_of_length_le (by have := HL.out; omega)]
        go_wp2
        go_ret2
        exact ⟨_, _, rfl, .inr (.inr ⟨rfl, by have := HL.out; omega, HALL.out, by rw [← HF.out]; exact hR.out.1⟩), hB.out⟩
end Go.Proofs.Ytmgphfdieekpdaa
