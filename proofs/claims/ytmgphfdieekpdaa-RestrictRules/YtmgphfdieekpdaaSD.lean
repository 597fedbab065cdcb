/- Sort of the program. -/
import Derived.Test.YtmgphfdieekpdaaSC
import Derived.Test.YtmgphfdieekpdaaRC
import Derived.Shelf.SlSortCmp.NoneTotal
namespace Go.Proofs.Ytmgphfdieekpdaa
open Go Go.RowKit Go.Sort
theorem sortAll_any (B : Nat) (v : Value) (xs : List Ru) (w : World) (h : OR w B 26 3 v (xs.map ruL)) (hB : B ≤ w.heap.size) (hl : xs.length ≤ 100000) :
    Calls Try.prog 28 #[v, .func (.func 29) #[] #[]] w fun e w' => e = .returned (.tuple #[]) ∧ ∃ ys : List Ru, ys.Perm xs ∧ ys.Pairwise (fun a b => ltR b a = false) ∧ OR w' B 26 3 v (ys.map ruL) ∧ Below B w w' := by
  by_cases h0 : xs = []
  · subst h0
    obtain ⟨ao, cap, hv, -, -⟩ := h.rk
    rw [List.map_nil, List.length_nil] at hv
    subst hv
    have hcon := Proofs.AnyF.slices_SortFunc_none Try.sortRu ao cap (.func (.func 29) #[] #[]) w
    change Calls Try.prog 28 _ _ _ at hcon
    refine hcon.mono ?_
    rintro e w' ⟨rfl, rfl⟩
    exact ⟨rfl, [], List.Perm.refl _, List.Pairwise.nil, h, Below.refl _ _⟩
  · obtain ⟨g, cap, hv, hc, hg1, hg2⟩ := h.form (by rw [List.length_map]; exact List.length_pos_iff.2 h0)
    rw [List.length_map] at hv
    subst hv
    refine (sortRu_any B g cap xs w h hg2 hl).mono ?_
    rintro e w' ⟨rfl, ys, h1, h2, h3, h4⟩
    exact ⟨rfl, ys, h1, h2, h3, (Below.refl _ _).grown h4 hB (fun k hk => by injection hk with hk; omega)⟩
def allOk (xs : List Ru) : Prop := ∀ r ∈ xs, okB r = true
/-- what Sort tells -/
def srR (xs : List Ru) (w' : World) (B : Nat) (v : Value) (er : Int) : Prop :=
  (er = 54 ∧ 32 < xs.length ∧ v = .slice none 0 0) ∨ (er = 60 ∧ xs.length ≤ 32 ∧ ¬ allOk xs ∧ v = .slice none 0 0) ∨ (er = 0 ∧ xs.length ≤ 32 ∧ allOk xs ∧ ∃ ys : List Ru, ys.Perm xs ∧ ys.Pairwise (fun a b => ltR b a = false) ∧ OR w' B 26 3 v ((jn ys).map ruL))
set_option maxHeartbeats 2000000 in
theorem sort_any (N : Nat) (v : Value) (xs : List Ru) (w : World) (hN : N ≤ w.heap.size) (ha : Rk N w 3 v (xs.map ruL)) (hra : Ra v) (hw : ∀ a ∈ xs, 0 ≤ a.addr ∧ a.addr < 4294967296) (hl : xs.length ≤ 140737488355328) :
    Calls Try.prog 14 #[v] w fun e w' => ∃ v' er, e = .returned (.tuple #[v', .int .i64 er]) ∧ srR xs w' w.heap.size v' er ∧ Below w.heap.size w w' := by
  obtain ⟨ao, cap, hav, hc, -⟩ := ha.ru
  subst hav
  obtain ⟨L, hL⟩ : ∃ L, L = xs.length := ⟨_, rfl⟩
  rw [← hL] at ha hra ⊢
  have HL : Hid (L = xs.length) := hL
  by_cases h32 : (32 : Int) < L
  · have l0 : (L : Int) ≤ 140737488355328 := by omega
    clear ha hra hc
    go_enter Try.func14, Try.ntmps14
    go_wp2
    go_ret2
    exact ⟨_, _, rfl, .inl ⟨rfl, by have := HL.out; omega, rfl⟩, Below.refl _ _⟩
  · have l1 : (L : Int) ≤ 32 := by omega
    have HA : Hid (Rk N w 3 (.slice ao L cap) (xs.map ruL) ∧ Ra (.slice ao L cap) ∧ N ≤ w.heap.size ∧ (∀ a ∈ xs, 0 ≤ a.addr ∧ a.addr < 4294967296)) := ⟨ha, hra, hN, hw⟩
    clear ha hra hc hN hw hL hl h32
    go_enter Try.func14, Try.ntmps14
    go_wp2
    go_loopw [13] (fun i wr => ∃ (k : Nat), i = .int .i64 (k : Int) ∧ (k : Int) ≤ L ∧ Hid (∀ j (hj : j < xs.length), j < k → okB xs[j] = true) ∧ Hid (Below w.heap.size w wr)) (fun i _ => (L - intOf i).toNat)
    case atStart => exact ⟨0, rfl, by omega, fun j _ hj => absurd hj (by omega), Below.refl _ _⟩
    case round =>
      obtain ⟨k, rfl, hk, hO, hB⟩ := hrel
      by_cases hlt : (k : Int) < L
      · have hkx : k < xs.length := by have := HL.out; omega
        obtain ⟨ad, g1, g2, g3⟩ := HA.out.1.at3 k hkx
        have hix : ∀ w, Sem.run Try.prog (Instr.indexAt 22 (.slice ao L cap) (.int .i64 (k : Int))) w = .ok (.pointer (some (ad.add (k * 3)))) w := ix_ru L cap k g1 hlt
        have HC : Hid (∀ j u, (ruL xs[k])[j]? = some u → wr.cell? ((ad.add (k * 3)).add j) = some u) := fun j u hu => by
          rw [hB.out.cell (p := (ad.add (k * 3)).add j) (by rw [add_block, add_block]; have := HA.out.2.2.1; omega)]
          exact g3 j u hu
        obtain ⟨E, hE⟩ : ∃ E, E = xs[k] := ⟨_, rfl⟩
        obtain ⟨A, hA0⟩ : ∃ A, A = ad.add (k * 3) := ⟨_, rfl⟩
        rw [← hA0] at hix HC
        rw [← hE] at HC
        have hab := HA.out.2.2.2 xs[k] (List.getElem_mem hkx)
        rw [← hE] at hab
        have HK0 : Hid (∀ b, okB E = b → okB xs[k] = b) := fun b hb => by rw [← hE]; exact hb
        clear hA0 g1 g3 hE
        obtain ⟨x0, x1, x2⟩ := E
        unfold ruL at HC
        simp only at HC hab
        have HB1 : Hid (∀ o, Below w.heap.size w (wr.alloc o)) := fun o => hB.out.alloc hB.out.size o
        obtain ⟨C, hC⟩ : ∃ C, C = ckR ⟨x0, x1, x2⟩ := ⟨_, rfl⟩
        have HK : Hid (∀ u, Calls Try.prog 12 #[.agg #[.int .u32 x0, .int .i64 x1, .int .i64 x2]] u fun e w' => e = .returned (.int .i64 C) ∧ Below u.heap.size u w') := fun u => by rw [hC]; exact check_any x0 x1 x2 u hab.1
        cases hok : okB ⟨x0, x1, x2⟩
        · have hC0 : C = 60 := by rw [hC]; exact ckR_neg hok
          subst hC0
          have HNO : Hid (¬ allOk xs) := fun h => by
            have h1 := HK0.out _ hok
            rw [h xs[k] (List.getElem_mem hkx)] at h1
            cases h1
          clear hC hok
          go_wp2_with (first
            | (refine step_ldat 26 _ (by rfl) (by rfl) A (by rfl) [.int .u32 x0, .int .i64 x1, .int .i64 x2] _ Try.underlying26 (by rfl) ru_info ?_ ?_; exact HC.out)
            | (go_at_call 12; refine (HK.out _).mono ?_; rintro e w3 ⟨rfl, hb3⟩
               have HB3 : Hid (Below w.heap.size w w3) := (HB1.out _).trans (hb3.mono (HB1.out _).size)
               clear hb3))
          go_ret2
          exact ⟨_, _, rfl, .inr (.inl ⟨rfl, by have := HL.out; omega, HNO.out, rfl⟩), HB3.out⟩
        · have hC0 : C = 0 := by rw [hC]; exact ckR_pos hok
          subst hC0
          have HOK : Hid (okB xs[k] = true) := HK0.out _ hok
          clear hC hok
          go_wp2_with (first
            | (refine step_ldat 26 _ (by rfl) (by rfl) A (by rfl) [.int .u32 x0, .int .i64 x1, .int .i64 x2] _ Try.underlying26 (by rfl) ru_info ?_ ?_; exact HC.out)
            | (go_at_call 12; refine (HK.out _).mono ?_; rintro e w3 ⟨rfl, hb3⟩
               have HB3 : Hid (Below w.heap.size w w3) := (HB1.out _).trans (hb3.mono (HB1.out _).size)
               clear hb3))
          refine ⟨⟨k + 1, by go_num, by omega, fun j hj hjk => ?_, HB3⟩, by simp [intOf]; omega⟩
          by_cases hj2 : j < k
          · exact hO.out j hj hj2
          · have : j = k := by omega
            subst this
            exact HOK.out
      · have HALL : Hid (allOk xs) := fun r hr => by
          obtain ⟨j, hj, rfl⟩ := List.getElem_of_mem hr
          exact hO.out j hj (by have := HL.out; omega)
        have HCL : Hid (Calls Try.prog 27 #[.slice ao L cap] wr fun e w' => ∃ v', e = .returned v' ∧ OR w' wr.heap.size 26 3 v' (xs.map ruL) ∧ Below wr.heap.size wr w') :=
          clone_any N _ xs wr (Nat.le_trans HA.out.2.2.1 hB.out.size) (HA.out.1.below hB.out HA.out.2.2.1) HA.out.2.1 (by have := HL.out; omega)
        go_wp2_with fail
        refine HCL.out.mono ?_
        rintro e w1 ⟨v1, rfl, ho1, hb1⟩
        have HO1 : Hid (OR w1 wr.heap.size 26 3 v1 (xs.map ruL) ∧ wr.heap.size ≤ w1.heap.size) := ⟨ho1, hb1.size⟩
        have HB1 : Hid (Below w.heap.size w w1) := hB.out.trans (hb1.mono hB.out.size)
        clear ho1 hb1
        go_wp2_with fail
        refine (sortAll_any wr.heap.size v1 xs w1 HO1.out.1 HO1.out.2 (by have := HL.out; omega)).mono ?_
        rintro e w2 ⟨rfl, ys, hp, hs, ho2, hb2⟩
        have HO2 : Hid (OR w2 wr.heap.size 26 3 v1 (ys.map ruL) ∧ ys.Perm xs ∧ ys.Pairwise (fun a b => ltR b a = false)) := ⟨ho2, hp, hs⟩
        have HB2 : Hid (Below w.heap.size w w2) := HB1.out.trans (hb2.mono hB.out.size)
        clear ho2 hb2 hp hs
        go_wp2_with fail
        refine (join_any w2.heap.size v1 ys w2 (Nat.le_refl _) HO2.out.1.rk (by have := HO2.out.2.1.length_eq; have := HL.out; omega)).mono ?_
        rintro e w3 ⟨v3, rfl, ho3, hb3⟩
        have HO3 : Hid (OR w3 w.heap.size 26 3 v3 ((jn ys).map ruL) ∧ Below w.heap.size w w3) := ⟨ho3.mono HB2.out.size, HB2.out.trans (hb3.mono HB2.out.size)⟩
        clear ho3 hb3
        go_wp2_with fail
        go_ret2
        exact ⟨_, _, rfl, .inr (.inr ⟨rfl, by have := HL.out; omega, HALL.out, ys, HO2.out.2.1, HO2.out.2.2, HO3.out.1⟩), HO3.out.2⟩
end Go.Proofs.Ytmgphfdieekpdaa
