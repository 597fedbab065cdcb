/- Auth: Parse at the document's example. -/
import Derived.Test.YtocimfhagkcnlaaDoorAuK
import Derived.Test.YtocimfhagkcnlaaDoorGB
import Derived.Maps.OwnIn
namespace Go.Proofs.YtocimfhagkcnlaaDoor
open Go Go.RowKit Go.Sort Go.Shelf
set_option linter.unusedVariables false
attribute [local go_sem] Oper.semAt_some
/-- a block of cells stays where a turned block is none -/
theorem cells_stay {W W' : World} {row : Option Nat} (hg : W.grownBy W' row) (hr : ∀ r, row = some r → ∃ o : Obj, W.heap[r]? = some o ∧ o.isCells = false) {b : Nat} {cs : Array Value} {t : TypeId} {fr : Nat × Nat} (h : W.heap[b]? = some (.cells cs t fr)) : W'.heap[b]? = W.heap[b]? := by
  refine hg.block b (Array.getElem?_eq_some_iff.1 h).1 fun e => ?_
  obtain ⟨o, h1, h2⟩ := hr b e.symm
  rw [h] at h1
  injection h1 with h1
  subst h1
  cases h2
/-- the keys that were read so far -/
def KS (W : World) (B : Nat) (v : Value) (m : Nat) : Prop := (m = 0 → v = .slice none 0 0) ∧ (m ≠ 0 → ∃ k : Kx, OR W B 33 3 v [kxL k] ∧ k.id = 7 ∧ k.n = 2 ∧ Own W B (.slice k.ao k.n k.cap) [0, 255] ∧ ∀ b, v.ownBlock = some b → b ≠ B + 1 + 1)
structure PI (w : World) (m : Nat) (W : World) : Prop where
  b0 : Bk w.heap.size W #[.slice none 0 0] 39
  b1 : Bk (w.heap.size + 1) W #[.int .i64 0] 34
  b2 : ∃ v, Bk (w.heap.size + 1 + 1) W #[v] 39 ∧ KS W w.heap.size v m
  be : Below w.heap.size w W
theorem own_cells {W : World} {B : Nat} {v : Value} {bs : List Int} (h : Own W B v bs) : ∀ b, v.ownBlock = some b → ∃ cur, W.heap[b]? = some (.cells cur 5 (0, 0)) := by
  intro b hb
  rcases h.2 with ⟨h1, _⟩ | ⟨g, cap, cur, h1, h2, h3, _⟩
  · rw [h1] at hb; cases hb
  · rw [h1] at hb
    simp only [Value.ownBlock] at hb
    injection hb with hb
    subst hb
    exact ⟨cur, h3⟩
theorem KS.stay {W W' : World} {B m : Nat} {v : Value} (h : KS W B v m) {row : Option Nat} (hg : W.grownBy W' row) (hr : ∀ r, row = some r → ∃ o : Obj, W.heap[r]? = some o ∧ o.isCells = false) : KS W' B v m := by
  refine ⟨h.1, fun hm => ?_⟩
  obtain ⟨k, h1, h2, h3, h4, h5⟩ := h.2 hm
  refine ⟨k, h1.keep fun b hb => ?_, h2, h3, ?_, h5⟩
  · obtain ⟨_, cur, hk⟩ := h1.tys b hb
    exact cells_stay hg hr hk
  · cases hv : (Value.slice k.ao k.n k.cap).ownBlock with
    | none => exact World.ownsRow.kept h4 hg (.inl hv)
    | some b =>
      refine World.ownsRow.kept h4 hg (.inr fun e => ?_)
      rw [hv] at e
      obtain ⟨cur, hc⟩ := own_cells h4 b hv
      obtain ⟨o, h1, h2⟩ := hr b e.symm
      rw [hc] at h1
      injection h1 with h1
      subst h1
      cases h2
theorem PI.own (w : World) (B : Nat) (hB : w.heap.size ≤ B) {α : Type} (f : List α → Nat) : OwnFrom B (fun pre W => PI w (f pre) W) := fun pre W W' row hs hg hr => by
  have hr' : ∀ r, row = some r → ∃ o : Obj, W.heap[r]? = some o ∧ o.isCells = false := fun r e => (hr r e).2
  obtain ⟨v, h1, h2⟩ := hs.b2
  exact ⟨hs.b0.kept (cells_stay hg hr' hs.b0), hs.b1.kept (cells_stay hg hr' hs.b1), ⟨v, h1.kept (cells_stay hg hr' h1), h2.stay hg hr'⟩, hs.be.grown hg hs.be.size (fun k e => Nat.le_trans hB (hr k e).1)⟩
theorem key_kept {W w3 w4 : World} {kkd : Int} {kao : Option Addr} {kcap N : Nat} (h : Own w3 N (.slice kao 2 kcap) [0, 255]) (hb : Below W.heap.size W w3) (k : Below (w3.alloc (.cells #[.int .i64 7, .int .i64 kkd, .slice kao 2 kcap] 33)).heap.size (w3.alloc (.cells #[.int .i64 7, .int .i64 kkd, .slice kao 2 kcap] 33)) w4) :
    Bk w3.heap.size w4 #[.int .i64 7, .int .i64 kkd, .slice kao 2 kcap] 33 ∧ Own w4 N (.slice kao 2 kcap) [0, 255] ∧ Below W.heap.size W w4 := by
  have n1 := Nw.mk' w3 #[.int .i64 7, .int .i64 kkd, .slice kao 2 kcap] 33
  have hb' := below_thru n1.be k
  exact ⟨Bk.kept n1.bk (k.block _ n1.bk.lt), h.below hb' (Nat.le_refl _), below_thru hb hb'⟩
def kyV (kkd : Int) (kao : Option Addr) (kcap : Nat) : List Value := [.int .i64 7, .int .i64 kkd, .slice kao 2 kcap]
theorem ky_news (w : World) (kkd : Int) (kao : Option Addr) (kcap : Nat) : ∀ j u, (kyV kkd kao kcap)[j]? = some u → (w.alloc (.cells #[.int .i64 7, .int .i64 kkd, .slice kao 2 kcap] 33)).cell? ((⟨w.heap.size, 0, none⟩ : Addr).add j) = some u := by
  intro j u hj
  have h : Bk w.heap.size (w.alloc (.cells #[.int .i64 7, .int .i64 kkd, .slice kao 2 kcap] 33)) #[.int .i64 7, .int .i64 kkd, .slice kao 2 kcap] 33 := alloc_at w _
  have e : (⟨w.heap.size, 0, none⟩ : Addr).add j = ⟨w.heap.size, j, none⟩ := by unfold Addr.add; split <;> simp_all
  rw [e, h.cell j]
  simpa [kyV] using hj
theorem ky_one (kkd : Int) (kao : Option Addr) (kcap : Nat) : ∀ u ∈ kyV kkd kao kcap, u.oneCell' = true := by
  intro u hu
  simp only [kyV, List.mem_cons, List.not_mem_nil, or_false] at hu
  rcases hu with rfl | rfl | rfl <;> rfl
structure KE (W : World) (B N : Nat) (w5 : World) (kkd : Int) (kao : Option Addr) (kcap g : Nat) (cap : Nat) : Prop where
  bx : Bk (B + 1 + 1) w5 #[.slice none 0 0] 39
  ow : Own w5 N (.slice kao 2 kcap) [0, 255]
  be : Below W.heap.size W w5
  row : w5.ownsRow B 33 3 (.slice (some ⟨g, 0, none⟩) 1 cap) 1 (kyV kkd kao kcap)
  far : W.heap.size ≤ g
theorem key_grown {W w4 w5 : World} {B N : Nat} {kkd : Int} {kao : Option Addr} {kcap g cap : Nat} {o : Obj} (hW : Bk (B + 1 + 1) W #[.slice none 0 0] 39) (h4 : Own w4 N (.slice kao 2 kcap) [0, 255]) (hb : Below W.heap.size W w4)
    (hg : (w4.alloc o).grownBy w5 none) (hrow : w5.ownsRow B 33 3 (.slice (some ⟨g, 0, none⟩) (0 + 1) cap) (0 + 1) ([] ++ kyV kkd kao kcap)) (hat : (Value.slice (some ⟨g, 0, none⟩) (0 + 1) cap).ownBlock = (Value.slice none 0 0).ownBlock ∨ (Value.slice (some ⟨g, 0, none⟩) (0 + 1) cap).ownBlock = some (w4.alloc o).heap.size) : KE W B N w5 kkd kao kcap g cap := by
  have h45 : Below w4.heap.size w4 w5 := ((Below.refl _ w4).alloc (Nat.le_refl _) o).grown hg (by simp) (fun k e => by cases e)
  have hb5 := below_thru hb h45
  refine ⟨Bk.kept hW (hb5.block _ hW.lt), h4.below h45 (Nat.le_refl _), hb5, by simpa using hrow, ?_⟩
  rcases hat with h | h
  · cases h
  · simp only [Value.ownBlock, Option.some.injEq, World.size_alloc] at h
    have := hb.size
    omega
theorem body_end {w W w5 : World} {N M : Nat} {kkd : Int} {kao : Option Addr} {kcap g cap : Nat} (HP : PI w 0 W) (hN : w.heap.size ≤ N) (h : KE W w.heap.size N w5 kkd kao kcap g cap) :
    KeepsFrom M W (w5.setCell ⟨w.heap.size + 1 + 1, 0, none⟩ (.slice (some ⟨g, 0, none⟩) 1 cap)) ∧ Below w.heap.size W (w5.setCell ⟨w.heap.size + 1 + 1, 0, none⟩ (.slice (some ⟨g, 0, none⟩) 1 cap)) ∧ PI w 1 (w5.setCell ⟨w.heap.size + 1 + 1, 0, none⟩ (.slice (some ⟨g, 0, none⟩) 1 cap)) := by
  obtain ⟨v0, hv0, _⟩ := HP.b2
  have hl := hv0.lt
  have hg2 : g ≠ w.heap.size + 1 + 1 := by have := h.far; omega
  have hb : Below w.heap.size W w5 := h.be.mono (by omega)
  have hbs : Below w.heap.size W (w5.setCell ⟨w.heap.size + 1 + 1, 0, none⟩ (.slice (some ⟨g, 0, none⟩) 1 cap)) := hb.setCell (p := ⟨w.heap.size + 1 + 1, 0, none⟩) (by simp; omega) _
  refine ⟨KeepsFrom.trans ⟨h.be.size, fun k o _ hk _ => (h.be.block k (Array.getElem?_eq_some_iff.1 hk).1).trans hk⟩ ((KeepsOthers.setCell _ _ _).from _), hbs, ?_⟩
  refine ⟨bk_far (Bk.kept HP.b0 (h.be.block _ HP.b0.lt)) (by omega) _, bk_far (Bk.kept HP.b1 (h.be.block _ HP.b1.lt)) (by omega) _, ⟨_, h.bx.set _, And.intro (fun e => absurd e (by decide)) (fun _ => ?_)⟩, HP.be.trans hbs⟩
  refine ⟨⟨7, kkd, kao, 2, kcap⟩, ⟨?_, by simp [kxL]⟩, rfl, rfl, ?_, fun b e => by simp only [Value.ownBlock, Option.some.injEq] at e; omega⟩
  · have := h.row.kept (grownBy_setCell' w5 (w.heap.size + 1 + 1) (.slice (some ⟨g, 0, none⟩) 1 cap)) (.inr (by simp only [Value.ownBlock]; intro e; exact hg2 (Option.some.inj e)))
    simpa [kxL, kyV] using this
  · refine (Own.mono (World.ownsRow.kept h.ow (grownBy_setCell' w5 (w.heap.size + 1 + 1) (.slice (some ⟨g, 0, none⟩) 1 cap)) ?_) hN)
    cases hv : (Value.slice kao 2 kcap).ownBlock with
    | none => exact .inl rfl
    | some b =>
      refine .inr fun e => ?_
      obtain ⟨cur, hc⟩ := own_cells h.ow b hv
      injection e with e
      subst e
      have hx := h.bx
      unfold Bk at hx
      rw [hc] at hx
      injection hx with hx
      injection hx with _ hx
      exact absurd hx (by decide)
theorem own_far {W : World} {b B size n : Nat} {cs : Array Value} {T e : TypeId} {v : Value} {xs : List Value} (h : W.ownsRow B e size v n xs) (hb : Bk b W cs T) (hT : e ≠ T) (x : Value) : (W.setCell ⟨b, 0, none⟩ x).ownsRow B e size v n xs := by
  refine h.kept (grownBy_setCell' W b x) ?_
  rcases h.2 with ⟨rfl, _⟩ | ⟨g, cap, cur, rfl, h2, h3, _⟩
  · exact .inl rfl
  · refine .inr fun e => ?_
    simp only [Value.ownBlock, Option.some.injEq] at e
    subst e
    unfold Bk at hb
    rw [h3] at hb
    injection hb with hb
    injection hb with _ hb
    exact absurd hb hT
theorem results_cc {fn : Func} {p q : Tmp} (h : fn.results = #[.cell p 39, .cell q 34]) (tmps : Array Value) (w : World) (b0 b1 : Nat) (ao : Option Addr) (n c : Nat) (k : IntKind) (i : Int)
    (h0 : tmps.getD p undef = .pointer (some ⟨b0, 0, none⟩)) (h1 : tmps.getD q undef = .pointer (some ⟨b1, 0, none⟩)) (c0 : w.cell? ⟨b0, 0, none⟩ = some (.slice ao n c)) (c1 : w.cell? ⟨b1, 0, none⟩ = some (.int k i)) :
    (results fn tmps).run Tryd.prog w = .ok (.tuple #[.slice ao n c, .int k i]) w := by
  have e0 : tmps[p]?.getD undef = .pointer (some ⟨b0, 0, none⟩) := by simpa using h0
  have e1 : tmps[q]?.getD undef = .pointer (some ⟨b1, 0, none⟩) := by simpa using h1
  have u0 := Tryd.underlying39
  have u1 := Tryd.underlying34
  simp [results, h, e0, e1, asAddr]
  go_simp
theorem infoKy : (Tryd.prog.info? 33).map (fun i => (i.zero, i.size, i.bytes)) = some (some (.agg #[.int .i64 0, .int .i64 0, .slice none 0 0]), 3, 40) := by kernel_rfl
set_option maxRecDepth 100000 in
set_option maxHeartbeats 4000000 in
theorem parse_ex (mx : Int) (w : World) (hm : w.cell? ⟨1, 0, none⟩ = some (.int .i64 mx)) : Calls Tryd.prog 22 #[.string exS] w fun e w' => ∃ v k, e = .returned (.tuple #[v, .int .i64 0]) ∧ Hid (OR w' w.heap.size 33 3 v [kxL k] ∧ k.id = 7 ∧ k.n = 2 ∧ Own w' w.heap.size (.slice k.ao k.n k.cap) [0, 255]) ∧ Below w.heap.size w w' := by
  refine (callsIn_wide (n := 6)).1 ?_
  have hl : (exS.size : Int) = 17 := by decide
  have hl2 : exS.size = 17 := by decide
  obtain ⟨i0, hi, hz0, hz1, hz2⟩ := info_parts infoKy
  have h1l : 1 < w.heap.size := World.block_lt_of_cell? w _ hm
  obtain ⟨S, hS⟩ : ∃ S, exS = S := ⟨_, rfl⟩
  rw [hS] at hl hl2 ⊢
  refine callsIn_of_wp_marks Tryd.func22 rfl trivial ?_ rfl
  simp only [Tryd.ntmps22, List.size_toArray, List.length_cons, List.length_nil, Nat.reduceAdd, Nat.reduceSub, Array.replicate_succ, Array.replicate_zero, List.push_toArray, List.append_toArray, List.nil_append, List.cons_append]
  gi_wp2_with (refine ⟨trivial, ?_⟩; gi_at_call 45; refine (callsIn_wide.2 (lines_any S _)).mono ?_; rintro e w1 ⟨rfl, rfl⟩)
  obtain ⟨W1, hW1⟩ : ∃ W1, W1 = (((w.alloc (.cells #[.slice none 0 0] 39)).alloc (.cells #[.int .i64 0] 34)).alloc (.cells #[.slice none 0 0] 39)).alloc (.cells #[.string S] 9) := ⟨_, rfl⟩
  rw [← hW1]
  have z1 : W1.heap.size = w.heap.size + 1 + 1 + 1 + 1 := by rw [hW1]; simp
  have hB1 : Below w.heap.size w W1 := by
    rw [hW1]
    exact ((((Below.refl _ w).alloc (Nat.le_refl _) _).alloc (by simp) _).alloc (by simp; omega) _).alloc (by simp; omega) _
  have hP0 : PI w 0 W1 ∧ Bk (w.heap.size + 1 + 1 + 1) W1 #[.string S] 9 := by
    obtain ⟨A0, hA0⟩ : ∃ A, A = w.alloc (.cells #[.slice none 0 0] 39) := ⟨_, rfl⟩
    rw [← hA0] at hW1
    obtain ⟨A1, hA1⟩ : ∃ A, A = A0.alloc (.cells #[.int .i64 0] 34) := ⟨_, rfl⟩
    rw [← hA1] at hW1
    obtain ⟨A2, hA2⟩ : ∃ A, A = A1.alloc (.cells #[.slice none 0 0] 39) := ⟨_, rfl⟩
    rw [← hA2] at hW1
    have s0 : A0.heap.size = w.heap.size + 1 := by rw [hA0]; simp
    have s1 : A1.heap.size = w.heap.size + 1 + 1 := by rw [hA1]; simp [s0]
    have s2 : A2.heap.size = w.heap.size + 1 + 1 + 1 := by rw [hA2]; simp [s1]
    have a0 : Bk w.heap.size A0 #[.slice none 0 0] 39 := by rw [hA0]; exact alloc_at w _
    have a1 : Bk (w.heap.size + 1) A1 #[.int .i64 0] 34 := by rw [hA1, ← s0]; exact alloc_at A0 _
    have a2 : Bk (w.heap.size + 1 + 1) A2 #[.slice none 0 0] 39 := by rw [hA2, ← s1]; exact alloc_at A1 _
    have a3 : Bk (w.heap.size + 1 + 1 + 1) W1 #[.string S] 9 := by rw [hW1, ← s2]; exact alloc_at A2 _
    have n1 : Nw A0 A1 A0.heap.size #[.int .i64 0] 34 := by rw [hA1]; exact Nw.mk' _ _ _
    have n2 : Nw A1 A2 A1.heap.size #[.slice none 0 0] 39 := by rw [hA2]; exact Nw.mk' _ _ _
    have n3 : Nw A2 W1 A2.heap.size #[.string S] 9 := by rw [hW1]; exact Nw.mk' _ _ _
    exact ⟨⟨n3.other (n2.other (n1.other a0)), n3.other (n2.other a1), ⟨_, n3.other a2, ⟨fun _ => rfl, fun h => absurd rfl h⟩⟩, hB1⟩, a3⟩
  have cB : W1.cell? ⟨w.heap.size + 1 + 1 + 1, 0, none⟩ = some (.string S) := hP0.2.cell 0
  have cM : W1.cell? ⟨1, 0, none⟩ = some (.int .i64 mx) := (hB1.cell (p := ⟨1, 0, none⟩) h1l).trans hm
  clear hW1
  refine wpIn_rangeFunc_ownG rfl (by omega) (gf := 68) (lb := #[.pointer (some ⟨w.heap.size + 1 + 1 + 1, 0, none⟩)]) rfl trivial (enters_of Tryd.func68 (by kernel_rfl) rfl)
    (lines_stops (fun x => x = exL) _ (by omega) S (w.heap.size + 1 + 1 + 1) w.heap.size mx W1 (by omega) (by rw [← hS, ex_lines]; simp) (by omega) h1l cB cM) belowK_t (belowK_b (by omega)) (Below.refl _ _) (fun _ => rfl)
    (fun pre W => PI w pre.length W) (fun _ _ _ => False) (PI.own w _ (by omega) List.length) (fun _ _ _ _ _ hs _ _ => hs) hP0.1
    (fun x => { tmps := #[.string S, undef, .pointer (some ⟨w.heap.size, 0, none⟩), .pointer (some ⟨w.heap.size + 1, 0, none⟩), .pointer (some ⟨w.heap.size + 1 + 1, 0, none⟩), .string x.1, undef, undef, undef, .string S, .int .i64 17, .bool false, .string S, .func (.func 68) #[] #[.pointer (some ⟨w.heap.size + 1 + 1 + 1, 0, none⟩)], .string x.1, undef, undef, undef, undef, undef, undef, undef, undef, undef, undef, undef, undef, undef, undef, undef, undef, undef, undef, undef, undef, undef, undef, undef, undef, undef, undef, undef, undef], defers := [] }) ?assign ?body ?done ?stop
  case assign =>
    intro l x W K hK
    gi_wp2
    exact hK
  case body =>
    rintro l pre ⟨x, rfl⟩ W hP hlt
    have hpre : pre = [] := by
      rw [← hS, ex_lines] at hlt
      cases pre with
      | nil => rfl
      | cons a t => simp at hlt
    subst hpre
    clear hlt
    obtain ⟨v, hv1, hv2⟩ := hP.b2
    obtain rfl := hv2.1 rfl
    have HP : Hid (PI w 0 W ∧ Bk (w.heap.size + 1 + 1) W #[.slice none 0 0] 39) := ⟨hP, hv1⟩
    clear hv1 hv2 hP cB cM hP0
    gi_wp2_with (first
      | (refine ⟨trivial, ?_⟩; gi_at_call 46; refine (CallsIn.inRound l (callsIn_wide.2 (fields_ex _))).mono ?_; rintro e w2 ⟨A, rfl, hA, hWx, hb⟩; have H2 : Hid (Wx w2 A [ex0, ex1, ex2] ∧ Below W.heap.size W w2) := ⟨hWx, hb⟩; clear hA hWx hb)
      | (refine ⟨trivial, ?_⟩; gi_at_call 48; refine (CallsIn.inRound l (callsIn_wide.2 (key_ex _ _ _ H2.out.1))).mono ?_; rintro e w3 ⟨⟨kid, kkd, kao, kn, kcap⟩, rfl, hk1, hk2, hk3, hb⟩; dsimp only at hk1 hk2 hk3; subst hk1; subst hk2; have H3 : Hid (Own w3 w2.heap.size (.slice kao 2 kcap) [0, 255] ∧ Below W.heap.size W w3) := ⟨hk3, below_thru H2.out.2 hb⟩; clear hk3 hb; simp only [kxL]; have c4 : (w3.alloc (.cells #[.int .i64 7, .int .i64 kkd, .slice kao 2 kcap] 33)).cell? ⟨w.heap.size + 1 + 1, 0, none⟩ = some (.slice none 0 0) := (Bk.cell (Nw.other (Nw.mk' w3 #[.int .i64 7, .int .i64 kkd, .slice kao 2 kcap] 33) (Bk.kept HP.out.2 (H3.out.2.block _ HP.out.2.lt))) 0))
      | (refine ⟨trivial, ?_⟩; gi_at_call 49; refine (CallsIn.inRound l (callsIn_wide.2 (hasID_nil _ _))).mono ?_; rintro e w4 ⟨rfl, hb⟩; (have H4 : Hid (Bk w3.heap.size w4 #[.int .i64 7, .int .i64 kkd, .slice kao 2 kcap] 33 ∧ Own w4 w2.heap.size (.slice kao 2 kcap) [0, 255] ∧ Below W.heap.size W w4) := key_kept H3.out.1 H3.out.2 hb); (clear hb c4); (have c4 : w4.cell? ⟨w.heap.size + 1 + 1, 0, none⟩ = some (.slice none 0 0) := (Bk.cell (Bk.kept HP.out.2 (H4.out.2.2.block _ HP.out.2.lt)) 0); have d0 : w4.cell? ⟨w3.heap.size, 0, none⟩ = some (.int .i64 7) := (H4.out.1.cell 0); have d1 : w4.cell? ⟨w3.heap.size, 1, none⟩ = some (.int .i64 kkd) := (H4.out.1.cell 1); have d2 : w4.cell? ⟨w3.heap.size, 2, none⟩ = some (.slice kao 2 kcap) := (H4.out.1.cell 2)))
      | (gi_at_builtin; (refine wpListIn_append_own_at _ rfl _ _ 39 rfl w.heap.size 33 i0 (.agg #[.int .i64 0, .int .i64 0, .slice none 0 0]) 3 40 Tryd.underlying39 hi hz0 hz1 hz2 rfl (by decide) (.slice none 0 0) 0 [] rfl (World.ownsRow_nil _ _ _ _) ⟨w4.heap.size, 0, none⟩ 1 1 (kyV kkd kao kcap) rfl rfl (ky_news w4 _ _ _) (ky_one _ _ _) (by decide) (by decide) (by have h1 := H4.out.2.2.size; have h2 := HP.out.2.lt; simp; omega) ?_); intro v' w5 hown' hg5 _ hb5; obtain ⟨g', cap', rfl⟩ := ownsRow_succ hown'; (have H5 : Hid (KE W w.heap.size w2.heap.size w5 kkd kao kcap g' cap') := key_grown HP.out.2 H4.out.2.1 H4.out.2.2 hg5 hown' hb5); clear hown' hg5 hb5; clear c4; (have c5 : w5.cell? ⟨w.heap.size + 1 + 1, 0, none⟩ = some (.slice none 0 0) := H5.out.bx.cell 0; have f5 : w5.frozen? ⟨w.heap.size + 1 + 1, 0, none⟩ = false := H5.out.bx.frozen 0)))
    exact body_end HP.out.1 (by have h1 := H2.out.2.size; have h2 := HP.out.2.lt; omega) H5.out
  case done =>
    rintro D xs W hD hx hP hK
    have hxl : xs.length = 1 := by
      have := congrArg List.length hx
      rw [← hS, ex_lines] at this
      simpa using this
    rw [hxl] at hP
    obtain ⟨v, hv1, hv2⟩ := hP.b2
    obtain ⟨k, k1, k2, k3, k4, k5⟩ := hv2.2 (by decide)
    have HK : Hid (OR W w.heap.size 33 3 v [kxL k] ∧ k.id = 7 ∧ k.n = 2 ∧ Own W w.heap.size (.slice k.ao k.n k.cap) [0, 255] ∧ ∀ b, v.ownBlock = some b → b ≠ w.heap.size + 1 + 1) := ⟨k1, k2, k3, k4, k5⟩
    clear k1 k2 k3 k4 k5 hv2
    obtain ⟨g', cap', rfl⟩ := ownsRow_succ (k := 0) HK.out.1.row
    have ca : W.cell? ⟨w.heap.size, 0, none⟩ = some (.slice none 0 0) := hP.b0.cell 0
    have fa : W.frozen? ⟨w.heap.size, 0, none⟩ = false := hP.b0.frozen 0
    have cb : W.cell? ⟨w.heap.size + 1, 0, none⟩ = some (.int .i64 0) := hP.b1.cell 0
    have fb : W.frozen? ⟨w.heap.size + 1, 0, none⟩ = false := hP.b1.frozen 0
    have cc : W.cell? ⟨w.heap.size + 1 + 1, 0, none⟩ = some (.slice (some ⟨g', 0, none⟩) (0 + 1) cap') := hv1.cell 0
    gi_wp2
    obtain ⟨W2, hW2⟩ : ∃ W2, W2 = (W.setCell ⟨w.heap.size, 0, none⟩ (.slice (some ⟨g', 0, none⟩) 1 cap')).setCell ⟨w.heap.size + 1, 0, none⟩ (.int .i64 0) := ⟨_, rfl⟩
    rw [← hW2]
    have e1 : Bk (w.heap.size + 1) (W.setCell ⟨w.heap.size, 0, none⟩ (.slice (some ⟨g', 0, none⟩) 1 cap')) #[.int .i64 0] 34 := bk_far hP.b1 (by omega) _
    have a0 : Bk w.heap.size W2 #[.slice (some ⟨g', 0, none⟩) 1 cap'] 39 := by rw [hW2]; exact bk_far (hP.b0.set _) (by omega) _
    have a1 : Bk (w.heap.size + 1) W2 #[.int .i64 0] 34 := by rw [hW2]; exact e1.set _
    have HO : Hid (OR W2 w.heap.size 33 3 (.slice (some ⟨g', 0, none⟩) (0 + 1) cap') [kxL k] ∧ k.id = 7 ∧ k.n = 2 ∧ Own W2 w.heap.size (.slice k.ao k.n k.cap) [0, 255]) := by
      rw [hW2]
      exact ⟨⟨own_far (own_far HK.out.1.row hP.b0 (by decide) _) e1 (by decide) _, HK.out.1.len⟩, HK.out.2.1, HK.out.2.2.1, own_far (own_far HK.out.2.2.2.1 hP.b0 (by decide) _) e1 (by decide) _⟩
    have hbe : Below w.heap.size w W2 := by
      rw [hW2]
      exact (hP.be.setCell (p := ⟨w.heap.size, 0, none⟩) (Nat.le_refl _) _).setCell (p := ⟨w.heap.size + 1, 0, none⟩) (by simp) _
    have hK2 : W2.heap[D]? = some (.deferred (some [])) := by
      rw [hW2, Below.heap_setCell _ _ _ _ (by simp; omega), Below.heap_setCell _ _ _ _ (by simp; omega)]
      exact hK
    clear hW2 e1
    refine ⟨by simp, .inl ⟨_, _, rfl, run_takeDeferred hK2, ?_⟩⟩
    have hl2 : W2.heap.size ≤ W2.heap.size := Nat.le_refl _
    have hg2 := grownBy_putObj' W2 D (.deferred none)
    have hr2 : ∀ r, some D = some r → ∃ o : Obj, W2.heap[r]? = some o ∧ o.isCells = false := fun r e => by cases e; exact ⟨_, hK2, rfl⟩
    refine ⟨_, results_cc rfl _ _ w.heap.size (w.heap.size + 1) (some ⟨g', 0, none⟩) 1 cap' .i64 0 rfl rfl ((a0.kept (cells_stay hg2 hr2 a0)).cell 0) ((a1.kept (cells_stay hg2 hr2 a1)).cell 0), _, k, rfl, ?_, hbe.trans (belowK_b (w := w) (Nat.le_refl _) W2 D _ _ (by omega) hK2 rfl rfl)⟩
    exact ⟨⟨ownsRow_putObj HO.out.1.row _ hK2 rfl, HO.out.1.len⟩, HO.out.2.1, HO.out.2.2.1, ownsRow_putObj HO.out.2.2.2 _ hK2 rfl⟩
  case stop =>
    rintro D c pre W _ _ h _
    exact h.elim
end Go.Proofs.YtocimfhagkcnlaaDoor
