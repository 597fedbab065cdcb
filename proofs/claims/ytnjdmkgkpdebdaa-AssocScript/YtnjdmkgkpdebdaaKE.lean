/- assoc: Add. -/
import Derived.Test.YtnjdmkgkpdebdaaKD
import Derived.Test.YtnjdmkgkpdebdaaKL
namespace Go.Proofs.Ytnjdmkgkpdebdaa
open Go Go.RowKit Go.Sort
set_option linter.unusedVariables false
theorem frF_spec : ∀ (ms : List (Option Mb)) (k : Nat), frF ms k = 0 ∧ (∀ x ∈ ms, x ≠ none) ∨ ∃ i : Nat, frF ms k = (k : Int) + i + 1 ∧ ms[i]? = some none ∧ ∀ j, j < i → ∃ m, ms[j]? = some (some m)
  | [], k => .inl ⟨rfl, fun x hx => by cases hx⟩
  | none :: t, k => .inr ⟨0, by simp [frF], rfl, fun j hj => by omega⟩
  | some m :: t, k => by
    rcases frF_spec t (k + 1) with ⟨h, h2⟩ | ⟨i, h1, h2, h3⟩
    · refine .inl ⟨by rw [frF]; exact h, fun x hx => ?_⟩
      rcases List.mem_cons.1 hx with rfl | hx
      · simp
      · exact h2 x hx
    · refine .inr ⟨i + 1, by rw [frF, h1]; push_cast; omega, by simpa using h2, fun j hj => ?_⟩
      cases j with
      | zero => exact ⟨m, rfl⟩
      | succ j => obtain ⟨m', hm'⟩ := h3 j (by omega); exact ⟨m', by simpa using hm'⟩
/-- what Add says, and what comes of it -/
def adE (ms : List (Option Mb)) (a : As) (par : Int) : Int := if par ≠ 0 ∧ atM ms par = none then 121 else if knB ms a = true then 53 else if frF ms 0 = 0 then 120 else 0
def adN (ms : List (Option Mb)) (a : As) (par : Int) : Int := if adE ms a par = 0 then frF ms 0 else 0
def enI (a : As) (par now : Int) : Int := if par ≠ 0 ∨ a.kind = 7 ∨ a.kind = 8 then ltI now else 0
def adM (ms : List (Option Mb)) (a : As) (par now : Int) (b : Nat) : Mb := ⟨b, frF ms 0, a, par, enI a par now, 0⟩
def adT (ms : List (Option Mb)) (a : As) (par now : Int) (b : Nat) : List (Option Mb) := if adE ms a par = 0 then ms.set (frF ms 0 - 1).toNat (some (adM ms a par now b)) else ms
theorem Tb.put {w w' : World} {q : Nat} {ms : List (Option Mb)} (h : Tb w q ms) (i : Nat) (hi : i < 16) (m : Mb) (hm : Bk m.b w' (mbL m).toArray 77) (hq : Bk q w' ((ms.set i (some m)).map ptr).toArray 74) (hn : w.heap.size ≤ m.b) (hd : m.id = (i : Int) + 1) (hk : ∀ k, k < w.heap.size → k ≠ q → w'.heap[k]? = w.heap[k]?) : Tb w' q (ms.set i (some m)) := by
  have hlt : ∀ (j : Nat) n, ms[j]? = some (some n) → n.b < w.heap.size := fun j n hj => (h.mem j n hj).1.lt
  refine ⟨hq, by rw [List.length_set, h.len], fun j n hj => ?_, fun j l n o hj hl hb => ?_⟩
  · rw [List.getElem?_set] at hj
    split at hj
    · rename_i e
      split at hj
      · injection hj with hj
        injection hj with hj
        subst hj e
        have := h.lt
        exact ⟨hm, by omega, hd⟩
      · cases hj
    · have := h.mem j n hj
      exact ⟨this.1.kept (hk _ (hlt j n hj) this.2.1), this.2⟩
  · rw [List.getElem?_set] at hj hl
    split at hj <;> split at hl
    · rename_i e1 e2; omega
    · split at hj
      · injection hj with hj
        injection hj with hj
        subst hj
        have := hlt l o hl
        omega
      · cases hj
    · split at hl
      · injection hl with hl
        injection hl with hl
        subst hl
        have := hlt j n hj
        omega
      · cases hl
    · exact h.inj j l n o hj hl hb
theorem run_buildE (id par : Int) (a : As) (w : World) : (Instr.build 62 #[(0, .int .i64 id), (1, .agg (asL a).toArray), (2, .int .i64 par)]).run Try.prog w = .ok (.agg (enL ⟨0, id, a, par, 0, 0⟩).toArray) w := by
  kernel_rfl
theorem run_buildM (m : Mb) (hz : m.hops = 0) (w : World) : (Instr.build 77 #[(0, .agg (enL m).toArray)]).run Try.prog w = .ok (.agg (mbL m).toArray) w := by
  obtain ⟨b, id, a, par, ends, hops⟩ := m
  subst hz
  kernel_rfl
theorem wpList_world {P : Program} {ops : Array Oper} {rest : List Oper} {a : Act} {w : World} {Q : Exit → Act → World → Prop} (h : ∀ W, Hid (W = w) → wpList P ops Q rest a W) : wpList P ops Q rest a w := h w rfl
theorem wrap_fit (i : Nat) (h : (i : Int) < 16) : IntKind.i64.wrap ((i : Int) + 1 - 1) = i := by
  have e : (i : Int) + 1 - 1 = i := by omega
  rw [e, IntWalk.i64_left]
  first | exact wrap64_small (by omega) (by omega) | (unfold wrap64; omega) | (simp [wrap64]; omega)
/-- what Add has made so far: the box of a, the table, an entry in block g -/
structure Ae (w W : World) (q : Nat) (ms : List (Option Mb)) (a : As) : Prop where
  bx : Bk w.heap.size W (asL a).toArray 41
  tb : Tb W q ms
  be : Below w.heap.size w W
theorem Ae.below {w W W' : World} {q : Nat} {ms : List (Option Mb)} {a : As} (h : Ae w W q ms a) (hb : Below W.heap.size W W') : Ae w W' q ms a :=
  ⟨h.bx.kept (hb.block _ h.bx.lt), h.tb.below hb, below_thru h.be hb⟩
theorem Ae.wt {w W W' : World} {q g : Nat} {ms : List (Option Mb)} {a : As} {z : Array Value} {ty : TypeId} (h : Ae w W q ms a) (ht : Wt W W' g z ty) (hq : q < g) (hm : ∀ (i : Nat) m, ms[i]? = some (some m) → m.b < g) (hg : w.heap.size < g) : Ae w W' q ms a := by
  refine ⟨ht.other h.bx (by omega), ⟨ht.other h.tb.tab (by omega), h.tb.len, fun i m hi => ⟨ht.other (h.tb.mem i m hi).1 (by have := hm i m hi; omega), (h.tb.mem i m hi).2⟩, h.tb.inj⟩, ht.below h.be h.be.size (by omega)⟩
theorem bk_ptr {q i : Nat} {w : World} {ms : List (Option Mb)} (h : Bk q w (ms.map ptr).toArray 74) (m : Mb) (hi : i < ms.length) : Bk q (w.setCell ⟨q, i, none⟩ (ptr (some m))) ((ms.set i (some m)).map ptr).toArray 74 := by
  have e : ((ms.set i (some m)).map ptr).toArray = (ms.map ptr).toArray.setIfInBounds i (ptr (some m)) := by
    rw [List.map_set]; simp
  rw [e]
  exact h.set _
theorem add_done {w W : World} {q : Nat} {ms : List (Option Mb)} {a : As} (h : Ae w W q ms a) (hwq : q < w.heap.size) (i : Nat) (hi : i < 16) (m : Mb) (hb : m.b = W.heap.size) (hd : m.id = (i : Int) + 1) :
    Tb (((W.setCell ⟨q, i, none⟩ (.pointer (some ⟨W.heap.size, 0, none⟩))).alloc (.cells (mbL m).toArray 77)).drew) q (ms.set i (some m)) ∧ w.grownBy (((W.setCell ⟨q, i, none⟩ (.pointer (some ⟨W.heap.size, 0, none⟩))).alloc (.cells (mbL m).toArray 77)).drew) (some q) := by
  obtain ⟨V, hV⟩ : ∃ V, V = W.setCell ⟨q, i, none⟩ (.pointer (some ⟨W.heap.size, 0, none⟩)) := ⟨_, rfl⟩
  have g1 : W.grownBy V (some q) := by rw [hV]; exact grownBy_set W ⟨q, i, none⟩ _
  have s1 : V.heap.size = W.heap.size := by rw [hV]; simp
  have k1 : Bk q V ((ms.set i (some m)).map ptr).toArray 74 := by
    have h2 := bk_ptr h.tb.tab m (i := i) (by rw [h.tb.len]; exact hi)
    have e : ptr (some m) = .pointer (some ⟨W.heap.size, 0, none⟩) := by unfold ptr; simp only [hb]
    rw [e] at h2
    rw [hV]
    exact h2
  rw [← hV]
  have b2 : Below V.heap.size V ((V.alloc (.cells (mbL m).toArray 77)).drew) := below_drew (below_alloc (Below.refl _ _) _)
  refine ⟨h.tb.put i hi m ?_ (k1.kept (b2.block _ k1.lt)) (Nat.le_of_eq hb.symm) hd (fun k hk hne => ?_), ?_⟩
  · have := Bk.new V (mbL m).toArray 77
    rw [s1, ← hb] at this
    exact this
  · rw [b2.block k (by omega)]
    exact g1.block k hk (fun e => hne (Option.some.inj e))
  · exact grownBy_trans (grownBy_trans (grownBy_below h.be _) g1) (grownBy_below b2 _)
set_option maxRecDepth 20000 in
set_option maxHeartbeats 4000000 in
theorem add_any (q : Nat) (ms : List (Option Mb)) (a : As) (par now : Int) (w : World) (h : Tb w q ms) (hn : -9223372036854775808 ≤ now) : Calls Try.prog 15 #[.pointer (some ⟨q, 0, none⟩), .agg (asL a).toArray, .int .i64 par, .int .i64 now] w fun e w' => ∃ b, e = .returned (.tuple #[.int .i64 (adN ms a par), .int .i64 (adE ms a par)]) ∧ Tb w' q (adT ms a par now b) ∧ w.grownBy w' (some q) ∧ w.heap.size ≤ b := by
  have HT : Hid (Tb w q ms) := h
  clear h
  obtain ⟨F, hF⟩ : ∃ F, frF ms 0 = F := ⟨_, rfl⟩
  obtain ⟨K, hK⟩ : ∃ K, knB ms a = K := ⟨_, rfl⟩
  have HF : Hid (frF ms 0 = F ∧ knB ms a = K) := ⟨hF, hK⟩
  clear hF hK
  go_enter Try.func15, Try.ntmps15
  refine post_hid fun Q hQ => ?_
  refine seq_hid fun R hR => ?_
  go_wp2_with fail
  refine world_hid fun W hW => ?_
  have HW : Hid (Ae w W q ms a) := by
    rw [hW.out]
    have hb := below_alloc (Below.refl w.heap.size w) (.cells (asL a).toArray 41)
    exact ⟨Bk.new _ _ _, HT.out.below hb, hb⟩
  clear hW
  rw [hR.out]
  clear hR
  refine seq_hid fun R hR => ?_
  go_wp2_with (go_at_call 38; refine (free_any q ms W HW.out.tb).mono ?_; rintro e w1 ⟨rfl, hw1⟩; rw [HF.out.1, hw1]; clear hw1)
  rw [hR.out]
  clear hR
  by_cases h1 : par ≠ 0 ∧ atM ms par = none
  · have hp : (par == 0) = false := by simpa using h1.1
    have hp2 : (par != 0) = true := by simpa using h1.1
    have HE : Hid (adE ms a par = 121) := by show _ = _; unfold adE; rw [if_pos h1]
    have HA : Hid (atM ms par = none) := h1.2
    clear h1
    go_wp2_with (go_at_call 39; refine (at_any q ms par W HW.out.tb).mono ?_; rintro e w1 ⟨rfl, hw1⟩; rw [HA.out, hw1]; unfold ptr; simp only)
    rw [hQ.out]
    go_ret2
    refine ⟨w.heap.size, by unfold adN; rw [HE.out]; rfl, ?_, grownBy_below HW.out.be _, Nat.le_refl _⟩
    unfold adT
    rw [HE.out]
    exact HW.out.tb
  have HE : Hid (adE ms a par = if K = true then 53 else if F = 0 then 120 else 0) := by show _ = _; unfold adE; rw [if_neg h1, HF.out.1, HF.out.2]
  obtain ⟨E, hE⟩ : ∃ E, enI a par now = E := ⟨_, rfl⟩
  have HN : Hid (enI a par now = E) := hE
  clear hE
  have hcs : (par ≠ 0 ∧ ∃ m, atM ms par = some m) ∨ (par = 0 ∧ a.kind = 7) ∨ (par = 0 ∧ a.kind = 8) ∨ (par = 0 ∧ a.kind ≠ 7 ∧ a.kind ≠ 8) := by
    by_cases hp : par = 0
    · by_cases h7 : a.kind = 7
      · exact .inr (.inl ⟨hp, h7⟩)
      · by_cases h8 : a.kind = 8
        · exact .inr (.inr (.inl ⟨hp, h8⟩))
        · exact .inr (.inr (.inr ⟨hp, h7, h8⟩))
    · refine .inl ⟨hp, ?_⟩
      cases hm : atM ms par with
      | none => exact absurd ⟨hp, hm⟩ h1
      | some m => exact ⟨m, rfl⟩
  clear h1
  have HC : Hid (∀ j u, (asL a)[j]? = some u → W.cell? ((⟨w.heap.size, 0, none⟩ : Addr).add j) = some u) := cells_of (l := asL a) HW.out.bx
  -- knows already, or no room
  cases K with
  | true =>
    have HE1 : Hid (adE ms a par = 53) := by show _ = _; rw [HE.out, if_pos rfl]
    rcases hcs with ⟨hp, m, hm⟩ | hcs
    · have hp1 : (par == 0) = false := by simpa using hp
      have hp2 : (par != 0) = true := by simpa using hp
      have HA : Hid (atM ms par = some m) := hm
      clear hm
      go_wp2_with (first
        | (go_at_call 39; refine (at_any q ms par W HW.out.tb).mono ?_; rintro e w1 ⟨rfl, hw1⟩; rw [HA.out, hw1]; unfold ptr; simp only)
        | (refine step_ldat 41 _ rfl rfl ⟨w.heap.size, 0, none⟩ (by rfl) (asL a) _ Try.underlying41 rfl (by kernel_rfl) HC.out ?_)
        | (go_at_call 22; refine (knows_any q ms a W HW.out.tb).mono ?_; rintro e w2 ⟨rfl, hb2⟩; rw [HF.out.2]; have H2 : Hid (Ae w w2 q ms a) := HW.out.below hb2; clear hb2))
      rw [hQ.out]
      go_ret2
      refine ⟨w.heap.size, by unfold adN; rw [HE1.out]; rfl, ?_, grownBy_below H2.out.be _, Nat.le_refl _⟩
      unfold adT
      rw [HE1.out]
      exact H2.out.tb
    · have hp : par = 0 := by rcases hcs with ⟨h, _⟩ | ⟨h, _⟩ | ⟨h, _⟩ <;> exact h
      clear hcs
      subst hp
      go_wp2_with (first
        | (refine step_ldat 41 _ rfl rfl ⟨w.heap.size, 0, none⟩ (by rfl) (asL a) _ Try.underlying41 rfl (by kernel_rfl) HC.out ?_)
        | (go_at_call 22; refine (knows_any q ms a W HW.out.tb).mono ?_; rintro e w2 ⟨rfl, hb2⟩; rw [HF.out.2]; have H2 : Hid (Ae w w2 q ms a) := HW.out.below hb2; clear hb2))
      rw [hQ.out]
      go_ret2
      refine ⟨w.heap.size, by unfold adN; rw [HE1.out]; rfl, ?_, grownBy_below H2.out.be _, Nat.le_refl _⟩
      unfold adT
      rw [HE1.out]
      exact H2.out.tb
  | false =>
    by_cases hF0 : F = 0
    · have HE1 : Hid (adE ms a par = 120) := by show _ = _; rw [HE.out, if_neg (by simp), if_pos hF0]
      subst hF0
      rcases hcs with ⟨hp, m, hm⟩ | hcs
      · have hp1 : (par == 0) = false := by simpa using hp
        have hp2 : (par != 0) = true := by simpa using hp
        have HA : Hid (atM ms par = some m) := hm
        clear hm
        go_wp2_with (first
          | (go_at_call 39; refine (at_any q ms par W HW.out.tb).mono ?_; rintro e w1 ⟨rfl, hw1⟩; rw [HA.out, hw1]; unfold ptr; simp only)
          | (refine step_ldat 41 _ rfl rfl ⟨w.heap.size, 0, none⟩ (by rfl) (asL a) _ Try.underlying41 rfl (by kernel_rfl) HC.out ?_)
          | (go_at_call 22; refine (knows_any q ms a W HW.out.tb).mono ?_; rintro e w2 ⟨rfl, hb2⟩; rw [HF.out.2]; have H2 : Hid (Ae w w2 q ms a) := HW.out.below hb2; clear hb2))
        rw [hQ.out]
        go_ret2
        refine ⟨w.heap.size, by unfold adN; rw [HE1.out]; rfl, ?_, grownBy_below H2.out.be _, Nat.le_refl _⟩
        unfold adT
        rw [HE1.out]
        exact H2.out.tb
      · have hp : par = 0 := by rcases hcs with ⟨h, _⟩ | ⟨h, _⟩ | ⟨h, _⟩ <;> exact h
        clear hcs
        subst hp
        go_wp2_with (first
          | (refine step_ldat 41 _ rfl rfl ⟨w.heap.size, 0, none⟩ (by rfl) (asL a) _ Try.underlying41 rfl (by kernel_rfl) HC.out ?_)
          | (go_at_call 22; refine (knows_any q ms a W HW.out.tb).mono ?_; rintro e w2 ⟨rfl, hb2⟩; rw [HF.out.2]; have H2 : Hid (Ae w w2 q ms a) := HW.out.below hb2; clear hb2))
        rw [hQ.out]
        go_ret2
        refine ⟨w.heap.size, by unfold adN; rw [HE1.out]; rfl, ?_, grownBy_below H2.out.be _, Nat.le_refl _⟩
        unfold adT
        rw [HE1.out]
        exact H2.out.tb
    · have HE1 : Hid (adE ms a par = 0) := by show _ = _; rw [HE.out, if_neg (by simp), if_neg hF0]
      obtain ⟨i, hi, hi16, hno⟩ : ∃ i : Nat, F = (i : Int) + 1 ∧ i < 16 ∧ ms[i]? = some none := by
        rcases frF_spec ms 0 with ⟨h, _⟩ | ⟨i, h2, h3, _⟩
        · exact absurd (HF.out.1.symm.trans h) hF0
        · refine ⟨i, by rw [← HF.out.1, h2]; simp, ?_, h3⟩
          rcases Nat.lt_or_ge i 16 with h | h
          · exact h
          · rw [List.getElem?_eq_none (by rw [HT.out.len]; exact h)] at h3; cases h3
      have HI : Hid (F = (i : Int) + 1 ∧ i < 16 ∧ ms[i]? = some none) := ⟨hi, hi16, hno⟩
      have hF1 : (F == 0) = false := by simpa using hF0
      clear hi hi16 hno
      rcases hcs with ⟨hp, m, hm⟩ | ⟨hp, h7⟩ | ⟨hp, h8⟩ | ⟨hp, h7, h8⟩
      · have hp1 : (par == 0) = false := by simpa using hp
        have hp2 : (par != 0) = true := by simpa using hp
        have HA : Hid (atM ms par = some m) := hm
        clear hm
        have HL : Hid (E = ltI now) := by show _ = _; rw [← HN.out]; unfold enI; rw [if_pos (.inl hp)]
        go_upto_region 8 with (first
          | (go_at_call 39; refine (at_any q ms par W HW.out.tb).mono ?_; rintro e w1 ⟨rfl, hw1⟩; rw [HA.out, hw1]; unfold ptr; simp only)
          | (refine step_ldat 41 _ rfl rfl ⟨w.heap.size, 0, none⟩ (by rfl) (asL a) _ Try.underlying41 rfl (by kernel_rfl) HC.out ?_)
          | (go_at_call 22; refine (knows_any q ms a W HW.out.tb).mono ?_; rintro e w2 ⟨rfl, hb2⟩; rw [HF.out.2]; have H2 : Hid (Ae w w2 q ms a) := HW.out.below hb2; clear hb2))
        clear HC
        have C2 : Hid (∀ j u, (asL a)[j]? = some u → w2.cell? ((⟨w.heap.size, 0, none⟩ : Addr).add j) = some u) := cells_of (l := asL a) H2.out.bx
        go_upto_region 9 with (first
          | (refine step_ldat 41 _ rfl rfl ⟨w.heap.size, 0, none⟩ (by rfl) (asL a) _ Try.underlying41 rfl (by kernel_rfl) C2.out ?_)
          | (refine step_bdL (by rfl) 62 [(0, .tmp 30), (1, .tmp 31), (2, .tmp 32)] rfl [(0, .int .i64 F), (1, .agg (asL a).toArray), (2, .int .i64 par)] (by rfl) (.agg (enL ⟨0, F, a, par, 0, 0⟩).toArray) (run_buildE F par a _) ?_)
          | (refine step_alL (by rfl) 62 rfl (enL zMb).toArray (fun u => by kernel_rfl) ?_; intro w3 g H3)
          | (refine step_stL (by rfl) _ _ rfl g (enL ⟨0, F, a, par, 0, 0⟩).toArray (by rfl) (by rfl) (enL zMb).toArray (by kernel_rfl) (by kernel_rfl) (by kernel_rfl) H3.out.bk ?_; intro w4 H4))
        have H5 : Hid (Ae w w4 q ms a ∧ Bk g w4 (enL ⟨0, F, a, par, 0, 0⟩).toArray 62 ∧ q < g ∧ (∀ (i : Nat) m, ms[i]? = some (some m) → m.b < g) ∧ w.heap.size < g) := by
          have k1 : q < g := H3.out.at' ▸ H2.out.tb.lt
          have k2 : ∀ (i : Nat) m, ms[i]? = some (some m) → m.b < g := fun i m hm => by have h1 := (H2.out.tb.mem i m hm).1.lt; have h2 := H3.out.at'; omega
          have k3 : w.heap.size < g := by have h1 := H2.out.bx.lt; have h2 := H3.out.at'; omega
          exact ⟨(H2.out.below H3.out.be).wt H4.out k1 k2 k3, H4.out.bk, k1, k2, k3⟩
        clear H2 H3 H4 C2
        go_upto_region 11 with (first
          | (go_at_call 40; refine (later_any now _ hn).mono ?_; rintro e w5 ⟨rfl, hw5⟩; rw [← HL.out, hw5]; clear hw5)
          | (refine step_st1 (by rfl) _ _ rfl g 14 (.int .i64 E) (by rfl) (by rfl) rfl (by kernel_rfl) rfl (enL ⟨0, F, a, par, 0, 0⟩) (by simp [enL]) H5.out.2.1 ?_; intro w6 H6))
        have H7 : Hid (Ae w w6 q ms a ∧ Bk g w6 (enL ⟨0, F, a, par, E, 0⟩).toArray 62 ∧ q < g) := ⟨H5.out.1.wt H6.out H5.out.2.2.1 H5.out.2.2.2.1 H5.out.2.2.2.2, H6.out.bk, H5.out.2.2.1⟩
        clear H5 H6
        have hix := ixa q i HI.out.2.1
        have e3 : IntKind.i64.wrap (F - 1) = (i : Int) := by rw [HI.out.1]; exact wrap_fit i (by have := HI.out.2.1; omega)
        have e5 : wrap64 (F - 1) = (i : Int) := by rw [← IntWalk.i64_left]; exact e3
        have l1 : (i : Int) < 16 := by have := HI.out.2.1; omega
        have e4 : (0 : Int) ≤ i := Int.natCast_nonneg i
        have c0 : w6.cell? ⟨g, 0, none⟩ = some (.int .i64 F) := H7.out.2.1.cell 0
        have c1 : w6.cell? ⟨g, 1, none⟩ = some (.int .i64 a.kind) := H7.out.2.1.cell 1
        have c2 : w6.cell? ⟨g, 2, none⟩ = some (.int .u32 a.addr) := H7.out.2.1.cell 2
        have c3 : w6.cell? ⟨g, 3, none⟩ = some (.int .i64 a.key) := H7.out.2.1.cell 3
        have c4 : w6.cell? ⟨g, 4, none⟩ = some (.int .i64 a.minp) := H7.out.2.1.cell 4
        have c5 : w6.cell? ⟨g, 5, none⟩ = some (.int .i64 a.maxp) := H7.out.2.1.cell 5
        have c6 : w6.cell? ⟨g, 6, none⟩ = some (.bool a.burst) := H7.out.2.1.cell 6
        have c7 : w6.cell? ⟨g, 7, none⟩ = some (.bool a.ib) := H7.out.2.1.cell 7
        have c8 : w6.cell? ⟨g, 8, none⟩ = some (.bool a.pref) := H7.out.2.1.cell 8
        have c9 : w6.cell? ⟨g, 9, none⟩ = some (.int .i64 a.ttl) := H7.out.2.1.cell 9
        have c10 : w6.cell? ⟨g, 10, none⟩ = some (.bool a.pulse) := H7.out.2.1.cell 10
        have c11 : w6.cell? ⟨g, 11, none⟩ = some (.int .i64 a.fudge) := H7.out.2.1.cell 11
        have c12 : w6.cell? ⟨g, 12, none⟩ = some (.int .i64 a.str) := H7.out.2.1.cell 12
        have c13 : w6.cell? ⟨g, 13, none⟩ = some (.int .i64 par) := H7.out.2.1.cell 13
        have c14 : w6.cell? ⟨g, 14, none⟩ = some (.int .i64 E) := H7.out.2.1.cell 14
        have cq : w6.cell? ⟨q, i, none⟩ = some (.pointer none) := by have := H7.out.1.tb.cell i HI.out.2.1; rw [this, List.getD_eq_getElem?_getD, HI.out.2.2]; rfl
        have fq : w6.frozen? ⟨q, i, none⟩ = false := H7.out.1.tb.tab.frozen i
        have hq1 : q < w6.heap.size := H7.out.1.tb.lt
        have cq2 : ∀ o, (w6.alloc o).cell? ⟨q, i, none⟩ = some (.pointer none) := fun o => by rw [World.cell?_alloc_lt _ _ _ hq1]; exact cq
        have fq2 : ∀ o, (w6.alloc o).frozen? ⟨q, i, none⟩ = false := fun o => (Bk.kept H7.out.1.tb.tab (((Below.refl w6.heap.size w6).alloc (Nat.le_refl _) o).block _ hq1)).frozen i
        have hg1 : g < w6.heap.size := H7.out.2.1.lt
        have hne : ¬ q = g := by have := H7.out.2.2; omega
        have hne2 : ¬ g = q := by have := H7.out.2.2; omega
        go_region_held3 (fun w' => w'.cell? ⟨g, 0, none⟩ = some (.int .i64 F) ∧ w'.cell? ⟨g, 1, none⟩ = some (.int .i64 a.kind) ∧ w'.cell? ⟨g, 2, none⟩ = some (.int .u32 a.addr) ∧ w'.cell? ⟨g, 3, none⟩ = some (.int .i64 a.key) ∧ w'.cell? ⟨g, 4, none⟩ = some (.int .i64 a.minp) ∧ w'.cell? ⟨g, 5, none⟩ = some (.int .i64 a.maxp) ∧ w'.cell? ⟨g, 6, none⟩ = some (.bool a.burst) ∧ w'.cell? ⟨g, 7, none⟩ = some (.bool a.ib) ∧ w'.cell? ⟨g, 8, none⟩ = some (.bool a.pref) ∧ w'.cell? ⟨g, 9, none⟩ = some (.int .i64 a.ttl) ∧ w'.cell? ⟨g, 10, none⟩ = some (.bool a.pulse) ∧ w'.cell? ⟨g, 11, none⟩ = some (.int .i64 a.fudge) ∧ w'.cell? ⟨g, 12, none⟩ = some (.int .i64 a.str) ∧ w'.cell? ⟨g, 13, none⟩ = some (.int .i64 par) ∧ w'.cell? ⟨g, 14, none⟩ = some (.int .i64 E)) (first | exact ⟨c0, c1, c2, c3, c4, c5, c6, c7, c8, c9, c10, c11, c12, c13, c14⟩ | go_keep) (fail)
        go_wp2_with fail
        rw [hQ.out]
        go_ret2
        have D := add_done H7.out.1 HT.out.lt i HI.out.2.1 ⟨w6.heap.size, F, a, par, E, 0⟩ rfl HI.out.1
        refine ⟨w6.heap.size, by unfold adN; rw [HE1.out, HF.out.1]; rfl, ?_, D.2, H7.out.1.be.size⟩
        unfold adT adM
        rw [HE1.out, if_pos rfl, HN.out, HF.out.1]
        have e6 : (F - 1).toNat = i := by have := HI.out.1; omega
        rw [e6]
        exact D.1
      · subst hp
        have HL : Hid (E = ltI now) := by show _ = _; rw [← HN.out]; unfold enI; rw [if_pos (.inr (.inl h7))]
        have HK7 : Hid (a.kind = 7) := h7
        clear h7
        go_upto_region 8 with (first
          | (refine step_ldat 41 _ rfl rfl ⟨w.heap.size, 0, none⟩ (by rfl) (asL a) _ Try.underlying41 rfl (by kernel_rfl) HC.out ?_)
          | (go_at_call 22; refine (knows_any q ms a W HW.out.tb).mono ?_; rintro e w2 ⟨rfl, hb2⟩; rw [HF.out.2]; have H2 : Hid (Ae w w2 q ms a) := HW.out.below hb2; clear hb2))
        clear HC
        have C2 : Hid (∀ j u, (asL a)[j]? = some u → w2.cell? ((⟨w.heap.size, 0, none⟩ : Addr).add j) = some u) := cells_of (l := asL a) H2.out.bx
        go_upto_region 9 with (first
          | (refine step_ldat 41 _ rfl rfl ⟨w.heap.size, 0, none⟩ (by rfl) (asL a) _ Try.underlying41 rfl (by kernel_rfl) C2.out ?_)
          | (refine step_bdL (by rfl) 62 [(0, .tmp 30), (1, .tmp 31), (2, .tmp 32)] rfl [(0, .int .i64 F), (1, .agg (asL a).toArray), (2, .int .i64 0)] (by rfl) (.agg (enL ⟨0, F, a, 0, 0, 0⟩).toArray) (run_buildE F 0 a _) ?_)
          | (refine step_alL (by rfl) 62 rfl (enL zMb).toArray (fun u => by kernel_rfl) ?_; intro w3 g H3)
          | (refine step_stL (by rfl) _ _ rfl g (enL ⟨0, F, a, 0, 0, 0⟩).toArray (by rfl) (by rfl) (enL zMb).toArray (by kernel_rfl) (by kernel_rfl) (by kernel_rfl) H3.out.bk ?_; intro w4 H4))
        have H5 : Hid (Ae w w4 q ms a ∧ Bk g w4 (enL ⟨0, F, a, 0, 0, 0⟩).toArray 62 ∧ q < g ∧ (∀ (i : Nat) m, ms[i]? = some (some m) → m.b < g) ∧ w.heap.size < g) := by
          have k1 : q < g := H3.out.at' ▸ H2.out.tb.lt
          have k2 : ∀ (i : Nat) m, ms[i]? = some (some m) → m.b < g := fun i m hm => by have h1 := (H2.out.tb.mem i m hm).1.lt; have h2 := H3.out.at'; omega
          have k3 : w.heap.size < g := by have h1 := H2.out.bx.lt; have h2 := H3.out.at'; omega
          exact ⟨(H2.out.below H3.out.be).wt H4.out k1 k2 k3, H4.out.bk, k1, k2, k3⟩
        clear H2 H3 H4 C2
        have k0 : w4.cell? ⟨w.heap.size, 0, none⟩ = some (.int .i64 7) := by rw [← HK7.out]; exact H5.out.1.bx.cell 0
        go_upto_region 11 with (first
          | (go_at_call 40; refine (later_any now _ hn).mono ?_; rintro e w5 ⟨rfl, hw5⟩; rw [← HL.out, hw5]; clear hw5)
          | (refine step_st1 (by rfl) _ _ rfl g 14 (.int .i64 E) (by rfl) (by rfl) rfl (by kernel_rfl) rfl (enL ⟨0, F, a, 0, 0, 0⟩) (by simp [enL]) H5.out.2.1 ?_; intro w6 H6))
        have H7 : Hid (Ae w w6 q ms a ∧ Bk g w6 (enL ⟨0, F, a, 0, E, 0⟩).toArray 62 ∧ q < g) := ⟨H5.out.1.wt H6.out H5.out.2.2.1 H5.out.2.2.2.1 H5.out.2.2.2.2, H6.out.bk, H5.out.2.2.1⟩
        clear H5 H6
        have hix := ixa q i HI.out.2.1
        have e3 : IntKind.i64.wrap (F - 1) = (i : Int) := by rw [HI.out.1]; exact wrap_fit i (by have := HI.out.2.1; omega)
        have e5 : wrap64 (F - 1) = (i : Int) := by rw [← IntWalk.i64_left]; exact e3
        have l1 : (i : Int) < 16 := by have := HI.out.2.1; omega
        have e4 : (0 : Int) ≤ i := Int.natCast_nonneg i
        have c0 : w6.cell? ⟨g, 0, none⟩ = some (.int .i64 F) := H7.out.2.1.cell 0
        have c1 : w6.cell? ⟨g, 1, none⟩ = some (.int .i64 a.kind) := H7.out.2.1.cell 1
        have c2 : w6.cell? ⟨g, 2, none⟩ = some (.int .u32 a.addr) := H7.out.2.1.cell 2
        have c3 : w6.cell? ⟨g, 3, none⟩ = some (.int .i64 a.key) := H7.out.2.1.cell 3
        have c4 : w6.cell? ⟨g, 4, none⟩ = some (.int .i64 a.minp) := H7.out.2.1.cell 4
        have c5 : w6.cell? ⟨g, 5, none⟩ = some (.int .i64 a.maxp) := H7.out.2.1.cell 5
        have c6 : w6.cell? ⟨g, 6, none⟩ = some (.bool a.burst) := H7.out.2.1.cell 6
        have c7 : w6.cell? ⟨g, 7, none⟩ = some (.bool a.ib) := H7.out.2.1.cell 7
        have c8 : w6.cell? ⟨g, 8, none⟩ = some (.bool a.pref) := H7.out.2.1.cell 8
        have c9 : w6.cell? ⟨g, 9, none⟩ = some (.int .i64 a.ttl) := H7.out.2.1.cell 9
        have c10 : w6.cell? ⟨g, 10, none⟩ = some (.bool a.pulse) := H7.out.2.1.cell 10
        have c11 : w6.cell? ⟨g, 11, none⟩ = some (.int .i64 a.fudge) := H7.out.2.1.cell 11
        have c12 : w6.cell? ⟨g, 12, none⟩ = some (.int .i64 a.str) := H7.out.2.1.cell 12
        have c13 : w6.cell? ⟨g, 13, none⟩ = some (.int .i64 0) := H7.out.2.1.cell 13
        have c14 : w6.cell? ⟨g, 14, none⟩ = some (.int .i64 E) := H7.out.2.1.cell 14
        have cq : w6.cell? ⟨q, i, none⟩ = some (.pointer none) := by have := H7.out.1.tb.cell i HI.out.2.1; rw [this, List.getD_eq_getElem?_getD, HI.out.2.2]; rfl
        have fq : w6.frozen? ⟨q, i, none⟩ = false := H7.out.1.tb.tab.frozen i
        have hq1 : q < w6.heap.size := H7.out.1.tb.lt
        have cq2 : ∀ o, (w6.alloc o).cell? ⟨q, i, none⟩ = some (.pointer none) := fun o => by rw [World.cell?_alloc_lt _ _ _ hq1]; exact cq
        have fq2 : ∀ o, (w6.alloc o).frozen? ⟨q, i, none⟩ = false := fun o => (Bk.kept H7.out.1.tb.tab (((Below.refl w6.heap.size w6).alloc (Nat.le_refl _) o).block _ hq1)).frozen i
        have hg1 : g < w6.heap.size := H7.out.2.1.lt
        have hne : ¬ q = g := by have := H7.out.2.2; omega
        have hne2 : ¬ g = q := by have := H7.out.2.2; omega
        go_region_held3 (fun w' => w'.cell? ⟨g, 0, none⟩ = some (.int .i64 F) ∧ w'.cell? ⟨g, 1, none⟩ = some (.int .i64 a.kind) ∧ w'.cell? ⟨g, 2, none⟩ = some (.int .u32 a.addr) ∧ w'.cell? ⟨g, 3, none⟩ = some (.int .i64 a.key) ∧ w'.cell? ⟨g, 4, none⟩ = some (.int .i64 a.minp) ∧ w'.cell? ⟨g, 5, none⟩ = some (.int .i64 a.maxp) ∧ w'.cell? ⟨g, 6, none⟩ = some (.bool a.burst) ∧ w'.cell? ⟨g, 7, none⟩ = some (.bool a.ib) ∧ w'.cell? ⟨g, 8, none⟩ = some (.bool a.pref) ∧ w'.cell? ⟨g, 9, none⟩ = some (.int .i64 a.ttl) ∧ w'.cell? ⟨g, 10, none⟩ = some (.bool a.pulse) ∧ w'.cell? ⟨g, 11, none⟩ = some (.int .i64 a.fudge) ∧ w'.cell? ⟨g, 12, none⟩ = some (.int .i64 a.str) ∧ w'.cell? ⟨g, 13, none⟩ = some (.int .i64 0) ∧ w'.cell? ⟨g, 14, none⟩ = some (.int .i64 E)) (first | exact ⟨c0, c1, c2, c3, c4, c5, c6, c7, c8, c9, c10, c11, c12, c13, c14⟩ | go_keep) (fail)
        go_wp2_with fail
        rw [hQ.out]
        go_ret2
        have D := add_done H7.out.1 HT.out.lt i HI.out.2.1 ⟨w6.heap.size, F, a, 0, E, 0⟩ rfl HI.out.1
        refine ⟨w6.heap.size, by unfold adN; rw [HE1.out, HF.out.1]; rfl, ?_, D.2, H7.out.1.be.size⟩
        unfold adT adM
        rw [HE1.out, if_pos rfl, HN.out, HF.out.1]
        have e6 : (F - 1).toNat = i := by have := HI.out.1; omega
        rw [e6]
        exact D.1
      · subst hp
        have HL : Hid (E = ltI now) := by show _ = _; rw [← HN.out]; unfold enI; rw [if_pos (.inr (.inr h8))]
        have HK8 : Hid (a.kind = 8) := h8
        clear h8
        go_upto_region 8 with (first
          | (refine step_ldat 41 _ rfl rfl ⟨w.heap.size, 0, none⟩ (by rfl) (asL a) _ Try.underlying41 rfl (by kernel_rfl) HC.out ?_)
          | (go_at_call 22; refine (knows_any q ms a W HW.out.tb).mono ?_; rintro e w2 ⟨rfl, hb2⟩; rw [HF.out.2]; have H2 : Hid (Ae w w2 q ms a) := HW.out.below hb2; clear hb2))
        clear HC
        have C2 : Hid (∀ j u, (asL a)[j]? = some u → w2.cell? ((⟨w.heap.size, 0, none⟩ : Addr).add j) = some u) := cells_of (l := asL a) H2.out.bx
        go_upto_region 9 with (first
          | (refine step_ldat 41 _ rfl rfl ⟨w.heap.size, 0, none⟩ (by rfl) (asL a) _ Try.underlying41 rfl (by kernel_rfl) C2.out ?_)
          | (refine step_bdL (by rfl) 62 [(0, .tmp 30), (1, .tmp 31), (2, .tmp 32)] rfl [(0, .int .i64 F), (1, .agg (asL a).toArray), (2, .int .i64 0)] (by rfl) (.agg (enL ⟨0, F, a, 0, 0, 0⟩).toArray) (run_buildE F 0 a _) ?_)
          | (refine step_alL (by rfl) 62 rfl (enL zMb).toArray (fun u => by kernel_rfl) ?_; intro w3 g H3)
          | (refine step_stL (by rfl) _ _ rfl g (enL ⟨0, F, a, 0, 0, 0⟩).toArray (by rfl) (by rfl) (enL zMb).toArray (by kernel_rfl) (by kernel_rfl) (by kernel_rfl) H3.out.bk ?_; intro w4 H4))
        have H5 : Hid (Ae w w4 q ms a ∧ Bk g w4 (enL ⟨0, F, a, 0, 0, 0⟩).toArray 62 ∧ q < g ∧ (∀ (i : Nat) m, ms[i]? = some (some m) → m.b < g) ∧ w.heap.size < g) := by
          have k1 : q < g := H3.out.at' ▸ H2.out.tb.lt
          have k2 : ∀ (i : Nat) m, ms[i]? = some (some m) → m.b < g := fun i m hm => by have h1 := (H2.out.tb.mem i m hm).1.lt; have h2 := H3.out.at'; omega
          have k3 : w.heap.size < g := by have h1 := H2.out.bx.lt; have h2 := H3.out.at'; omega
          exact ⟨(H2.out.below H3.out.be).wt H4.out k1 k2 k3, H4.out.bk, k1, k2, k3⟩
        clear H2 H3 H4 C2
        have k0 : w4.cell? ⟨w.heap.size, 0, none⟩ = some (.int .i64 8) := by rw [← HK8.out]; exact H5.out.1.bx.cell 0
        go_upto_region 11 with (first
          | (go_at_call 40; refine (later_any now _ hn).mono ?_; rintro e w5 ⟨rfl, hw5⟩; rw [← HL.out, hw5]; clear hw5)
          | (refine step_st1 (by rfl) _ _ rfl g 14 (.int .i64 E) (by rfl) (by rfl) rfl (by kernel_rfl) rfl (enL ⟨0, F, a, 0, 0, 0⟩) (by simp [enL]) H5.out.2.1 ?_; intro w6 H6))
        have H7 : Hid (Ae w w6 q ms a ∧ Bk g w6 (enL ⟨0, F, a, 0, E, 0⟩).toArray 62 ∧ q < g) := ⟨H5.out.1.wt H6.out H5.out.2.2.1 H5.out.2.2.2.1 H5.out.2.2.2.2, H6.out.bk, H5.out.2.2.1⟩
        clear H5 H6
        have hix := ixa q i HI.out.2.1
        have e3 : IntKind.i64.wrap (F - 1) = (i : Int) := by rw [HI.out.1]; exact wrap_fit i (by have := HI.out.2.1; omega)
        have e5 : wrap64 (F - 1) = (i : Int) := by rw [← IntWalk.i64_left]; exact e3
        have l1 : (i : Int) < 16 := by have := HI.out.2.1; omega
        have e4 : (0 : Int) ≤ i := Int.natCast_nonneg i
        have c0 : w6.cell? ⟨g, 0, none⟩ = some (.int .i64 F) := H7.out.2.1.cell 0
        have c1 : w6.cell? ⟨g, 1, none⟩ = some (.int .i64 a.kind) := H7.out.2.1.cell 1
        have c2 : w6.cell? ⟨g, 2, none⟩ = some (.int .u32 a.addr) := H7.out.2.1.cell 2
        have c3 : w6.cell? ⟨g, 3, none⟩ = some (.int .i64 a.key) := H7.out.2.1.cell 3
        have c4 : w6.cell? ⟨g, 4, none⟩ = some (.int .i64 a.minp) := H7.out.2.1.cell 4
        have c5 : w6.cell? ⟨g, 5, none⟩ = some (.int .i64 a.maxp) := H7.out.2.1.cell 5
        have c6 : w6.cell? ⟨g, 6, none⟩ = some (.bool a.burst) := H7.out.2.1.cell 6
        have c7 : w6.cell? ⟨g, 7, none⟩ = some (.bool a.ib) := H7.out.2.1.cell 7
        have c8 : w6.cell? ⟨g, 8, none⟩ = some (.bool a.pref) := H7.out.2.1.cell 8
        have c9 : w6.cell? ⟨g, 9, none⟩ = some (.int .i64 a.ttl) := H7.out.2.1.cell 9
        have c10 : w6.cell? ⟨g, 10, none⟩ = some (.bool a.pulse) := H7.out.2.1.cell 10
        have c11 : w6.cell? ⟨g, 11, none⟩ = some (.int .i64 a.fudge) := H7.out.2.1.cell 11
        have c12 : w6.cell? ⟨g, 12, none⟩ = some (.int .i64 a.str) := H7.out.2.1.cell 12
        have c13 : w6.cell? ⟨g, 13, none⟩ = some (.int .i64 0) := H7.out.2.1.cell 13
        have c14 : w6.cell? ⟨g, 14, none⟩ = some (.int .i64 E) := H7.out.2.1.cell 14
        have cq : w6.cell? ⟨q, i, none⟩ = some (.pointer none) := by have := H7.out.1.tb.cell i HI.out.2.1; rw [this, List.getD_eq_getElem?_getD, HI.out.2.2]; rfl
        have fq : w6.frozen? ⟨q, i, none⟩ = false := H7.out.1.tb.tab.frozen i
        have hq1 : q < w6.heap.size := H7.out.1.tb.lt
        have cq2 : ∀ o, (w6.alloc o).cell? ⟨q, i, none⟩ = some (.pointer none) := fun o => by rw [World.cell?_alloc_lt _ _ _ hq1]; exact cq
        have fq2 : ∀ o, (w6.alloc o).frozen? ⟨q, i, none⟩ = false := fun o => (Bk.kept H7.out.1.tb.tab (((Below.refl w6.heap.size w6).alloc (Nat.le_refl _) o).block _ hq1)).frozen i
        have hg1 : g < w6.heap.size := H7.out.2.1.lt
        have hne : ¬ q = g := by have := H7.out.2.2; omega
        have hne2 : ¬ g = q := by have := H7.out.2.2; omega
        go_region_held3 (fun w' => w'.cell? ⟨g, 0, none⟩ = some (.int .i64 F) ∧ w'.cell? ⟨g, 1, none⟩ = some (.int .i64 a.kind) ∧ w'.cell? ⟨g, 2, none⟩ = some (.int .u32 a.addr) ∧ w'.cell? ⟨g, 3, none⟩ = some (.int .i64 a.key) ∧ w'.cell? ⟨g, 4, none⟩ = some (.int .i64 a.minp) ∧ w'.cell? ⟨g, 5, none⟩ = some (.int .i64 a.maxp) ∧ w'.cell? ⟨g, 6, none⟩ = some (.bool a.burst) ∧ w'.cell? ⟨g, 7, none⟩ = some (.bool a.ib) ∧ w'.cell? ⟨g, 8, none⟩ = some (.bool a.pref) ∧ w'.cell? ⟨g, 9, none⟩ = some (.int .i64 a.ttl) ∧ w'.cell? ⟨g, 10, none⟩ = some (.bool a.pulse) ∧ w'.cell? ⟨g, 11, none⟩ = some (.int .i64 a.fudge) ∧ w'.cell? ⟨g, 12, none⟩ = some (.int .i64 a.str) ∧ w'.cell? ⟨g, 13, none⟩ = some (.int .i64 0) ∧ w'.cell? ⟨g, 14, none⟩ = some (.int .i64 E)) (first | exact ⟨c0, c1, c2, c3, c4, c5, c6, c7, c8, c9, c10, c11, c12, c13, c14⟩ | go_keep) (fail)
        go_wp2_with fail
        rw [hQ.out]
        go_ret2
        have D := add_done H7.out.1 HT.out.lt i HI.out.2.1 ⟨w6.heap.size, F, a, 0, E, 0⟩ rfl HI.out.1
        refine ⟨w6.heap.size, by unfold adN; rw [HE1.out, HF.out.1]; rfl, ?_, D.2, H7.out.1.be.size⟩
        unfold adT adM
        rw [HE1.out, if_pos rfl, HN.out, HF.out.1]
        have e6 : (F - 1).toNat = i := by have := HI.out.1; omega
        rw [e6]
        exact D.1
      · subst hp
        have HL : Hid (E = 0) := by show _ = _; rw [← HN.out]; unfold enI; rw [if_neg (by simp [h7, h8])]
        have h72 : (a.kind == 7) = false := by simpa using h7
        have h82 : (a.kind == 8) = false := by simpa using h8
        go_upto_region 8 with (first
          | (refine step_ldat 41 _ rfl rfl ⟨w.heap.size, 0, none⟩ (by rfl) (asL a) _ Try.underlying41 rfl (by kernel_rfl) HC.out ?_)
          | (go_at_call 22; refine (knows_any q ms a W HW.out.tb).mono ?_; rintro e w2 ⟨rfl, hb2⟩; rw [HF.out.2]; have H2 : Hid (Ae w w2 q ms a) := HW.out.below hb2; clear hb2))
        clear HC
        have C2 : Hid (∀ j u, (asL a)[j]? = some u → w2.cell? ((⟨w.heap.size, 0, none⟩ : Addr).add j) = some u) := cells_of (l := asL a) H2.out.bx
        go_upto_region 9 with (first
          | (refine step_ldat 41 _ rfl rfl ⟨w.heap.size, 0, none⟩ (by rfl) (asL a) _ Try.underlying41 rfl (by kernel_rfl) C2.out ?_)
          | (refine step_bdL (by rfl) 62 [(0, .tmp 30), (1, .tmp 31), (2, .tmp 32)] rfl [(0, .int .i64 F), (1, .agg (asL a).toArray), (2, .int .i64 0)] (by rfl) (.agg (enL ⟨0, F, a, 0, 0, 0⟩).toArray) (run_buildE F 0 a _) ?_)
          | (refine step_alL (by rfl) 62 rfl (enL zMb).toArray (fun u => by kernel_rfl) ?_; intro w3 g H3)
          | (refine step_stL (by rfl) _ _ rfl g (enL ⟨0, F, a, 0, 0, 0⟩).toArray (by rfl) (by rfl) (enL zMb).toArray (by kernel_rfl) (by kernel_rfl) (by kernel_rfl) H3.out.bk ?_; intro w4 H4))
        have H5 : Hid (Ae w w4 q ms a ∧ Bk g w4 (enL ⟨0, F, a, 0, 0, 0⟩).toArray 62 ∧ q < g ∧ (∀ (i : Nat) m, ms[i]? = some (some m) → m.b < g) ∧ w.heap.size < g) := by
          have k1 : q < g := H3.out.at' ▸ H2.out.tb.lt
          have k2 : ∀ (i : Nat) m, ms[i]? = some (some m) → m.b < g := fun i m hm => by have h1 := (H2.out.tb.mem i m hm).1.lt; have h2 := H3.out.at'; omega
          have k3 : w.heap.size < g := by have h1 := H2.out.bx.lt; have h2 := H3.out.at'; omega
          exact ⟨(H2.out.below H3.out.be).wt H4.out k1 k2 k3, H4.out.bk, k1, k2, k3⟩
        clear H2 H3 H4 C2
        have k0 : w4.cell? ⟨w.heap.size, 0, none⟩ = some (.int .i64 a.kind) := H5.out.1.bx.cell 0
        go_upto_region 11 with fail
        have H7 : Hid (Ae w w4 q ms a ∧ Bk g w4 (enL ⟨0, F, a, 0, E, 0⟩).toArray 62 ∧ q < g) := ⟨H5.out.1, by rw [HL.out]; exact H5.out.2.1, H5.out.2.2.1⟩
        clear H5
        obtain ⟨w6, hw6⟩ : ∃ w6, w6 = w4 := ⟨_, rfl⟩
        subst hw6
        have hix := ixa q i HI.out.2.1
        have e3 : IntKind.i64.wrap (F - 1) = (i : Int) := by rw [HI.out.1]; exact wrap_fit i (by have := HI.out.2.1; omega)
        have e5 : wrap64 (F - 1) = (i : Int) := by rw [← IntWalk.i64_left]; exact e3
        have l1 : (i : Int) < 16 := by have := HI.out.2.1; omega
        have e4 : (0 : Int) ≤ i := Int.natCast_nonneg i
        have c0 : w6.cell? ⟨g, 0, none⟩ = some (.int .i64 F) := H7.out.2.1.cell 0
        have c1 : w6.cell? ⟨g, 1, none⟩ = some (.int .i64 a.kind) := H7.out.2.1.cell 1
        have c2 : w6.cell? ⟨g, 2, none⟩ = some (.int .u32 a.addr) := H7.out.2.1.cell 2
        have c3 : w6.cell? ⟨g, 3, none⟩ = some (.int .i64 a.key) := H7.out.2.1.cell 3
        have c4 : w6.cell? ⟨g, 4, none⟩ = some (.int .i64 a.minp) := H7.out.2.1.cell 4
        have c5 : w6.cell? ⟨g, 5, none⟩ = some (.int .i64 a.maxp) := H7.out.2.1.cell 5
        have c6 : w6.cell? ⟨g, 6, none⟩ = some (.bool a.burst) := H7.out.2.1.cell 6
        have c7 : w6.cell? ⟨g, 7, none⟩ = some (.bool a.ib) := H7.out.2.1.cell 7
        have c8 : w6.cell? ⟨g, 8, none⟩ = some (.bool a.pref) := H7.out.2.1.cell 8
        have c9 : w6.cell? ⟨g, 9, none⟩ = some (.int .i64 a.ttl) := H7.out.2.1.cell 9
        have c10 : w6.cell? ⟨g, 10, none⟩ = some (.bool a.pulse) := H7.out.2.1.cell 10
        have c11 : w6.cell? ⟨g, 11, none⟩ = some (.int .i64 a.fudge) := H7.out.2.1.cell 11
        have c12 : w6.cell? ⟨g, 12, none⟩ = some (.int .i64 a.str) := H7.out.2.1.cell 12
        have c13 : w6.cell? ⟨g, 13, none⟩ = some (.int .i64 0) := H7.out.2.1.cell 13
        have c14 : w6.cell? ⟨g, 14, none⟩ = some (.int .i64 E) := H7.out.2.1.cell 14
        have cq : w6.cell? ⟨q, i, none⟩ = some (.pointer none) := by have := H7.out.1.tb.cell i HI.out.2.1; rw [this, List.getD_eq_getElem?_getD, HI.out.2.2]; rfl
        have fq : w6.frozen? ⟨q, i, none⟩ = false := H7.out.1.tb.tab.frozen i
        have hq1 : q < w6.heap.size := H7.out.1.tb.lt
        have cq2 : ∀ o, (w6.alloc o).cell? ⟨q, i, none⟩ = some (.pointer none) := fun o => by rw [World.cell?_alloc_lt _ _ _ hq1]; exact cq
        have fq2 : ∀ o, (w6.alloc o).frozen? ⟨q, i, none⟩ = false := fun o => (Bk.kept H7.out.1.tb.tab (((Below.refl w6.heap.size w6).alloc (Nat.le_refl _) o).block _ hq1)).frozen i
        have hg1 : g < w6.heap.size := H7.out.2.1.lt
        have hne : ¬ q = g := by have := H7.out.2.2; omega
        have hne2 : ¬ g = q := by have := H7.out.2.2; omega
        go_region_held3 (fun w' => w'.cell? ⟨g, 0, none⟩ = some (.int .i64 F) ∧ w'.cell? ⟨g, 1, none⟩ = some (.int .i64 a.kind) ∧ w'.cell? ⟨g, 2, none⟩ = some (.int .u32 a.addr) ∧ w'.cell? ⟨g, 3, none⟩ = some (.int .i64 a.key) ∧ w'.cell? ⟨g, 4, none⟩ = some (.int .i64 a.minp) ∧ w'.cell? ⟨g, 5, none⟩ = some (.int .i64 a.maxp) ∧ w'.cell? ⟨g, 6, none⟩ = some (.bool a.burst) ∧ w'.cell? ⟨g, 7, none⟩ = some (.bool a.ib) ∧ w'.cell? ⟨g, 8, none⟩ = some (.bool a.pref) ∧ w'.cell? ⟨g, 9, none⟩ = some (.int .i64 a.ttl) ∧ w'.cell? ⟨g, 10, none⟩ = some (.bool a.pulse) ∧ w'.cell? ⟨g, 11, none⟩ = some (.int .i64 a.fudge) ∧ w'.cell? ⟨g, 12, none⟩ = some (.int .i64 a.str) ∧ w'.cell? ⟨g, 13, none⟩ = some (.int .i64 0) ∧ w'.cell? ⟨g, 14, none⟩ = some (.int .i64 E)) (first | exact ⟨c0, c1, c2, c3, c4, c5, c6, c7, c8, c9, c10, c11, c12, c13, c14⟩ | go_keep) (fail)
        go_wp2_with fail
        rw [hQ.out]
        go_ret2
        have D := add_done H7.out.1 HT.out.lt i HI.out.2.1 ⟨w6.heap.size, F, a, 0, E, 0⟩ rfl HI.out.1
        refine ⟨w6.heap.size, by unfold adN; rw [HE1.out, HF.out.1]; rfl, ?_, D.2, H7.out.1.be.size⟩
        unfold adT adM
        rw [HE1.out, if_pos rfl, HN.out, HF.out.1]
        have e6 : (F - 1).toNat = i := by have := HI.out.1; omega
        rw [e6]
        exact D.1
end Go.Proofs.Ytnjdmkgkpdebdaa
